import PyProof.Rows.All
import Wide.All
import OpenK.AllK
import Wide.FinOn
import Lean
import PyProof.EqAt
import PyProof.EqKinds
import PyProof.TupleCall
import PyProof.NeKinds
import KE.KLam
import KE.KNestM
import PySem.Challenge.RW_fourway_k58_changes_refused_by_webs
set_option Elab.async false
set_option linter.all false
set_option maxRecDepth 100000
open Array renaming getElem?_eq_some_iff->qBe,length_toList->qDx,toList->qEk
open Bool renaming false_ne_true->qAb,and_eq_true->qBd,and_false->qCj,eq_iff_iff->qCy,and_true->qDd,or_true->qDr,or_eq_true->qEw
open Char renaming toNat->qG1
open Classical renaming propDecidable->qA1
open False renaming elim->qA4
open ForInStep renaming yield->qC2
open Int renaming toNat_natCast->qC4,emod_lt_of_pos->qE7,emod_nonneg->qF1,mul_one->qFw
open List renaming getElem?_eq_some_iff->qA2,getD_eq_getElem?_getD->qA5,replicate->qA7,getElem?_append_right->qA9,mem_cons->qAa,getElem?_append_left->qAc,getElem?_set_self->qAd,getElem?_set_ne->qAf,range->qAg,size_toArray->qAh,getElem?_map->qAi,map_cons->qAj,not_mem_nil->qAk,mem_cons_of_mem->qAl,getElem?_eq_getElem->qAq,mem_append_right->qAr,lookup_cons->qAu,length_cons->qAv,length_map->qAx,mem_cons_self->qB2,contains_cons->qB9,mem_of_getElem?->qBb,replicate_succ->qBf,drop_eq_getElem_cons->qBg,append_nil->qBi,lookup->qBj,getElem?_replicate->qBn,length_append->qBq,flatten_cons->qBs,map_append->qBt,mem_append->qBz,getElem?_range->qC8,nodup_cons->qCe,append_assoc->qCi,length_replicate->qCk,mem_map->qCm,map_map->qCo,length_take->qCr,eq_nil_of_length_eq_zero->qCt,mem_append_left->qCu,filterMap_cons->qCx,of_mem_zip->qD0,getElem_range->qD3,drop_zero->qD5,extract_eq_drop_take->qD6,length_range->qDa,all_cons->qDb,any_cons->qDc,all_eq_true->qDh,take_length->qDi,cons_append->qDj,drop_length->qDk,range_succ_eq_map->qDl,take_of_length_le->qDm,length_singleton->qDo,forIn_cons->qDp,range_succ->qDq,set_append_right->qDs,set_getElem_self->qDt,map_congr_left->qE0,mem_map_of_mem->qE1,mem_filterMap->qE2,mem_singleton->qE3,ext_getElem?->qEg,getElem?_set->qEh,Nodup->qEi,length_drop->qEo,filter_cons->qEq,mem_filter->qEs,length_set->qEt,nil_append->qEu,mem_range->qF2,foldl->qFq,set_set->qFt,range'->qFx,cons->qG2
open List.Pairwise renaming nil->qEd
open Nat renaming le_refl->qA6,lt_of_lt_of_le->qA8,le_trans->qAm,ne_of_lt->qAn,zero_le->qB8,le_of_lt->qBu,lt_irrefl->qBv,ne_of_gt->qC0,le_succ->qC7,lt_succ_self->qCq,le_of_eq->qD2,le_add_right->qDg,zero_add->qDu,lt_of_le_of_lt->qE5,lt_succ_of_lt->qEe,min_self->qEl,le_max_left->qEv,le_zero->qEz,min_eq_left->qF0
open Nat.succ renaming inj->qFv
open Ne renaming symm->qCc
open Option renaming map_eq_some_iff->qBy,isSome_iff_exists->qC9,bind_some->qCs,getD_some->qDf,none->qDz,isSome_some->qE4,getD_none->qEp
open Option.some renaming inj->qB5,injEq->qG0
open Or renaming inl->qFr,inr->qFs
open PyProof.Rows renaming callWith_type1->qC1,callWith_builtin1->qCl
open PySem renaming mem_of_lookup->qBx,call->qEf,Within->qEj
open PySem.Builtin.Str renaming tooLong->qD8
open PySem.Challenge renaming rw_fourway_k58_changes_refused_by_webs->qBl,pw_fourway_k58_changes_refused_by_webs->qCv
open PySem.EqMixed renaming eq_bool_str->qF6,eq_str_bool->qF7,ne_bool_str->qFb,ne_str_bool->qFc,eq_int_str->qFh,eq_str_int->qFj,ne_int_str->qFn,ne_str_int->qFp
open PySem.EqNone renaming eq_none_none->qF3,eq_none_bool->qF4,eq_bool_none->qF5,ne_none_none->qF8,ne_none_bool->qF9,ne_bool_none->qFa,eq_none_int->qFe,eq_none_str->qFf,eq_int_none->qFg,eq_str_none->qFi,ne_none_int->qFk,ne_none_str->qFl,ne_int_none->qFm,ne_str_none->qFo
open PySem.F renaming excBase_ValueError->qC5,slot_list_append->qCa,type_list_append->qCb,plainAttrs_list->qCf,plainAttrs_str->qCh
open PySem.W renaming Frag->qA0,findIn->qA3,keepIn->qAe,nsIn->qAo,subIn->qAp,emptyDict->qAs,fnOf->qAt,instObj->qAw,codeIn->qAy,kia_one->qAz,hasDictIn->qB0,typeIn->qB1,clsIn->qB3,mg_none_of->qB4,kitOne->qB6,isFn->qB7,mg_of->qBa,plainGet->qBc,makesIn->qBh,codeHdIn->qBk,mroIn->qBm,plainOver->qBo,callWith_K->qBp,exmOne->qBr,Looks->qBw,specialIn->qC3,looks_findIn->qC6,takerIn->qCd,cellsFrom_some->qCg,methodCall_KW->qCn,handedIn->qCp,plainGet_of->qCz,OpenLaw->qD1,lookIn->qD4,notCls->qD7,methodObj->qD9,makes_of->qDe,takesIn->qDn,InstAt->qDv,tabObj->qDw,findObj_own->qDy,WalkO->qE6,make_core->qEa,kitx_list->qEb,kitx_dict->qEc,envX->qEm,InitBack->qEn,readsIn->qEx,findCls->qEy,kmHook->qFd
open PySem.W.Looks renaming ld->qEr,of_pure->qFu,here->qFy
open PySem.Within renaming cons->qFz
open Sum renaming inl->qE8,inr->qE9
open True renaming intro->qCw
set_option compiler.extract_closed false
set_option genSizeOf false
set_option genSizeOfSpec false
set_option bootstrap.genMatcherCode false
noncomputable section
namespace L2
open PySem PySem.Spec PyProof.Rows
abbrev Key:=Sum Int Str
noncomputable def zSE:Key->Value->Bool
 |.inl k,v=>Value.isInt k v
 |.inr x,v=>Value.isStrOf x v
noncomputable def keyH(w:World):Key->Int
 |.inl k=>hashInt k
 |.inr x=>hashStr w x
theorem zB1:∀{k:Key}{v:Value},zSE k v=true->(∃i t,k=qE8 i/\v=Value.int i t)\/(∃x t,k=qE9 x/\v=Value.str x t)
 |.inl i,v,h=>by
  obtain⟨t,e⟩:=Value.isInt_shape (k:=i) (v:=v) h;exact .inl ⟨i,t,rfl,e⟩
 |.inr x,v,h=>by
  obtain⟨t,e⟩:=Value.isStrOf_shape (x:=x) (v:=v) h;exact .inr ⟨x,t,rfl,e⟩
theorem zSD(a b:Int):decide ((qE8 a:Key)=qE8 b)=(a==b):=by
 by_cases e:a=b
 ·subst e;simp
 ·have h:¬(qE8 a:Key)=qE8 b:=fun q=>e (Sum.inl.inj q)
  rw[decide_eq_false h];exact(beq_eq_false_iff_ne.mpr e).symm
theorem zSA(a b:Str):decide ((qE9 a:Key)=qE9 b)=decide (a=b):=by
 by_cases e:a=b
 ·subst e;simp
 ·have h:¬(qE9 a:Key)=qE9 b:=fun q=>e (Sum.inr.inj q)
  rw[decide_eq_false h,decide_eq_false e]
theorem zSC(a:Int)(b:Str):decide ((qE8 a:Key)=qE9 b)=false:=decide_eq_false (fun q=>nomatch q)
theorem zSB(a:Str)(b:Int):decide ((qE9 a:Key)=qE8 b)=false:=decide_eq_false (fun q=>nomatch q)
def zIJ(prog:Program)(w:World):PySem.KeyKind prog w Key where
 is:=zSE
 hash:=keyH w
 inj:=fun v a b ha hb=>by
  rcases zB1 ha with⟨i,t,rfl,rfl⟩|⟨x,t,rfl,rfl⟩
  ·rcases zB1 hb with⟨j,u,rfl,e⟩|⟨y,u,rfl,e⟩
   ·injection e with e1 _;rw[e1]
   ·exact nomatch e
  ·rcases zB1 hb with⟨j,u,rfl,e⟩|⟨y,u,rfl,e⟩
   ·exact nomatch e
   ·injection e with e1 _;rw[e1]
 byValue:=fun k v h=>by
  rcases zB1 h with⟨i,t,rfl,rfl⟩|⟨x,t,rfl,rfl⟩<;>rfl
 pyHash:=fun hv h=>by
  rcases zB1 hv with⟨i,t,rfl,rfl⟩|⟨x,t,rfl,rfl⟩
  ·exact wpAny_pyHash_int h
  ·exact wpAny_pyHash_str h
 eqBool:=fun hu hv h=>by
  rcases zB1 hu with⟨i,t,rfl,rfl⟩|⟨x,t,rfl,rfl⟩
  ·rcases zB1 hv with⟨j,u,rfl,rfl⟩|⟨y,u,rfl,rfl⟩
   ·rw[zSD]at h;exact wpAny_eqBool_int h
   ·rw[zSC]at h;exact SeqAt.EqAt.int_str i t y u _ _ _ _ h
  ·rcases zB1 hv with⟨j,u,rfl,rfl⟩|⟨y,u,rfl,rfl⟩
   ·rw[zSB]at h;exact SeqAt.EqAt.str_int x t j u _ _ _ _ h
   ·rw[zSA]at h;exact wpAny_eqBool_str h
 «strs»:=fun k x t v h=>by
  rcases zB1 h with⟨i,u,rfl,e⟩|⟨y,u,rfl,e⟩
  ·exact nomatch e
  ·injection e with e1 _
   subst e1;cases v<;>rfl
inductive V where
 |non|bl (b:Bool)|int (i:Int)|str (x:Str)|byt (b:Array UInt8)|flt (b:UInt64)|ref (a:Addr)|ty (n:String)
 deriving DecidableEq
noncomputable def RelV:V->Value->Prop
 |.non,u=>u=Value.none
 |.bl b,u=>u=Value.bool b
 |.int i,u=>∃t,u=Value.int i t
 |.str x,u=>∃t,u=Value.str x t
 |.byt b,u=>∃t,u=Value.bytes b t
 |.flt b,u=>∃t,u=Value.float b t
 |.ref a,u=>u=Value.ref a
 |.ty n,u=>u=Value.type n
abbrev Vals:List V->List Value->Prop:=Paired RelV
theorem Vals.length{xs:List V}{us:List Value}(r:Vals xs us):xs.length=us.length:=Paired.length r
theorem Vals.get:∀{xs:List V}{us:List Value}{i:Nat}{x:V},Vals xs us->xs[i]?=some x->∃u,us[i]?=some u/\RelV x u
 |_,_,_,_,.nil,e=>by simp at e
 |_,_,0,_,.cons r _,e=>by simp at e;subst e;exact⟨_,rfl,r⟩
 |_,_,i+1,x,.cons _ t,e=>by
  obtain⟨u,h1,h2⟩:=Vals.get (i:=i) (x:=x) t (by simpa using e);exact⟨u,by simpa using h1,h2⟩
theorem Vals.set{x:V}{u:Value}(r:RelV x u):∀{xs:List V}{us:List Value}(i:Nat),Vals xs us->Vals (xs.set i x) (us.set i u)
 |_,_,_,.nil=>.nil
 |_,_,0,.cons _ t=>.cons r t
 |_,_,i+1,.cons q t=>.cons q (Vals.set r i t)
theorem Vals.append:∀{xs ys:List V}{us ws:List Value},Vals xs us->Vals ys ws->Vals (xs++ys) (us++ws)
 |_,_,_,_,.nil,s=>s
 |_,_,_,_,.cons r t,s=>.cons r (Vals.append t s)
theorem Vals.take:∀{xs:List V}{us:List Value}(n:Nat),Vals xs us->Vals (xs.take n) (us.take n)
 |_,_,0,_=>.nil
 |_,_,_+1,.nil=>.nil
 |_,_,n+1,.cons r t=>.cons r (Vals.take n t)
theorem Vals.drop:∀{xs:List V}{us:List Value}(n:Nat),Vals xs us->Vals (xs.drop n) (us.drop n)
 |_,_,0,r=>r
 |_,_,_+1,.nil=>.nil
 |_,_,n+1,.cons _ t=>Vals.drop n t
def RelO:Option V->Option Value->Prop
 |some v,some u=>RelV v u
 |none,none=>True
 |_,_=>False
def KV{κ:Type}:List (κ×V)->List (κ×Value)->Prop:=Paired fun(p:κ×V)(q:κ×Value)=>p.1=q.1/\RelV p.2 q.2
noncomputable def kV:Key->V
 |.inl i=>.int i
 |.inr x=>.str x
inductive HO where
 |lst (xs:List V)
 |tup (xs:List V)
 |dK (kvs:List (Key×V))|dT (kvs:List (List Key×V))
 |set (S:Int->Bool) (n:Nat)
 |ins (C dx:Addr) (fs:List (Str×V))
 |own (x:Addr)
 |xd (fs:List (Str×V))
 |met (f x:Addr)
 |rng (lo hi:Int)
 |frz (o:Obj) (u:HO)
 |tbl (ps:Array Value)
 |lam (q:Str)
 |fn (o:Obj) (q:Str)
 |ext (φ:Heap->Prop)
abbrev Hp:=Addr->Option HO
noncomputable def upd(H:Hp)(a:Addr)(o:HO):Hp:=fun b=>if b=a then some o else H b
theorem zAD{H:Hp}{a:Addr}{o:HO}:upd H a o a=some o:=by unfold upd;rw[if_pos rfl]
theorem zA9{H:Hp}{a b:Addr}{o:HO}(h:b≠a):upd H a o b=H b:=by unfold upd;rw[if_neg h]
theorem zKQ{H:Hp}{a:Addr}{o u:HO}:upd (upd H a o) a u=upd H a u:=by
 funext b;unfold upd;split<;>rfl
theorem zN6{H:Hp}{a b:Addr}{o u:HO}(h:H a=some o)(h':H b=some u)(d:o≠u):a≠b:=by
 intro e;subst e;rw[h]at h';exact d (qB5 h')
theorem zAI{H:Hp}{a b:Addr}{o:HO}(h:H a=some o)(h':H b=none):a≠b:=by
 intro e;subst e;rw[h]at h';cases h'
def CodR(o:Obj)(q:Str):Prop:=∃vs t,o.data=.fields vs/\vs[1]?=some (.str q t)
section
variable(P:Program)(w:World)
def ObjOk(H:Hp)(h:Heap)(a:Addr):HO->Prop
 |.lst xs=>xs.length<=sizeLine/\∃(its:List Value)(n:Nat),Vals xs its/\h.get? a=some { cls:=.type "list",data:=.seq its.toArray n }
 |.tup xs=>xs.length<=sizeLine/\∃its:List Value,Vals xs its/\IsTup h a its.toArray
 |.dK kvs=>kvs.length<=sizeLine/\(a==sysModules)=false/\∃vs,KV kvs vs/\h.DictOf (zIJ P w) a vs
 |.dT kvs=>kvs.length<=sizeLine/\(a==sysModules)=false/\∃xs:List (List Key×Addr×Value),
   Paired (fun(p:List Key×V)(q:List Key×Addr×Value)=>p.1=q.1/\H q.2.1=some (.tup (p.1.map kV))/\RelV p.2 q.2.2) kvs xs /\
   ∃o es ep,h.get? a=some o/\o.ExactDict/\o.data=.dict es ep/\es.toList=xs.map (entryOfKey (tupleKind (zIJ P w)))/\(xs.map (·.1)).Nodup
 |.set S n=>h.SetOf (intKind P w) a S n
 |.ins C dx fs=>H dx=some (.own a)/\fs.length<=1000/\dx≠a/\h.get? a=some (qAw C dx) /\
   ∃mA,h.Ns1 dx mA/\(∀f,RelO (fs.lookup f) (mA f))/\qEj mA (fs.map (·.1))
 |.own _=>∃o,h.get? a=some o
 |.xd fs=>∃mA,h.Ns1 a mA/\∀f,RelO (fs.lookup f) (mA f)
 |.rng lo hi=>∃t u v,h.get? a=some { cls:=.type "range",data:=.fields #[.int lo t,.int hi u,.int 1 v] }
 |.frz o u=>h.get? a=some o/\ObjOk H h a u
 |.tbl ps=>h.get? a=some { cls:=.none,data:=.fields ps }
 |.lam q=>∃ps:Array Value,h.get? a=some { cls:=.none,data:=.fields ps }/\TriplesOk ps.toList/\∀pos cv,codeAmong pos ps.toList=some cv->∃c oc u,cv=.ref c/\H c=some (.frz oc u)/\CodR oc q
 |.fn o q=>h.get? a=some o/\∃fd c oc u,o.data=.func fd/\fd.code=.ref c/\H c=some (.frz oc u)/\CodR oc q
 |.met f x=>h.get? a=some (qD9 (.ref f) (.ref x))
 |.ext φ=>φ h/\(∃o,h.get? a=some o)/\∀h1 h2:Heap,φ h1->(∀o,h1.get? a=some o->h2.get? a=some o)->φ h2
def HOk(H:Hp)(h:Heap):Prop:=∀a o,H a=some o->ObjOk P w H h a o
end
section
variable{P:Program}{w:World}{H H':Hp}{h h':Heap}{a:Addr}{o:HO}
theorem ObjOk.lt(x:ObjOk P w H h a o):a<h.objs.size:=by
 cases o with
 |lst xs=>obtain⟨_,_,_,_,e⟩:=x;exact Heap.lt_size e
 |tup xs=>obtain⟨_,_,_,p⟩:=x;exact p.lt
 |dK kvs=>obtain⟨_,_,_,_,o,_,_,e,_⟩:=x;exact Heap.lt_size e
 |dT kvs=>obtain⟨_,_,_,_,o,_,_,e,_⟩:=x;exact Heap.lt_size e
 |set S n=>obtain⟨o,_,_,_,e,_⟩:=x;exact Heap.lt_size e
 |ins C dx fs=>obtain⟨_,_,_,e,_⟩:=x;exact Heap.lt_size e
 |own y=>obtain⟨_,e⟩:=x;exact Heap.lt_size e
 |xd fs=>obtain⟨_,⟨_,_,_,e,_⟩,_⟩:=x;exact Heap.lt_size e
 |rng lo hi=>obtain⟨_,_,_,e⟩:=x;exact Heap.lt_size e
 |frz ob u=>obtain⟨e,_⟩:=x;exact Heap.lt_size e
 |tbl ps=>exact Heap.lt_size (show h.get? a=some _ from x)
 |lam q=>obtain⟨_,e,_⟩:=x;exact Heap.lt_size e
 |fn ob q=>obtain⟨e,_⟩:=x;exact Heap.lt_size e
 |met f y=>exact Heap.lt_size (show h.get? a=some _ from x)
 |ext φ=>obtain⟨_,⟨_,e⟩,_⟩:=x;exact Heap.lt_size e
theorem Paired.mapP{α β:Type}{F G:α->β->Prop}:∀{l₁:List α}{l₂:List β},Paired F l₁ l₂->(∀a b,F a b->G a b)->Paired G l₁ l₂
 |_,_,.nil,_=>.nil
 |_,_,.cons r t,f=>.cons (f _ _ r) (Paired.mapP t f)
theorem ObjOk.stay(x:ObjOk P w H h a o)(k:∀b u,(b=a\/H b=some (.own a))->h.get? b=some u->h'.get? b=some u)
  (ho:∀b,H b=some (.own a)->H' b=some (.own a)) (ht:∀b xs,H b=some (.tup xs)->H' b=some (.tup xs)) (hf:∀b o u,H b=some (.frz o u)->(∃vs,o.data=.fields vs)->H' b=some (.frz o u)):ObjOk P w H' h' a o:=by
 induction o with
 |lst xs=>obtain⟨z,its,n,r,e⟩:=x;exact⟨z,its,n,r,k _ _ (.inl rfl) e⟩
 |tup xs=>obtain⟨z,its,r,ob,e,c⟩:=x;exact⟨z,its,r,ob,k _ _ (.inl rfl) e,c⟩
 |dK kvs=>obtain⟨z,y,vs,r,ob,es,ep,e,c⟩:=x;exact⟨z,y,vs,r,ob,es,ep,k _ _ (.inl rfl) e,c⟩
 |dT kvs=>
  obtain⟨z,y,xs,r,ob,es,ep,e,c⟩:=x;exact⟨z,y,xs,Paired.mapP r fun p q z=>⟨z.1,ht _ _ z.2.1,z.2.2⟩,ob,es,ep,k _ _ (.inl rfl) e,c⟩
 |set S n=>obtain⟨ob,es,ep,t,e,c⟩:=x;exact⟨ob,es,ep,t,k _ _ (.inl rfl) e,c⟩
 |ins C dx fs=>
  obtain⟨d,z,ne,e,mA,⟨od,es,ep,e2,c⟩,r⟩:=x;exact⟨ho _ d,z,ne,k _ _ (.inl rfl) e,mA,⟨od,es,ep,k _ _ (.inr d) e2,c⟩,r⟩
 |own y=>obtain⟨ob,e⟩:=x;exact⟨ob,k _ _ (.inl rfl) e⟩
 |xd fs=>obtain⟨mA,⟨od,es,ep,e,c⟩,r⟩:=x;exact⟨mA,⟨od,es,ep,k _ _ (.inl rfl) e,c⟩,r⟩
 |rng lo hi=>obtain⟨t,u,v,e⟩:=x;exact⟨t,u,v,k _ _ (.inl rfl) e⟩
 |frz ob u ih=>obtain⟨e,q⟩:=x;exact⟨k _ _ (.inl rfl) e,ih q⟩
 |tbl ps=>
  have e:h.get? a=some { cls:=.none,data:=.fields ps }:=x;show h'.get? a=some { cls:=.none,data:=.fields ps };exact k a _ (.inl rfl) e
 |lam q=>
  obtain⟨ps,e,t,r⟩:=x;exact⟨ps,k _ _ (.inl rfl) e,t,fun pos cv z=>let⟨c,oc,u,e1,e2,e3⟩:=r pos cv z;⟨c,oc,u,e1,hf _ _ _ e2 (let⟨vs,_,d,_⟩:=e3;⟨vs,d⟩),e3⟩⟩
 |fn ob q=>
  obtain⟨e,fd,c,oc,u,e1,e2,e3,e4⟩:=x;exact⟨k _ _ (.inl rfl) e,fd,c,oc,u,e1,e2,hf _ _ _ e3 (let⟨vs,_,d,_⟩:=e4;⟨vs,d⟩),e4⟩
 |met f y=>
  have e:h.get? a=some (qD9 (.ref f) (.ref y)):=x;show h'.get? a=some (qD9 (.ref f) (.ref y));exact k a _ (.inl rfl) e
 |ext φ=>obtain⟨p,⟨o,e⟩,st⟩:=x;exact⟨st _ _ p fun o q=>k _ _ (.inl rfl) q,⟨o,k _ _ (.inl rfl) e⟩,st⟩
theorem HOk.lt(x:HOk P w H h)(e:H a=some o):a<h.objs.size:=(x a o e).lt
theorem HOk.fresh(x:HOk P w H h)(e:h.objs.size<=a):H a=none:=by
 cases q:H a with
 |none=>rfl
 |some u=>exact absurd (qA8 (x.lt q) e) (qBv _)
theorem HOk.kept(x:HOk P w H h)(k:∀b u,h.get? b=some u->h'.get? b=some u):HOk P w H h':=fun a o e=>
 (x a o e).stay (fun b u _ q=>k b u q) (fun _ q=>q) (fun _ _ q=>q) fun _ _ _ q _=>q
theorem HOk.laid(x:HOk P w H h)(k:∀b u,h.get? b=some u->h'.get? b=some u)(hp:h.objs.size<=a)(new:ObjOk P w (upd H a o) h' a o):HOk P w (upd H a o) h':=fun b u e=>by
 have hn:=x.fresh hp
 by_cases hb:b=a
 ·subst hb;rw[zAD]at e;cases e;exact new
 ·rw[zA9 hb]at e;exact(x b u e).stay (fun c v _ q=>k c v q) (fun c q=>by rw[zA9 (zAI q hn)];exact q) (fun c xs q=>by rw[zA9 (zAI q hn)];exact q) fun c _ _ q _=>by rw[zA9 (zAI q hn)];exact q
end
def Rd(H:Hp)(a:Addr)(u:HO):Prop:=H a=some u\/∃o,H a=some (.frz o u)
theorem Rd.ok{P:Program}{w:World}{H:Hp}{h:Heap}{a:Addr}{u:HO}(r:Rd H a u)(x:HOk P w H h):ObjOk P w H h a u:=by
 rcases r with r|⟨o,r⟩
 ·exact x a u r
 ·obtain⟨_,q⟩:=x a _ r;exact q
noncomputable def Mut:Option HO->Prop
 |some (.lst _)=>True
 |some (.dK _)=>True
 |some (.dT _)=>True
 |some (.set _ _)=>True
 |some (.ins _ _ _)=>True
 |some (.ext _)=>True
 |some (.lam _)=>True
 |_=>False
section
variable{P:Program}{w:World}{H:Hp}{h h':Heap}{x e:Addr}{o':HO}
theorem HOk.write(ok:HOk P w H h)(mu:Mut (H x))(he:e=x\/H e=some (.own x))(k:∀b u,b≠e->h.get? b=some u->h'.get? b=some u)(heo:∃u,h'.get? e=some u)
  (new:ObjOk P w (upd H x o') h' x o'):HOk P w (upd H x o') h':=fun b u q=>by
 have nown:∀c y,H c=some (.own y)->c≠x:=fun c y r z=>by subst z;rw[r]at mu;exact mu
 have ntup:∀c xs,H c=some (.tup xs)->c≠x:=fun c xs r z=>by subst z;rw[r]at mu;exact mu
 have nfrz:∀c o v,H c=some (.frz o v)->c≠x:=fun c o v r z=>by subst z;rw[r]at mu;exact mu
 by_cases hb:b=x
 ·subst hb;rw[zAD]at q;cases q;exact new
 ·rw[zA9 hb]at q
  by_cases hbe:b=e
  ·have q':H b=some (.own x):=by
    rcases he with z|z
    ·exact absurd (hbe.trans z) hb
    ·rw[hbe];exact z
   rw[q]at q';cases q';obtain⟨v,hv⟩:=heo;exact⟨v,by rw[hbe];exact hv⟩
  ·refine(ok b u q).stay (fun c v hc r=>k c v ?_ r) (fun c r=>by rw[zA9 (nown c b r)];exact r) (fun c xs r=>by rw[zA9 (ntup c xs r)];exact r) fun c o v r _=>by rw[zA9 (nfrz c o v r)];exact r
   rcases hc with rfl|hc
   ·exact hbe
   ·rintro rfl
    rcases he with z|z
    ·exact nown c b hc z
    ·rw[hc]at z;cases z;exact hb rfl
end
structure Un(fs ex:List Addr)(H H':Hp)(h h':Heap):Prop where
 keep:∀b o,h.get? b=some o->H b=none->b∉fs->b∉ex->h'.get? b=some o
 slot:∀b o,h.get? b=some o->H b=none->b∈fs->b∉ex->∃sl,h'.get? b=some { o with slots:=sl }
 free:∀b o,h.get? b=some o->H b=none->b∉ex->H' b=none
 there:∀b o,h.get? b=some o->b∉ex->∃o',h'.get? b=some o'
 tups:∀b xs,H b=some (.tup xs)->H' b=some (.tup xs)
 frzs:∀b o u,H b=some (.frz o u)->H' b=some (.frz o u)
 tbls:∀b ps,H b=some (.tbl ps)->∃more,H' b=some (.tbl (ps++more))
section
variable{fs fs' ex ex':List Addr}{H H1 H2:Hp}{h h1 h2 h':Heap}{a x e:Addr}{o:HO}
theorem Un.any(u:Un fs ex H H1 h h1){b:Addr}{ob:Obj}(q:h.get? b=some ob)(n:H b=none)(hx:b∉ex):∃sl,h1.get? b=some { ob with slots:=sl }:=by
 by_cases hb:b∈fs
 ·exact u.slot b ob q n hb hx
 ·exact⟨ob.slots,u.keep b ob q n hb hx⟩
theorem Un.kept(k:∀b u,h.get? b=some u->h'.get? b=some u):Un fs ex H H h h':=
 ⟨fun b ob q _ _ _=>k b ob q,fun b ob q _ _ _=>⟨ob.slots,k b ob q⟩,fun _ _ _ n _=>n,fun b ob q _=>⟨ob,k b ob q⟩,fun _ _ q=>q,fun _ _ _ q=>q,fun _ ps q=>⟨#[],by rw[q];simp⟩⟩
theorem Un.refl:Un fs ex H H h h:=Un.kept fun _ _ q=>q
theorem Un.laid(k:∀b u,h.get? b=some u->h'.get? b=some u)(hp:h.objs.size<=a)(hn:H a=none):Un fs ex H (upd H a o) h h' where
 keep:=fun b u q _ _ _=>k b u q
 slot:=fun b u q _ _ _=>⟨u.slots,k b u q⟩
 free:=fun b u q n _=>by rw[zA9 (qAn (qA8 (Heap.lt_size q) hp))];exact n
 there:=fun b u q _=>⟨u,k b u q⟩
 tups:=fun b xs q=>by rw[zA9 (zAI q hn)];exact q
 frzs:=fun b u xs q=>by rw[zA9 (zAI q hn)];exact q
 tbls:=fun b ps q=>⟨#[],by rw[zA9 (zAI q hn),q];simp⟩
theorem Un.write(mu:Mut (H x))(he:e=x\/H e=some (.own x))(k:∀b u,b≠e->h.get? b=some u->h'.get? b=some u)(heo:∃u,h'.get? e=some u):Un fs ex H (upd H x o) h h':=by
 have hx:∀b,H b=none->b≠x:=fun b n z=>by subst z;rw[n]at mu;exact mu
 have hb:∀b,H b=none->b≠e:=fun b n z=>by
  subst z
  rcases he with r|r
  ·exact hx b n r
  ·rw[n]at r;cases r
 have hm:∀b u,H b=some u->¬Mut (some u)->b≠x:=fun b u q nm z=>by subst z;rw[q]at mu;exact nm mu
 refine⟨fun b u q n _ _=>k b u (hb b n) q,fun b u q n _ _=>⟨u.slots,k b u (hb b n) q⟩,fun b u q n _=>by rw[zA9 (hx b n)];exact n,fun b u q _=>?_,
  fun b xs q=>by rw[zA9 (hm b _ q fun z=>z)];exact q,fun b u xs q=>by rw[zA9 (hm b _ q fun z=>z)];exact q,fun b ps q=>⟨#[],by rw[zA9 (hm b _ q fun z=>z),q];simp⟩⟩
 by_cases hbe:b=e
 ·subst hbe;exact heo
 ·exact⟨u,k b u hbe q⟩
end
noncomputable def trk(h:Heap)(H:Hp):List Addr:=(qAg h.objs.size).filter fun a=>(H a).isSome
def hidT(h:Heap)(H:Hp):Heap:=PySem.W.hideAll h (trk h H)
theorem zLZ(h:Heap)(H:Hp):(hidT h H).objs.size=h.objs.size:=PySem.W.hideAll_size _ _
theorem zNJ{h:Heap}{H:Hp}{b:Addr}{o:Obj}(e:h.get? b=some o)(n:H b=none):(hidT h H).get? b=some o:=
 PySem.W.hideAll_get _ e fun hm=>by
  have q:(H b).isSome=true:=(qEs.mp hm).2;rw[n]at q;simp at q
theorem zPW{h:Heap}{H:Hp}{b:Addr}{o:Obj}(e:(hidT h H).get? b=some o):h.get? b=some o/\H b=none:=by
 have e':h.get? b=some o:=PySem.W.of_hideAll (trk h H) e;refine⟨e',?_⟩;cases q:H b with
 |none=>rfl
 |some x=>
  have hm:b∈trk h H:=qEs.mpr ⟨qF2.mpr (Heap.lt_size e'),by simp[q]⟩;have z:(hidT h H).get? b=none:=PySem.W.hideAll_none (trk h H) hm;rw[z]at e;cases e
noncomputable def zQG(g h:Heap)(L:Addr):List (Addr×Obj):=(qAg h.objs.size).filterMap fun a=>if a=L\/(g.get? a).isSome=true then none else(h.get? a).map fun o=>(a,o)
def rest(g h:Heap)(L d:Addr):List (Addr×Obj):=(zQG g h L).filter fun p=>decide (p.1≠d)
end L2
namespace L2
open PySem PySem.Spec PyProof.Rows
structure Mod(K:qA0)(mg:Str->Option Value)(base:Heap):Prop where
 kin:K.In base
 glob:base.Ns mainGlobals mg
 blt:∃mb,base.Ns builtinsNs mb/\∀x:Str,x ≠ "__name__" -> mb x=bootBuiltins x
 nolimit:base.NoLimit
 bm:∃bm ob,mg "__builtins__" = some (.ref bm)/\bm≠builtinsNs/\base.get? bm=some ob/\ob.cls=.type "module" /\ ob.dict=some builtinsNs/\ob.data=.plain
structure Cx where
 prog:Program
 w:World
 K:qA0
 mg:Str->Option Value
 base:Heap
 A:Around
 N:List Str
 s₀:Shared
 H₀:Hp
 env:Env
 outer:List Env
 stack:List Env
 ex:List Addr
 fn:Str->Bool
 calm:Bool
 pn:List (Addr×Obj)
 xe:Value->Shared->Prop
noncomputable def frs(l:List Env):List Addr:=l.filterMap (·.frame)
abbrev Cx.fs(X:Cx):List Addr:=frs X.outer
def Vis(sc:Scope)(x:Str):Prop:=sc.names.lookup x=some .local\/sc.names.lookup x=some .cell\/sc.names.lookup x=some .free
def Loc(sc:Scope)(x:Str):Prop:=sc.names.lookup x=some .local\/sc.names.lookup x=some .cell
def Look(env:Env)(h:Heap)(m:Str->Option Value)(x:Str)(u:Value):Prop:=
 (env.kindOf x=some .local/\m x=some u)\/((env.kindOf x=some .cell\/env.kindOf x=some .free)/\∃c,env.cells.lookup x=some c/\h.IsCell c (some u))
structure Cx.Ok(X:Cx):Prop where
 mod:Mod X.K X.mg X.base
 kind:X.env.scope.kind=.function
 glob:X.env.globals=mainGlobals
 blt:X.env.builtins=builtinsNs
 above:X.s₀.heap.objs.size<=X.env.locals
 inj:∀x y c,X.env.cells.lookup x=some c->X.env.cells.lookup y=some c->x=y
 has:∀x,(X.env.kindOf x=some .cell\/X.env.kindOf x=some .free)->∃c,X.env.cells.lookup x=some c
 cab:∀x c,X.fn x=true->X.env.cells.lookup x=some c->X.s₀.heap.objs.size<=c
 hd:X.calm=true->X.A.handled=none
 frames:X.A.frames=some X.stack
 stk:X.stack=X.outer\/(X.stack=X.env::X.outer/\X.env.frame=some X.env.locals)
 exf:∀b∈X.ex,b≠X.env.locals/\∀x c,X.env.cells.lookup x=some c->c≠b
 bs:∀b o,X.base.get? b=some o->X.s₀.heap.get? b=some o/\X.H₀ b=none
 bsz:X.base.objs.size<=X.s₀.heap.objs.size
 noex:∀b o,X.base.get? b=some o->b∉X.ex
 exfs:∀b∈X.ex,b∉X.fs
 funs:X.s₀.heap.FunFrames X.base X.outer
 frf:∀b∈X.fs,X.H₀ b=none
structure Inv(X:Cx)(pins:List (Addr×Obj))(σ:List (Option V))(H:Hp)(s:Shared):Prop where
 ok:X.Ok
 os:s.os=X.s₀.os
 bare:AllBare s.gens
 base:Un X.fs X.ex X.H₀ H X.s₀.heap s.heap
 loc:∃m,s.heap.Ns X.env.locals m/\∀(i:Nat)(x:Str)(v:V),X.N[i]?=some x->σ[i]?=some (some v)->Vis X.env.scope x->∃u,RelV v u/\Look X.env s.heap m x u
 cell:∀x c,X.env.cells.lookup x=some c->∃v,s.heap.IsCell c v
 free:H X.env.locals=none
 freeC:∀x c,X.env.cells.lookup x=some c->H c=none
 pin:∀p∈X.pn++pins,s.heap.get? p.1=some p.2/\H p.1=none/\p.1≠X.env.locals/\p.1∉X.fs/\∀v,p.2.data≠.cell v
 hok:HOk X.prog X.w H s.heap
 len:σ.length=X.N.length
section
variable{X:Cx}{pins:List (Addr×Obj)}{σ:List (Option V)}{H H':Hp}{s:Shared}{h':Heap}
theorem Cx.Ok.nofr(ok:X.Ok){b:Addr}{o:Obj}(e:X.base.get? b=some o):b∉X.fs:=fun hb=>by
 have:=(ok.funs.mem hb).1
 rw[e]at this;cases this
theorem Inv.bs(I:Inv X pins σ H s):∀b o,X.base.get? b=some o->s.heap.get? b=some o/\H b=none:=fun b o e=>
 ⟨I.base.keep b o (I.ok.bs b o e).1 (I.ok.bs b o e).2 (I.ok.nofr e) (I.ok.noex b o e),I.base.free b o (I.ok.bs b o e).1 (I.ok.bs b o e).2 (I.ok.noex b o e)⟩
theorem Inv.bk(I:Inv X pins σ H s):∀b o,X.base.get? b=some o->s.heap.get? b=some o:=fun b o e=>(I.bs b o e).1
theorem Inv.mod(I:Inv X pins σ H s):Mod X.K X.mg X.base:=I.ok.mod
theorem Inv.kIn(I:Inv X pins σ H s):X.K.In s.heap:=I.ok.mod.kin.keeps I.bk
theorem Inv.fr(I:Inv X pins σ H s):∃m,Fr X.base X.env.locals s.heap m:=
 let⟨m,hn,_⟩:=I.loc
 ⟨m,hn,I.bk,qAm I.ok.bsz I.ok.above⟩
theorem Inv.lt(I:Inv X pins σ H s):X.env.locals<s.heap.objs.size:=let⟨_,hn,_⟩:=I.loc;hn.lt
theorem Inv.sz(I:Inv X pins σ H s):X.s₀.heap.objs.size<=s.heap.objs.size:=qAm I.ok.above (qBu I.lt)
theorem Inv.nofs(I:Inv X pins σ H s){a:Addr}(h:s.heap.objs.size<=a):a∉X.fs:=fun hb=>by
 obtain⟨_,o,ho,_⟩:=I.ok.funs.mem hb;exact absurd (qA8 (Heap.lt_size ho) (qAm I.sz h)) (qBv _)
theorem Inv.cne(I:Inv X pins σ H s):∀x c,X.env.cells.lookup x=some c->c≠X.env.locals:=fun x c e z=>by
 obtain⟨v,o,ho,hd⟩:=I.cell x c e;obtain⟨m,⟨o',es,ep,ho',hd',_⟩,_⟩:=I.loc;rw[z,ho']at ho;cases ho;rw[hd']at hd;cases hd
theorem Inv.funs(I:Inv X pins σ H s):s.heap.FunFrames X.base X.outer:=by
 have all:∀(l:List Env),(∀b∈frs l,b∈X.fs)->X.s₀.heap.FunFrames X.base l->s.heap.FunFrames X.base l:=by
  intro l
  induction l with
  |nil=>intro _ _;trivial
  |cons env r ih=>
   intro hs hl;obtain⟨hk,⟨L,o,hf,hn,ho,hd⟩,hr⟩:=hl;have hL:L∈X.fs:=hs L (by unfold frs;rw[qCx,hf];exact qB2);obtain⟨sl,e⟩:=I.base.slot L o ho (I.ok.frf L hL) hL fun z=>I.ok.exfs L z hL
   exact⟨hk,⟨L,_,hf,hn,e,hd⟩,ih (fun b hb=>hs b (by unfold frs;rw[qCx,hf];exact qAl _ hb)) hr⟩
 exact all X.outer (fun _ hb=>hb) I.ok.funs
theorem Inv.stack(I:Inv X pins σ H s):s.heap.FunFrames X.base X.stack:=by
 rcases I.ok.stk with e|⟨e,hf⟩
 ·rw[e];exact I.funs
 ·rw[e];obtain⟨m,hn,_⟩:=I.loc;refine .cons (by rw[I.ok.kind];decide) hf hn ?_ I.funs;exact Heap.get?_none_of_le (qAm I.ok.bsz I.ok.above)
theorem Inv.stkSub(I:Inv X pins σ H s):∀b∈frs X.stack,b∈X.env.locals::X.fs:=fun b hb=>by
 rcases I.ok.stk with e|⟨e,hf⟩
 ·rw[e]at hb;exact qAl _ hb
 ·rw[e]at hb;unfold frs at hb;rw[qCx,hf]at hb;exact hb
theorem Inv.stkFree(I:Inv X pins σ H s):∀b∈frs X.stack,H b=none:=fun b hb=>by
 rcases qAa.mp (I.stkSub b hb)with e|hb
 ·rw[e];exact I.free
 ·obtain⟨_,o,ho,_⟩:=I.ok.funs.mem hb;exact I.base.free b o ho (I.ok.frf b hb) fun z=>I.ok.exfs b z hb
theorem Inv.step{g':Array GenState}{t':Nat}{d':Drawn}{ch:List Addr}(I:Inv X pins σ H s)
  (hch:∀b∈ch,(b∈X.ex\/X.s₀.heap.objs.size<=b)/\b≠X.env.locals/\(∀x c,X.env.cells.lookup x=some c->c≠b)/\∀p∈X.pn++pins,p.1≠b)
  (keep:∀b o,b≠X.env.locals->b∉X.fs->b∉ch->s.heap.get? b=some o->H b=none->h'.get? b=some o)
  (slot:∀b o,b≠X.env.locals->b∈X.fs->b∉ch->s.heap.get? b=some o->H b=none->∃sl,h'.get? b=some { o with slots:=sl }) (free:∀b o,b∉ch->s.heap.get? b=some o->H b=none->H' b=none)
  (there:∀b o,b∉ch->s.heap.get? b=some o->∃o',h'.get? b=some o')
  (tups:∀b xs,H b=some (.tup xs)->H' b=some (.tup xs)) (frzs:∀b o u,H b=some (.frz o u)->H' b=some (.frz o u)) (tbls:∀b ps,H b=some (.tbl ps)->∃more,H' b=some (.tbl (ps++more)))
  (ns:∀m,s.heap.Ns X.env.locals m->h'.Ns X.env.locals m) (hok:HOk X.prog X.w H' h') (hg:AllBare g') :
  Inv X pins σ H' { s with heap:=h',gens:=g',drawn:=d',toks:=t' }:=by
 have neL:∀b o,X.s₀.heap.get? b=some o->b≠X.env.locals:=fun b o e=>qAn (qA8 (Heap.lt_size e) I.ok.above)
 have neC:∀b o,X.s₀.heap.get? b=some o->b∉X.ex->b∉ch:=fun b o e hx hb=>by
  rcases(hch b hb).1 with z|z
  ·exact hx z
  ·exact absurd (qA8 (Heap.lt_size e) z) (qBv _)
 have cellK:∀x c,X.env.cells.lookup x=some c->∀v,s.heap.IsCell c v->h'.IsCell c v:=fun x c e v ⟨o,ho,hd⟩=>by
  have nch:c∉ch:=fun z=>(hch c z).2.2.1 x c e rfl
  by_cases hc:c∈X.fs
  ·obtain⟨sl,q⟩:=slot c o (I.cne x c e) hc nch ho (I.freeC x c e);exact⟨_,q,hd⟩
  ·exact⟨o,keep c o (I.cne x c e) hc nch ho (I.freeC x c e),hd⟩
 refine⟨I.ok,I.os,hg,⟨fun b o e n hb hx=>?_,fun b o e n hb hx=>?_,fun b o e n hx=>?_,fun b o e hx=>?_,fun b xs e=>tups b xs (I.base.tups b xs e),fun b o xs e=>frzs b o xs (I.base.frzs b o xs e),fun b ps e=>?_⟩,?_,fun x c e=>?_,?_,fun x c e=>?_,fun p hp=>?_,hok,I.len⟩
 ·exact keep b o (neL b o e) hb (neC b o e hx) (I.base.keep b o e n hb hx) (I.base.free b o e n hx)
 ·obtain⟨sl,e1⟩:=I.base.slot b o e n hb hx;obtain⟨sl',e2⟩:=slot b _ (neL b o e) hb (neC b o e hx) e1 (I.base.free b o e n hx);exact⟨sl',e2⟩
 ·obtain⟨o',e1⟩:=I.base.there b o e hx;exact free b o' (neC b o e hx) e1 (I.base.free b o e n hx)
 ·obtain⟨o',e1⟩:=I.base.there b o e hx;exact there b o' (neC b o e hx) e1
 ·obtain⟨m1,e1⟩:=I.base.tbls b ps e;obtain⟨m2,e2⟩:=tbls b _ e1;exact⟨m1++m2,by rw[e2,Array.append_assoc]⟩
 ·obtain⟨m,hn,hl⟩:=I.loc;refine⟨m,ns m hn,fun i x v e1 e2 e3=>?_⟩;obtain⟨u,r,l⟩:=hl i x v e1 e2 e3;refine⟨u,r,?_⟩
  rcases l with l|⟨k,c,e,z⟩
  ·exact .inl l
  ·exact .inr ⟨k,c,e,cellK x c e _ z⟩
 ·obtain⟨v,z⟩:=I.cell x c e;exact⟨v,cellK x c e v z⟩
 ·obtain⟨m,⟨o,_,_,ho,_⟩,_⟩:=I.loc;exact free _ o (fun z=>(hch _ z).2.1 rfl) ho I.free
 ·obtain⟨v,o,ho,hd⟩:=I.cell x c e;exact free c o (fun z=>(hch c z).2.2.1 x c e rfl) ho (I.freeC x c e)
 ·obtain⟨e,n,ne,nf,d⟩:=I.pin p hp;have nch:p.1∉ch:=fun z=>(hch p.1 z).2.2.2 p hp rfl
  exact⟨keep p.1 p.2 ne nf nch e n,free p.1 p.2 nch e n,ne,nf,d⟩
theorem Inv.un{t':Nat}(I:Inv X pins σ H s)(u:Un X.fs [] H H' s.heap h')(hok:HOk X.prog X.w H' h'):Inv X pins σ H' { s with heap:=h',toks:=t' }:=by
 obtain⟨m,⟨o,es,ep,ho,r⟩,_⟩:=id I.loc;obtain⟨sl,hL⟩:=u.any ho I.free (by simp);exact I.step (g':=s.gens) (d':=s.drawn) (ch:=[]) (fun _ z=>nomatch z) (fun b o _ hb _ e n=>u.keep b o e n hb (by simp)) (fun b o _ hb _ e n=>u.slot b o e n hb (by simp)) (fun b o _ e n=>u.free b o e n (by simp)) (fun b o _ e=>u.there b o e (by simp)) u.tups u.frzs u.tbls (fun m' hm=>by
  obtain⟨o',es',ep',ho',r'⟩:=hm;rw[ho]at ho';cases ho';exact⟨_,es',ep',hL,r'⟩) hok I.bare
theorem Inv.call{g':Array GenState}{t':Nat}{d':Drawn}{ch:List Addr}(I:Inv X pins σ H s)(u:Un (frs X.stack) ch H H' s.heap h')(hok:HOk X.prog X.w H' h')(hg:AllBare g')
  (hch:∀b∈ch,(b∈X.ex\/X.s₀.heap.objs.size<=b)/\b≠X.env.locals/\(∀x c,X.env.cells.lookup x=some c->c≠b)/\∀p∈X.pn++pins,p.1≠b) :
  Inv X pins σ H' { s with heap:=h',gens:=g',drawn:=d',toks:=t' }:=by
 obtain⟨m,⟨o,es,ep,ho,r⟩,_⟩:=id I.loc;obtain⟨sl,hL⟩:=u.any ho I.free fun z=>(hch _ z).2.1 rfl
 exact I.step (ch:=ch) hch (fun b o hL hb hc e n=>u.keep b o e n (fun z=>(qAa.mp (I.stkSub b z)).elim hL hb) hc) (fun b o _ _ hc e n=>u.any e n hc) (fun b o hc e n=>u.free b o e n hc) (fun b o hc e=>u.there b o e hc) u.tups u.frzs u.tbls (fun m' hm=>by
  obtain⟨o',es',ep',ho',r'⟩:=hm;rw[ho]at ho';cases ho';exact⟨_,es',ep',hL,r'⟩) hok hg
theorem Inv.turned{t':Nat}{it:Addr}(I:Inv X pins σ H s)(k:∀b o,b≠it->s.heap.get? b=some o->h'.get? b=some o)(hn:H it=none)(hL:it≠X.env.locals)
  (h1:it∈X.ex\/X.s₀.heap.objs.size<=it) (h2:∀x c,X.env.cells.lookup x=some c->c≠it) (h3:∀p∈X.pn++pins,p.1≠it):Inv X pins σ H { s with heap:=h',toks:=t' }:=by
 have nit:∀b u,H b=some u->b≠it:=fun b u e z=>by rw[z,hn]at e;cases e
 refine I.step (g':=s.gens) (d':=s.drawn) (ch:=[it]) (fun b hb=>?_) (fun b o _ _ hc e _=>k b o (fun z=>hc (by simp[z])) e) (fun b o _ _ hc e _=>⟨o.slots,k b o (fun z=>hc (by simp[z])) e⟩) (fun _ _ _ _ n=>n)
  (fun b o hc e=>⟨o,k b o (fun z=>hc (by simp[z])) e⟩) (fun _ _ e=>e) (fun _ _ _ e=>e) (fun b ps e=>⟨#[],by rw[e];simp⟩) (fun m hm=>?_) (fun b u e=>?_) I.bare
 ·have e:b=it:=by simpa using hb
  subst e;exact⟨h1,hL,h2,h3⟩
 ·obtain⟨o,es,ep,ho,r⟩:=hm;exact⟨o,es,ep,k _ o (qCc hL) ho,r⟩
 ·refine(I.hok b u e).stay (fun c v hc q=>k c v ?_ q) (fun _ q=>q) (fun _ _ q=>q) fun _ _ _ q _=>q
  rcases hc with z|z
  ·rw[z];exact nit b u e
  ·exact nit c _ z
theorem Inv.tok(I:Inv X pins σ H s)(t:Nat):Inv X pins σ H { s with toks:=t }:=I.un (h':=s.heap) (t':=t) Un.refl I.hok
theorem Inv.kept{t':Nat}(I:Inv X pins σ H s)(k:∀b u,s.heap.get? b=some u->h'.get? b=some u):Inv X pins σ H { s with heap:=h',toks:=t' }:=I.un (Un.kept k) (I.hok.kept k)
theorem Inv.laid{a:Addr}{o:HO}{t':Nat}(I:Inv X pins σ H s)(k:∀b u,s.heap.get? b=some u->h'.get? b=some u)(hp:s.heap.objs.size<=a)(new:ObjOk X.prog X.w (upd H a o) h' a o) :
  Inv X pins σ (upd H a o) { s with heap:=h',toks:=t' }:=I.un (Un.laid k hp (I.hok.fresh hp)) (I.hok.laid k hp new)
theorem Inv.write{x e:Addr}{o:HO}{t':Nat}(I:Inv X pins σ H s)(mu:Mut (H x))(he:e=x\/H e=some (.own x))(k:∀b u,b≠e->s.heap.get? b=some u->h'.get? b=some u)(heo:∃u,h'.get? e=some u)
  (new:ObjOk X.prog X.w (upd H x o) h' x o):Inv X pins σ (upd H x o) { s with heap:=h',toks:=t' }:=I.un (Un.write mu he k heo) (I.hok.write mu he k heo new)
theorem Inv.weak{σ':List (Option V)}(I:Inv X pins σ H s)(hl:σ'.length=σ.length)(w:∀(i:Nat) v,σ'[i]?=some (some v)->σ[i]?=some (some v)):Inv X pins σ' H s:=
 ⟨I.ok,I.os,I.bare,I.base,let⟨m,hn,hl'⟩:=I.loc;⟨m,hn,fun i x v e1 e2 e3=>hl' i x v e1 (w i v e2) e3⟩,I.cell,I.free,I.freeC,I.pin,I.hok,hl.trans I.len⟩
theorem Inv.pins_of{pins':List (Addr×Obj)}(I:Inv X pins σ H s)(h:∀p∈pins',s.heap.get? p.1=some p.2/\H p.1=none/\p.1≠X.env.locals/\p.1∉X.fs/\∀v,p.2.data≠.cell v):Inv X pins' σ H s:=
 ⟨I.ok,I.os,I.bare,I.base,I.loc,I.cell,I.free,I.freeC,fun p hp=>(qBz.mp hp).elim (fun z=>I.pin p (qCu _ z)) (h p),I.hok,I.len⟩
theorem zGN{N:List Str}(hN:N.Nodup){i j:Nat}{x:Str}(a:N[i]?=some x)(b:N[j]?=some x):i=j:=by
 obtain⟨h1,e1⟩:=qA2.mp a;obtain⟨h2,e2⟩:=qA2.mp b;exact(List.getElem_inj hN).mp (e1.trans e2.symm)
theorem zHB{M:Model}{A:Around}{E:Value->Shared->Prop}{i:Nat}{x:Str}{v:V}{u:Value}{Q:Unit->Shared->Prop}(I:Inv X pins σ H s)(hN:X.N.Nodup)(hi:X.N[i]?=some x)(hx:Loc X.env.scope x)(r:RelV v u)
  (h:∀s',Inv X pins (σ.set i (some v)) H s'->(∃a,Heap.SameBut a s.heap s'.heap/\(a=X.env.locals\/X.env.cells.lookup x=some a))->Q () s') (hf:X.fn x=true\/X.env.scope.names.lookup x=some .local:=by first|exact .inl rfl|exact .inr rfl|assumption):wpAny M A (storeName X.env x u) Q E s:=by
 obtain⟨m,hn,hl⟩:=id I.loc;have hcls:(X.env.scope.kind==.class||(X.env.scope.kind==.module&&X.env.locals != X.env.globals))=false:=by rw[I.ok.kind];rfl
 have hiσ:i<σ.length:=by rw[I.len];exact(qA2.mp hi).1
 have cne:=I.cne;have tracked:∀{a:Addr}{h':Heap},(∃o,s.heap.get? a=some o/\H a=none)->Heap.SameBut a s.heap h'->HOk X.prog X.w H h':=fun{a h'} ha hs b ob e=>by
  obtain⟨_,_,hfree⟩:=ha;refine(I.hok b ob e).stay (fun c w' hc q=>(hs.2 c ?_).trans q) (fun _ q=>q) (fun _ _ q=>q) fun _ _ _ q _=>q
  rintro rfl
  rcases hc with rfl|hc
  ·rw[hfree]at e;cases e
  ·rw[hfree]at hc;cases hc
 rcases hx with hk|hk
 ·refine wpAny_storeName_local hk hn (fun h' hn' hs=>?_) hcls;obtain⟨oL,_,_,hoL,_⟩:=id hn;refine h _ ⟨I.ok,I.os,I.bare,⟨fun b o e n hb hx=>?_,fun b o e n hb hx=>?_,I.base.free,fun b o e hx=>?_,I.base.tups,I.base.frzs,I.base.tbls⟩,⟨_,hn',fun j y v' e1 e2 e3=>?_⟩,fun y c e=>?_,I.free,I.freeC,fun p hp=>?_,tracked ⟨oL,hoL,I.free⟩ hs,by simpa using I.len⟩ ⟨_,hs,.inl rfl⟩
  ·exact(hs.2 b (qAn (qA8 (Heap.lt_size e) I.ok.above))).trans (I.base.keep b o e n hb hx)
  ·obtain⟨sl,e1⟩:=I.base.slot b o e n hb hx;exact⟨sl,(hs.2 b (qAn (qA8 (Heap.lt_size e) I.ok.above))).trans e1⟩
  ·obtain⟨o',e1⟩:=I.base.there b o e hx;exact⟨o',(hs.2 b (qAn (qA8 (Heap.lt_size e) I.ok.above))).trans e1⟩
  ·by_cases hj:j=i
   ·subst hj;rw[hi]at e1;cases e1;rw[qAd hiσ]at e2;cases e2;exact⟨u,r,.inl ⟨hk,by simp⟩⟩
   ·rw[qAf (qCc hj)]at e2;obtain⟨u',r',q⟩:=hl j y v' e1 e2 e3;refine⟨u',r',?_⟩
    rcases q with⟨k,e⟩|⟨k,c,e,z⟩
    ·refine .inl ⟨k,?_⟩
     have:y≠x:=fun e=>hj (zGN hN e1 (e▸hi))
     simp[this,e]
    ·exact .inr ⟨k,c,e,z.sameBut hs (cne y c e)⟩
  ·obtain⟨w',z⟩:=I.cell y c e;exact⟨w',z.sameBut hs (cne y c e)⟩
  ·obtain⟨e,n,ne,nf,d⟩:=I.pin p hp;exact⟨(hs.2 p.1 ne).trans e,n,ne,nf,d⟩
 ·have hfn:X.fn x=true:=by
   rcases hf with z|z
   ·exact z
   ·rw[z]at hk;cases hk
  obtain⟨c,hc⟩:=I.ok.has x (.inl hk);obtain⟨w',z⟩:=I.cell x c hc;refine wpAny_storeName_cell I.ok.kind hk hc z (fun h' hc' hs=>?_);obtain⟨oc,hoc,hocd⟩:=id z;refine h { s with heap:=h' } ⟨I.ok,I.os,I.bare,⟨fun b o e n hb hx=>?_,fun b o e n hb hx=>?_,I.base.free,fun b o e hx=>?_,I.base.tups,I.base.frzs,I.base.tbls⟩,⟨m,hn.sameBut hs (qCc (cne x c hc)),fun j y v' e1 e2 e3=>?_⟩,fun y c' e=>?_,I.free,I.freeC,fun p hp=>?_,tracked ⟨oc,hoc,I.freeC x c hc⟩ hs,by simpa using I.len⟩ ⟨c,hs,.inr hc⟩
  ·exact(hs.2 b (qAn (qA8 (Heap.lt_size e) (I.ok.cab x c hfn hc)))).trans (I.base.keep b o e n hb hx)
  ·obtain⟨sl,e1⟩:=I.base.slot b o e n hb hx;exact⟨sl,(hs.2 b (qAn (qA8 (Heap.lt_size e) (I.ok.cab x c hfn hc)))).trans e1⟩
  ·obtain⟨o',e1⟩:=I.base.there b o e hx;exact⟨o',(hs.2 b (qAn (qA8 (Heap.lt_size e) (I.ok.cab x c hfn hc)))).trans e1⟩
  ·by_cases hj:j=i
   ·subst hj;rw[hi]at e1;cases e1;rw[qAd hiσ]at e2;cases e2;exact⟨u,r,.inr ⟨.inl hk,c,hc,hc'⟩⟩
   ·rw[qAf (qCc hj)]at e2;obtain⟨u',r',q⟩:=hl j y v' e1 e2 e3;refine⟨u',r',?_⟩
    rcases q with q|⟨k,c',e,z'⟩
    ·exact .inl q
    ·refine .inr ⟨k,c',e,z'.sameBut hs ?_⟩
     rintro rfl
     exact hj (zGN hN e1 (I.ok.inj _ _ _ e hc▸hi))
  ·by_cases hcc:c'=c
   ·subst hcc;exact⟨_,hc'⟩
   ·obtain⟨w2,z2⟩:=I.cell y c' e;exact⟨w2,z2.sameBut hs hcc⟩
  ·obtain⟨e,n,ne,nf,d⟩:=I.pin p hp;refine⟨(hs.2 p.1 ?_).trans e,n,ne,nf,d⟩;intro q;rw[q,hoc]at e;have q':oc=p.2:=qB5 e;exact d w' (by rw[<- q'];exact hocd)
theorem zG8{M:Model}{A:Around}{E:Value->Shared->Prop}{i:Nat}{x:Str}{v:V}{u:Value}{Q:Unit->Shared->Prop}(I:Inv X pins σ H s)(hN:X.N.Nodup)(hi:X.N[i]?=some x)(hx:Loc X.env.scope x)(r:RelV v u)
  (h:∀s',Inv X pins (σ.set i (some v)) H s'->Q () s') (hf:X.fn x=true\/X.env.scope.names.lookup x=some .local:=by first|exact .inl rfl|exact .inr rfl|assumption):wpAny M A (storeName X.env x u) Q E s:=
 zHB I hN hi hx r (fun s' I' _=>h s' I') hf
theorem Inv.call'{s':Shared}{ch:List Addr}(I:Inv X pins σ H s)(ho:s'.os=s.os)(u:Un (frs X.stack) ch H H' s.heap s'.heap)(hok:HOk X.prog X.w H' s'.heap)(hg:AllBare s'.gens)
  (hch:∀b∈ch,(b∈X.ex\/X.s₀.heap.objs.size<=b)/\b≠X.env.locals/\(∀x c,X.env.cells.lookup x=some c->c≠b)/\∀p∈X.pn++pins,p.1≠b):Inv X pins σ H' s':=by
 obtain⟨h',g',d',t',o'⟩:=s';have e:o'=s.os:=ho;subst e;exact I.call (g':=g') (t':=t') (d':=d') u hok hg hch
end
abbrev XK:=Value->Option Addr->Hp->Prop
abbrev St:=List (Option V)
abbrev VK:=V->Hp->Prop
abbrev TE:=St->Hp->VK->Prop
abbrev TT:=St->Hp->(Bool->Hp->Prop)->Prop
abbrev TA:=St->Hp->(List V->Hp->Prop)->Prop
structure Ends where
 nx:St->Hp->Prop
 rt:VK
 bk:St->Hp->Prop:=fun _ _=>False
 ct:St->Hp->Prop:=fun _ _=>False
abbrev TS:=Ends->St->Hp->Prop
def EP(X:Cx)(pins:List (Addr×Obj))(σ:St)(Q:VK)(u:Value)(s':Shared):Prop:=∃v H',Inv X pins σ H' s'/\RelV v u/\Q v H'
def TP(X:Cx)(pins:List (Addr×Obj))(σ:St)(Q:Bool->Hp->Prop)(b:Bool)(s':Shared):Prop:=∃H',Inv X pins σ H' s'/\Q b H'
def AP(X:Cx)(pins:List (Addr×Obj))(σ:St)(Q:List V->Hp->Prop)(us:List Value)(s':Shared):Prop:=∃vs H',Inv X pins σ H' s'/\Vals vs us/\Q vs H'
def SP(X:Cx)(pins:List (Addr×Obj))(D:Ends)(f:Flow)(s':Shared):Prop:=
 match f with
 |.next=>∃σ' H',Inv X pins σ' H' s'/\D.nx σ' H'
 |.brk=>∃σ' H',Inv X pins σ' H' s'/\D.bk σ' H'
 |.cont=>∃σ' H',Inv X pins σ' H' s'/\D.ct σ' H'
 |.ret u=>∃v σ' H',Inv X pins σ' H' s'/\RelV v u/\D.rt v H'
def PE(X:Cx)(e:Expr)(t:TE):Prop:=
 ∀(pins:List (Addr×Obj))(s:Shared)(σ:St)(H:Hp)(Q:VK),Inv X pins σ H s->t σ H Q->wpAny (model X.prog X.w) X.A (eval e X.env) (EP X pins σ Q) X.xe s
def PT(X:Cx)(e:Expr)(t:TT):Prop:=
 ∀(pins:List (Addr×Obj))(s:Shared)(σ:St)(H:Hp)(Q:Bool->Hp->Prop),Inv X pins σ H s->t σ H Q->wpAny (model X.prog X.w) X.A (isTrue e X.env (eval e X.env)) (TP X pins σ Q) X.xe s
def PW(X:Cx)(e:Expr)(t:TT):Prop:=
 ∀(whole:Sem Value)(pins:List (Addr×Obj))(s:Shared)(σ:St)(H:Hp)(Q:Bool->Hp->Prop),Inv X pins σ H s->t σ H Q->wpAny (model X.prog X.w) X.A (isTrue e X.env whole) (TP X pins σ Q) X.xe s
theorem PW.pt{X:Cx}{e:Expr}{t:TT}(h:PW X e t):PT X e t:=h _
def PA(X:Cx)(es:List Expr)(t:TA):Prop:=
 ∀(pos:Pos)(pins:List (Addr×Obj))(s:Shared)(σ:St)(H:Hp)(Q:List V->Hp->Prop),Inv X pins σ H s->t σ H Q->wpAny (model X.prog X.w) X.A (spliced (backTo pos (starEach es X.env))) (AP X pins σ Q) X.xe s
def PS(X:Cx)(st:Stmt)(t:TS):Prop:=
 ∀(pins:List (Addr×Obj))(s:Shared)(σ:St)(H:Hp)(D:Ends),Inv X pins σ H s->t D σ H->wpAny (model X.prog X.w) X.A (exec st X.env) (SP X pins D) X.xe s
def PSs(X:Cx)(st:List Stmt)(t:TS):Prop:=
 ∀(pins:List (Addr×Obj))(s:Shared)(σ:St)(H:Hp)(D:Ends),Inv X pins σ H s->t D σ H->wpAny (model X.prog X.w) X.A (execs st X.env) (SP X pins D) X.xe s
theorem thn{α:Type}{t:Sem α}{Q Q':α->Shared->Prop}{M:Model}{A:Around}{E:Value->Shared->Prop}{s:Shared}(h:wpAny M A t Q E s)(hQ:∀a s,Q a s->Q' a s):wpAny M A t Q' E s:=wpAny_mono h hQ fun _ _ x=>x
end L2
namespace L2
open PySem PySem.Spec PyProof.Rows
section
variable{X:Cx}
noncomputable def tVar(i:Nat):TE:=fun σ H Q=>∃v,σ[i]?=some (some v)/\Q v H
noncomputable def tC(v:V):TE:=fun _ H Q=>Q v H
theorem zOE{i:Nat}{x:Str}{pos:Pos}(hN:X.N[i]?=some x)(hv:Vis X.env.scope x)(hd:(x==("__debug__":Str))=false:=by decide)(hcd:(x==("__classdict__":Str))=false:=by decide):PE X (.Name x pos) (tVar i):=by
 intro pins s σ H Q I h;obtain⟨v,e,h⟩:=h;obtain⟨m,hn,hl⟩:=I.loc;obtain⟨u,r,l⟩:=hl i x v hN e hv;have fin:EP X pins σ Q u s:=⟨v,H,I,r,h⟩
 rcases l with⟨hk,hm⟩|⟨hk,c,hc,hcell⟩
 ·exact wpAny_Name (wpAny_loadName_local I.ok.kind hk hn hm fin) hd
 ·rcases hk with hk|hk
  ·exact wpAny_Name (wpAny_loadName_cell I.ok.kind hk hc hcell fin) hd
  ·exact wpAny_Name (wpAny_loadName_free I.ok.kind hk hc hcell fin hcd) hd
theorem zAK{i j pos}:PE X (.Constant (.int i) j pos) (tC (.int i)):=fun _ _ _ H _ I h=>wpAny_Constant_int ⟨.int i,H,I.tok _,⟨_,rfl⟩,h⟩
theorem zD8{b j pos}:PE X (.Constant (.bool b) j pos) (tC (.bl b)):=fun _ _ _ H _ I h=>Constant_bool ⟨.bl b,H,I,rfl,h⟩
theorem zRU{j pos}:PE X (.Constant .none j pos) (tC .non):=fun _ _ _ H _ I h=>Constant_none ⟨.non,H,I,rfl,h⟩
theorem zJI{x j pos}:PE X (.Constant (.str x) j pos) (tC (.str x)):=fun _ _ _ H _ I h=>Calls.Constant_str ⟨.str x,H,I.tok _,⟨_,rfl⟩,h⟩
def Gl(X:Cx)(x:Str):Prop:=X.env.kindOf x=some .globalImplicit
theorem zCK{E:Value->Shared->Prop}{pins:List (Addr×Obj)}{s:Shared}{σ:St}{H:Hp}{x:Str}{u:Value}{pos:Pos}{Q:Value->Shared->Prop}(I:Inv X pins σ H s)(hg:Gl X x)(hm:X.mg x=some u)(h:Q u s)
  (hd:(x==("__debug__":Str))=false:=by decide):wpAny (model X.prog X.w) X.A (eval (.Name x pos) X.env) Q E s:=
 Calls.Name_function_global I.ok.kind hg (Calls.loadGlobal_global (by rw[I.ok.glob];exact I.mod.glob.keeps I.bk) hm h) hd
theorem zFW{E:Value->Shared->Prop}{pins:List (Addr×Obj)}{s:Shared}{σ:St}{H:Hp}{x:Str}{u:Value}{pos:Pos}{Q:Value->Shared->Prop}(I:Inv X pins σ H s)(hg:Gl X x)(hm:X.mg x=none)(hv:bootBuiltins x=some u)(h:Q u s)
  (hn:x ≠ "__name__":=by decide) (hd:(x==("__debug__":Str))=false:=by decide):wpAny (model X.prog X.w) X.A (eval (.Name x pos) X.env) Q E s:=by
 obtain⟨mb,h1,h2⟩:=I.mod.blt;exact Calls.Name_function_global I.ok.kind hg (Calls.loadGlobal_builtin (by rw[I.ok.glob];exact I.mod.glob.keeps I.bk) hm (by rw[I.ok.blt];exact h1.keeps I.bk) ((h2 x hn).trans hv) h) hd
theorem zES{x:Str}{v:V}{u:Value}{pos:Pos}(hg:Gl X x)(hm:X.mg x=none)(hv:bootBuiltins x=some u)(r:RelV v u)(hn:x ≠ "__name__":=by decide)(hd:(x==("__debug__":Str))=false:=by decide):PE X (.Name x pos) (tC v):=
 fun _ _ _ H _ I h=>zFW I hg hm hv ⟨v,H,I,r,h⟩ hn hd
variable{a b:Expr}{ta tb:TE}{pos:Pos}
noncomputable def tB(t:TE):TT:=fun σ H Q=>t σ H fun x H1=>∃c,x=.bl c/\Q c H1
variable{tA tB':TT}{rest:List Expr}
noncomputable def tAnd(t u:TT):TT:=fun σ H Q=>t σ H fun c H1=>if c=true then u σ H1 Q else Q false H1
noncomputable def tOr(t u:TT):TT:=fun σ H Q=>t σ H fun c H1=>if c=true then Q true H1 else u σ H1 Q
noncomputable def tNot(t:TT):TT:=fun σ H Q=>t σ H fun c H1=>Q (!c) H1
theorem zPM(ha:PT X a tA):PW X (.BoolOp .And [a] pos) tA:=by
 intro wh pins s σ H Q I h;refine isTrue_and (thn (ha pins s σ H Q I h) fun c s1 e=>?_);cases c with
 |true=>exact isTrue_and_nil e
 |false=>exact e
theorem zHH(ha:PT X a tA):PW X (.BoolOp .Or [a] pos) tA:=by
 intro wh pins s σ H Q I h;refine isTrue_or (thn (ha pins s σ H Q I h) fun c s1 e=>?_);cases c with
 |false=>exact isTrue_or_nil e
 |true=>exact e
theorem zRQ(ha:PT X a tA)(hb:PW X (.BoolOp .And (b::rest) pos) tB'):PW X (.BoolOp .And (a::b::rest) pos) (tAnd tA tB'):=by
 intro wh pins s σ H Q I h;refine isTrue_and (thn (ha pins s σ H _ I h) fun c s1 z0=>?_);obtain⟨H1,I1,q1⟩:=z0;cases c with
 |true=>exact hb wh pins s1 σ H1 Q I1 q1
 |false=>exact⟨H1,I1,q1⟩
theorem zL3(ha:PT X a tA)(hb:PW X (.BoolOp .Or (b::rest) pos) tB'):PW X (.BoolOp .Or (a::b::rest) pos) (tOr tA tB'):=by
 intro wh pins s σ H Q I h;refine isTrue_or (thn (ha pins s σ H _ I h) fun c s1 z0=>?_);obtain⟨H1,I1,q1⟩:=z0;cases c with
 |true=>exact⟨H1,I1,q1⟩
 |false=>exact hb wh pins s1 σ H1 Q I1 q1
theorem zJA(ha:PT X a tA):PT X (.UnaryOp .Not a pos) (tNot tA):=by
 intro pins s σ H Q I h;exact isTrue_not (ha pins s σ H (fun c H1=>Q (!c) H1) I h)
end
end L2
namespace L2
open PySem PySem.Spec PyProof.Rows
def SqL(K:qA0)(H:Hp)(a:Addr)(xs:List V):Prop:=
 Rd H a (.lst xs) \/
  ∃(o:Obj)(its:Array Value)(n:Nat),K.lookup a=some o/\o.cls=.type "list" /\ o.dict=none/\o.data=.seq its n/\its.size<=sizeLine/\Vals xs its.toList
def SqT(K:qA0)(H:Hp)(a:Addr)(xs:List V):Prop:=
 Rd H a (.tup xs) \/
  ∃(o:Obj)(its:Array Value)(n:Nat),K.lookup a=some o/\o.cls=.type "tuple" /\ o.data=.seq its n/\its.size<=sizeLine/\Vals xs its.toList
noncomputable def absV:Value->Option V
 |.none=>some .non
 |.bool b=>some (.bl b)
 |.int i _=>some (.int i)
 |.str x _=>some (.str x)
 |.bytes b _=>some (.byt b)
 |.float b _=>some (.flt b)
 |.ref a=>some (.ref a)
 |.type n=>some (.ty n)
 |_=>none
theorem RelV.abs{x:V}{u:Value}(r:RelV x u):absV u=some x:=by
 cases x with
 |non=>cases r;rfl
 |bl _=>cases r;rfl
 |int _=>obtain⟨t,rfl⟩:=r;rfl
 |str _=>obtain⟨t,rfl⟩:=r;rfl
 |byt _=>obtain⟨t,rfl⟩:=r;rfl
 |flt _=>obtain⟨t,rfl⟩:=r;rfl
 |ref _=>cases r;rfl
 |ty _=>cases r;rfl
theorem RelV.inj{x y:V}{u:Value}(r:RelV x u)(q:RelV y u):x=y:=qB5 (r.abs.symm.trans q.abs)
theorem Vals.inj:∀{xs ys:List V}{us:List Value},Vals xs us->Vals ys us->xs=ys
 |_,_,_,.nil,.nil=>rfl
 |_,_,_,.cons r t,.cons r' t'=>by rw[r.inj r',Vals.inj t t']
section
variable{X:Cx}{pins:List (Addr×Obj)}{σ:St}{H:Hp}{s:Shared}{a:Addr}{xs ys:List V}
theorem SqL.of{K:qA0}(h:H a=some (.lst xs)):SqL K H a xs:=.inl (.inl h)
theorem SqT.of{K:qA0}(h:H a=some (.tup xs)):SqT K H a xs:=.inl (.inl h)
theorem Inv.list(I:Inv X pins σ H s)(h:SqL X.K H a xs):∃its:List Value,Vals xs its/\PlainL s.heap a its.toArray/\xs.length<=sizeLine:=by
 rcases h with h|⟨o,its,n,hk,hc,hd,hs,hz,r⟩
 ·obtain⟨z,its,n,r,e⟩:=h.ok I.hok;exact⟨its,r,⟨_,n,e,rfl,rfl,rfl⟩,z⟩
 ·refine⟨its.toList,r,⟨o,n,I.kIn a o hk,hc,hd,by simpa using hs⟩,?_⟩;have e:=r.length;simp only[qDx]at e
  lia
theorem Inv.tuple(I:Inv X pins σ H s)(h:SqT X.K H a xs):∃its:List Value,Vals xs its/\IsTup s.heap a its.toArray/\xs.length<=sizeLine:=by
 rcases h with h|⟨o,its,n,hk,hc,hs,hz,r⟩
 ·obtain⟨z,its,r,p⟩:=h.ok I.hok;exact⟨its,r,p,z⟩
 ·refine⟨its.toList,r,⟨o,I.kIn a o hk,hc,n,by simpa using hs⟩,?_⟩;have e:=r.length;simp only[qDx]at e
  lia
theorem Inv.list_inj(I:Inv X pins σ H s)(h:SqL X.K H a xs)(h':SqL X.K H a ys):xs=ys:=by
 obtain⟨its,r,⟨o,n,e,_,_,d⟩,_⟩:=I.list h;obtain⟨its',r',⟨o',n',e',_,_,d'⟩,_⟩:=I.list h';rw[e]at e';cases e';rw[d]at d'
 injection d' with d1 _
 have:its=its':=by simpa using congrArg qEk d1
 subst this;exact r.inj r'
theorem Inv.tuple_inj(I:Inv X pins σ H s)(h:SqT X.K H a xs)(h':SqT X.K H a ys):xs=ys:=by
 obtain⟨its,r,⟨o,e,_,n,d⟩,_⟩:=I.tuple h;obtain⟨its',r',⟨o',e',_,n',d'⟩,_⟩:=I.tuple h';rw[e]at e';cases e';rw[d]at d'
 injection d' with d1 _
 have:its=its':=by simpa using congrArg qEk d1
 subst this;exact r.inj r'
end
abbrev Cx.wish(X:Cx)(E:Value->Shared->Prop):Cx:={ X with xe:=E }
abbrev Cx.nox(X:Cx):Cx:=X.wish fun _ _=>False
theorem Cx.Ok.wish{X:Cx}(ok:X.Ok)(E:Value->Shared->Prop):(X.wish E).Ok:=
 ⟨ok.mod,ok.kind,ok.glob,ok.blt,ok.above,ok.inj,ok.has,ok.cab,ok.hd,ok.frames,ok.stk,ok.exf,ok.bs,ok.bsz,ok.noex,ok.exfs,ok.funs,ok.frf⟩
theorem Cx.Ok.unwish{X:Cx}{E:Value->Shared->Prop}(ok:(X.wish E).Ok):X.Ok:=
 ⟨ok.mod,ok.kind,ok.glob,ok.blt,ok.above,ok.inj,ok.has,ok.cab,ok.hd,ok.frames,ok.stk,ok.exf,ok.bs,ok.bsz,ok.noex,ok.exfs,ok.funs,ok.frf⟩
section
variable{X:Cx}{pins:List (Addr×Obj)}{σ:St}{H:Hp}{s:Shared}{E:Value->Shared->Prop}
theorem Inv.wish(I:Inv X pins σ H s)(E:Value->Shared->Prop):Inv (X.wish E) pins σ H s:=⟨I.ok.wish E,I.os,I.bare,I.base,I.loc,I.cell,I.free,I.freeC,I.pin,I.hok,I.len⟩
theorem Inv.unwish(I:Inv (X.wish E) pins σ H s):Inv X pins σ H s:=⟨I.ok.unwish,I.os,I.bare,I.base,I.loc,I.cell,I.free,I.freeC,I.pin,I.hok,I.len⟩
theorem SP.unwish{D:Ends}{f:Flow}{s':Shared}(h:SP (X.wish E) pins D f s'):SP X pins D f s':=by
 cases f with
 |next=>obtain⟨σ',H',I,q⟩:=h;exact⟨σ',H',I.unwish,q⟩
 |brk=>obtain⟨σ',H',I,q⟩:=h;exact⟨σ',H',I.unwish,q⟩
 |cont=>obtain⟨σ',H',I,q⟩:=h;exact⟨σ',H',I.unwish,q⟩
 |ret u=>obtain⟨v,σ',H',I,r,q⟩:=h;exact⟨v,σ',H',I.unwish,r,q⟩
theorem PSs.nox{st:List Stmt}{t:TS}(h:PSs X.nox st t):PSs X st t:=fun pins s σ H D I hw=>
 wpAny_mono (h pins s σ H D (I.wish _) hw) (fun _ _ q=>q.unwish) fun _ _ z=>qA4 z
end
section
variable{X:Cx}{st:Stmt}{rest:List Stmt}{t u:TS}{e:Expr}{te:TE}{pos:Pos}
noncomputable def zR6:TS:=fun D σ H=>D.nx σ H
noncomputable def tSeq(t u:TS):TS:=fun D σ H=>t { D with nx:=u D } σ H
theorem zBN:PSs X [] zR6:=fun _ _ σ H _ I h=>wpAny_execs_nil ⟨σ,H,I,h⟩
theorem zAE(h1:PS X st t)(h2:PSs X rest u):PSs X (st::rest) (tSeq t u):=by
 intro pins s σ H D I h;refine wpAny_execs_cons (thn (h1 pins s σ H { D with nx:=u D } I h) fun f s1 q=>?_);cases f with
 |next=>
  obtain⟨σ',H',I',q⟩:=q;exact h2 pins s1 σ' H' D I' q
 |ret v=>exact q
 |brk=>exact q
 |cont=>exact q
theorem zAH(h1:PS X st t):PSs X [st] t:=by
 intro pins s σ H D I h;refine wpAny_execs_cons (thn (h1 pins s σ H D I h) fun f s1 q=>?_);cases f with
 |next=>exact wpAny_execs_nil q
 |ret v=>exact q
 |brk=>exact q
 |cont=>exact q
theorem Inv.quiet{pins:List (Addr×Obj)}{σ:St}{H:Hp}{s:Shared}(I:Inv X pins σ H s):interactive X.env=false:=by simp[interactive,I.ok.kind]
noncomputable def zIC(te:TE):TS:=fun D σ H=>te σ H fun _ H1=>D.nx σ H1
theorem zGG(he:PE X e te)(hs:swapsWith e none pos.line X.env=pure false:=by rfl):PS X (.Expr e pos) (zIC te):=by
 intro pins s σ H D I h;exact wpAny_Expr_any (thn (he pins s σ H _ I h) fun v s1 ⟨x,H1,I1,r1,q1⟩=>⟨σ,H1,I1,q1⟩) I.quiet hs
noncomputable def tRet(te:TE):TS:=fun D σ H=>te σ H D.rt
theorem zBC(he:PE X e te):PS X (.Return (some e) pos) (tRet te):=by
 intro pins s σ H D I h;exact wpAny_Return_some (thn (he pins s σ H _ I h) fun v s1 ⟨x,H1,I1,r1,q1⟩=>⟨x,σ,H1,I1,r1,q1⟩)
noncomputable def tIfS(c:TT)(t u:TS):TS:=fun D σ H=>c σ H fun b H1=>if b=true then t D σ H1 else u D σ H1
theorem zE0{c:Expr}{a b:List Stmt}{tc:TT}(hc:PT X c tc)(ha:PSs X a t)(hb:PSs X b u):PS X (.If c a b pos) (tIfS tc t u):=by
 intro pins s σ H D I h;refine wpAny_If (thn (hc pins s σ H _ I h) fun d s1 z0=>?_);obtain⟨H1,I1,q1⟩:=z0;cases d with
 |true=>exact ha pins s1 σ H1 D I1 q1
 |false=>exact hb pins s1 σ H1 D I1 q1
end
abbrev TG:=V->St->Hp->(St->Hp->Prop)->Prop
abbrev TGs:=List V->St->Hp->(St->Hp->Prop)->Prop
def PG(X:Cx)(target:Expr)(t:TG):Prop:=
 ∀(pins:List (Addr×Obj))(s:Shared)(σ:St)(H:Hp)(v:V)(u:Value)(Q:St->Hp->Prop),Inv X pins σ H s->RelV v u->t v σ H Q ->
  wpAny (model X.prog X.w) X.A (assign target X.env u) (fun _ s'=>∃σ' H',Inv X pins σ' H' s'/\Q σ' H') X.xe s
def PGs(X:Cx)(ts:List Expr)(t:TGs):Prop:=
 ∀(pins:List (Addr×Obj))(s:Shared)(σ:St)(H:Hp)(vs:List V)(us:List Value)(Q:St->Hp->Prop),Inv X pins σ H s->Vals vs us->t vs σ H Q ->
  wpAny (model X.prog X.w) X.A (assignInOrder ((assignEach ts X.env).map (·.2)) us) (fun _ s'=>∃σ' H',Inv X pins σ' H' s'/\Q σ' H') X.xe s
abbrev TSet:=V->V->V->Hp->(Hp->Prop)->Prop
def PSet(X:Cx)(t:TSet):Prop:=
 ∀(pins:List (Addr×Obj))(s:Shared)(σ:St)(H:Hp)(o i v:V)(ov iv u:Value)(Q:Hp->Prop),Inv X pins σ H s->RelV o ov->RelV i iv->RelV v u->t o i v H Q ->
  wpAny (model X.prog X.w) X.A (setItem ov iv u) (fun _ s'=>∃H',Inv X pins σ H' s'/\Q H') X.xe s
section
variable{X:Cx}{pos:Pos}
noncomputable def zGU(i:Nat):TG:=fun v σ H Q=>Q (σ.set i (some v)) H
theorem zB8{i:Nat}{x:Str}(hN:X.N.Nodup)(hi:X.N[i]?=some x)(hx:Loc X.env.scope x)(hf:X.fn x=true\/X.env.scope.names.lookup x=some .local:=by first|exact .inl rfl|exact .inr rfl|assumption):PG X (.Name x pos) (zGU i):=by
 intro pins s σ H v u Q I r h;exact wpAny_assign_Name (zG8 I hN hi hx r (fun s' I'=>⟨_,H,I',h⟩) hf)
noncomputable def gNil:TGs:=fun vs σ H Q=>vs=[]/\Q σ H
noncomputable def zSQ(t:TG)(u:TGs):TGs:=fun vs σ H Q=>∃v r,vs=v::r/\t v σ H fun σ' H'=>u r σ' H' Q
theorem zPN:PGs X [] gNil:=by
 intro pins s σ H vs us Q I r h;obtain⟨e,h⟩:=h;subst e;cases r;exact assignInOrder_nil ⟨σ,H,I,h⟩
theorem zJH{e:Expr}{es:List Expr}{t:TG}{u:TGs}(h1:PG X e t)(h2:PGs X es u)
  (hs:(assignEach (e::es) X.env).map (·.2)=assign e X.env::(assignEach es X.env).map (·.2):=by rfl):PGs X (e::es) (zSQ t u):=by
 intro pins s σ H vs us Q I r h;obtain⟨v,vr,e1,h⟩:=h;subst e1;cases r with
 |cons r rr=>
  rw[hs];refine assignInOrder_cons (thn (h1 pins s σ H _ _ _ I r h) fun _ s1 z0=>?_);obtain⟨σ1,H1,I1,q1⟩:=z0;exact h2 pins s1 σ1 H1 _ _ Q I1 rr q1
noncomputable def gTup(K:qA0)(n:Nat)(t:TGs):TG:=fun v σ H Q=>∃a xs,v=.ref a/\SqT K H a xs/\xs.length=n/\t xs σ H Q
theorem zRT{es:List Expr}{k:Nat}{t:TGs}{n:Nat}(hc:X.calm=true)(h:PGs X es t)
  (hn:(assignEach es X.env).length=n:=by rfl) (hst:(assignEach es X.env).findIdx? (·.1)=none:=by rfl):PG X (.Tuple es k pos) (gTup X.K n t):=by
 intro pins s σ H v u Q I r hw;obtain⟨a,xs,e1,hq,hl,hw⟩:=hw;subst e1;cases r;obtain⟨its,rv,ht,hz⟩:=I.tuple hq;refine assign_Tuple_tuple (I.ok.hd hc) ht (by simp[hn,<- hl,rv.length]) hst fun h' hx=>?_
 have I1:Inv X pins σ H { s with heap:=h' }:=I.kept (t':=s.toks) fun b o e=>hx b o (qAn (Heap.lt_size e)) e
 exact h pins _ σ H xs _ Q I1 (by simpa using rv) hw
noncomputable def gSub(to ti:TE)(t:TSet):TG:=fun v σ H Q=>to σ H fun o H1=>ti σ H1 fun i H2=>t o i v H2 fun H3=>Q σ H3
theorem zOD{o i:Expr}{to ti:TE}{t:TSet}(ho:PE X o to)(hi:PE X i ti)(hs:PSet X t)
  (ha:∀v,assign (.Subscript o i pos) X.env v=(do
   let ov <- holding [v] (eval o X.env)
   let iv <- holding [v,ov] (eval i X.env)
   standAt pos
   holding [v,ov,iv] (setItem ov iv v)
   release [v,ov,iv] []):=by intro _;rfl):PG X (.Subscript o i pos) (gSub to ti t):=by
 intro pins s σ H v u Q I r h;rw[ha];refine wpAny_bind (wpAny_holding (thn (ho pins s σ H _ I h) fun ov s1 z0=>?_));obtain⟨x,H1,I1,r1,q1⟩:=z0;refine wpAny_bind (wpAny_holding (thn (hi pins s1 σ H1 _ I1 q1) fun iv s2 z0=>?_));obtain⟨y,H2,I2,r2,q2⟩:=z0;refine wpAny_bind (wpAny_standAt (wpAny_bind (wpAny_holding (thn (hs pins s2 σ H2 x y v ov iv u _ I2 r1 r2 r q2) fun _ s3 z0=>?_))));obtain⟨H3,I3,q3⟩:=z0;exact wpAny_release ⟨σ,H3,I3,q3⟩
noncomputable def tAsg(te:TE)(g:TG):TS:=fun D σ H=>te σ H fun x H1=>g x σ H1 D.nx
theorem zOC{tg e:Expr}{te:TE}{g:TG}(he:PE X e te)(hg:PG X tg g)(hs:swapsWithSole [tg] e pos.line X.env=pure false:=by rfl)(hw:swappedStores [tg] e X.env=pure none:=by rfl)
  (h1:(assignEach [tg] X.env).map (·.2)=[assign tg X.env]:=by rfl):PS X (.Assign [tg] e pos) (tAsg te g):=by
 intro pins s σ H D I h;refine wpAny_Assign_stores (thn (he pins s σ H _ I h) fun v s1 z0=>?_) hs hw;obtain⟨x,H1,I1,r1,q1⟩:=z0;rw[h1];exact thn (hg pins s1 σ H1 x v _ I1 r1 q1) fun _ s2 q=>q
theorem zB6{i:Nat}{x:Str}{e:Expr}{te:TE}{pos':Pos}(hN:X.N.Nodup)(hi:X.N[i]?=some x)(hx:Loc X.env.scope x)(he:PE X e te)(hs:swapsWith e (some (.Name x pos')) pos.line X.env=pure false:=by rfl)(hf:X.fn x=true\/X.env.scope.names.lookup x=some .local:=by first|exact .inl rfl|exact .inr rfl|assumption) :
  PS X (.Assign [.Name x pos'] e pos) (tAsg te (zGU i)):=by
 intro pins s σ H D I h;refine wpAny_Assign_Name (thn (he pins s σ H _ I h) fun v s1 z0=>?_) hs;obtain⟨y,H1,I1,r1,q1⟩:=z0;exact zG8 I1 hN hi hx r1 (fun s2 I2=>⟨_,H1,I2,q1⟩) hf
end
structure It where
 go:Nat->Hp->Prop
 yld:Nat->Hp->V->Hp->Prop
 stop:Nat->Hp->Prop
def FpOk(X:Cx)(pins:List (Addr×Obj))(H:Hp)(b:Addr):Prop:=
 H b=none/\b≠X.env.locals/\b∉X.fs/\(b∈X.ex\/X.s₀.heap.objs.size<=b)/\(∀x c,X.env.cells.lookup x=some c->c≠b)/\∀p∈X.pn++pins,p.1≠b
theorem Inv.fpOk{X:Cx}{pins:List (Addr×Obj)}{σ:St}{H H':Hp}{s:Shared}{b:Addr}(I:Inv X pins σ H s)(hb:s.heap.objs.size<=b)(hn:H' b=none):FpOk X pins H' b:=by
 refine⟨hn,qC0 (qA8 I.lt hb),I.nofs hb,.inr (qAm I.sz hb),fun x c e z=>?_,fun p hp z=>?_⟩
 ·obtain⟨v,q⟩:=I.cell x c e;exact absurd (qA8 q.lt (by rw[z];exact hb)) (qBv _)
 ·exact absurd (qA8 (Heap.lt_size (I.pin p hp).1) (by rw[z];exact hb)) (qBv _)
structure Turn(P:Program)(w:World)(K:qA0)(tg:Expr)(J:It)(fp:List Addr)(it:Addr)(tn:Nat->Heap->Prop):Prop where
 mem:it∈fp
 obj:∀i h,tn i h->∀b∈fp,∃o,h.get? b=some o/\∀v,o.data≠.cell v
 keep:∀i h h',tn i h->(∀b∈fp,∀o,h.get? b=some o->h'.get? b=some o)->tn i h'
 item:∀(X:Cx),X.prog=P->X.w=w->X.K=K->X.calm=true->∀(i:Nat)(pins:List (Addr×Obj))(s:Shared)(σ:St)(H:Hp)(E:Value->Shared->Prop),Inv X pins σ H s->(∀b∈fp,FpOk X pins H b)->tn i s.heap->J.go i H ->
  wpAny (model P w) X.A (pyNext (.ref it)) (fun r s1=>∃u,r=some u /\
   wpAny (model P w) X.A (letOwnedTupleGo tg (.ref it) u) (fun _ s2=>∃x H',Inv X pins σ H' s2/\RelV x u/\J.yld i H x H'/\tn (i+1) s2.heap/\∀b∈fp,H' b=none) E s1) E s
 done:∀(X:Cx),X.prog=P->X.w=w->X.K=K->X.calm=true->∀(i:Nat)(pins:List (Addr×Obj))(s:Shared)(σ:St)(H:Hp)(E:Value->Shared->Prop),Inv X pins σ H s->(∀b∈fp,FpOk X pins H b)->tn i s.heap->J.stop i H ->
  wpAny (model P w) X.A (pyNext (.ref it)) (fun r s1=>r=none/\Inv X pins σ H s1) E s
 self:∀(A:Around)(i:Nat)(s:Shared)(Q:Value->Shared->Prop)(E:Value->Shared->Prop),tn i s.heap->Q (.ref it) s->wpAny (model P w) A (pyIter (.ref it)) Q E s
abbrev TI:=St->Hp->(It->Hp->Prop)->Prop
def PIE(X:Cx)(pins:List (Addr×Obj))(σ:St)(tg:Expr)(R:It->Hp->Prop)(itv:Value)(s2:Shared):Prop:=
 ∃(it:Addr)(fp:List Addr)(tn:Nat->Heap->Prop)(J:It)(H':Hp),itv=.ref it/\Inv X pins σ H' s2/\Turn X.prog X.w X.K tg J fp it tn/\tn 0 s2.heap/\(∀b∈fp,FpOk X pins H' b)/\R J H'
def PI(X:Cx)(tg iter:Expr)(wi:TI):Prop:=
 ∀(pins:List (Addr×Obj))(s:Shared)(σ:St)(H:Hp)(R:It->Hp->Prop),Inv X pins σ H s->wi σ H R ->
  wpAny (model X.prog X.w) X.A (eval iter X.env) (fun v s1=>wpAny (model X.prog X.w) X.A (pyIter v) (PIE X pins σ tg R) X.xe s1) X.xe s
theorem zNL{M:Model}{A:Around}{E:Value->Shared->Prop}{s:Shared}{tg:Expr}{it:Addr}{u:Value}{o:Obj}{n:String}{vs:Array Value}{Q:Unit->Shared->Prop}(ho:s.heap.get? it=some o)(hc:o.cls=.type n)(hd:o.data=.fields vs)
  (hn:["enumerate","zip","dict_itemiterator","dict_reverseitemiterator","odict_iterator","itertools.zip_longest","itertools.pairwise"].contains n=false) (hQ:Q () s):wpAny M A (letOwnedTupleGo tg (.ref it) u) Q E s:=by
 unfold letOwnedTupleGo;cases tg<;>first
  |exact wpAny_pure hQ
  |(cases u<;>first
    |exact wpAny_pure hQ
    |(refine wpAny_bind (wpAny_load ho ?_)
      rw[hc,hd];show wpAny M A (if(["enumerate","zip","dict_itemiterator","dict_reverseitemiterator","odict_iterator","itertools.zip_longest","itertools.pairwise"].contains n&&vs[0]?==some (rawInt _))=true then _ else _) Q E s;rw[if_neg (by intro h;rw[hn,Bool.false_and]at h;cases h)];exact wpAny_pure hQ))
noncomputable def Itl(K:qA0)(a:Addr):It:=
 ⟨fun i H=>∃xs x,SqL K H a xs/\xs[i]?=some x,fun i H x H'=>H'=H/\∀xs,SqL K H a xs->xs[i]?=some x,fun i H=>∃xs,SqL K H a xs/\xs.length<=i⟩
noncomputable def Itt(K:qA0)(a:Addr):It:=
 ⟨fun i H=>∃xs x,SqT K H a xs/\xs[i]?=some x,fun i H x H'=>H'=H/\∀xs,SqT K H a xs->xs[i]?=some x,fun i H=>∃xs,SqT K H a xs/\xs.length<=i⟩
noncomputable def Itr(lo:Int)(n:Nat):It:=⟨fun i _=>i<n,fun i H x H'=>H'=H/\x=.int (lo+i),fun i _=>n<=i⟩
theorem zKS{P:Program}{w:World}{K:qA0}{tg:Expr}(a it:Addr):Turn P w K tg (Itl K a) [it] it (fun i h=>h.IsListIter it a i) where
 mem:=by simp
 obj:=fun i h st b hb=>by
  have e:b=it:=by simpa using hb
  subst e;obtain⟨o,e,c,d⟩:=st;exact⟨o,e,fun v z=>by rw[d]at z;cases z⟩
 keep:=fun i h h' st k=>st.at fun o e=>k it (by simp) o e
 item:=by
  intro X hP hw hK hc i pins s σ H E I hf st hg;subst hP hw hK;obtain⟨xs,x,hq,hx⟩:=hg;obtain⟨its,rv,p,hz⟩:=I.list hq;obtain⟨u,hu,ru⟩:=rv.get hx;obtain⟨f0,f1,f2,f3,f4,f5⟩:=hf it (by simp);refine wpAny_pyNext_list_item st p.isList (x:=u) (by simpa using hu) fun h' st' sb=>?_
  have I1:Inv X pins σ H { s with heap:=h' }:=I.turned (t':=s.toks) (fun b o hb e=>(sb.2 b hb).trans e) f0 f1 f3 f4 f5;obtain⟨o,e,c,d⟩:=id st';exact⟨u,rfl,zNL (s:={ s with heap:=h' }) e c d (by decide) ⟨x,H,I1,ru,⟨rfl,fun ys hy=>by rw[I.list_inj hy hq];exact hx⟩,st',fun b hb=>(hf b hb).1⟩⟩
 done:=by
  intro X hP hw hK hc i pins s σ H E I hf st hg;subst hP hw hK;obtain⟨xs,hq,hx⟩:=hg;obtain⟨its,rv,p,hz⟩:=I.list hq;obtain⟨f0,f1,f2,f3,f4,f5⟩:=hf it (by simp);have hl:=rv.length;exact wpAny_pyNext_list_end (I.ok.hd hc) st p.isList (by simp;lia) fun h' eb=>⟨rfl,I.turned (t':=s.toks) (fun b o hb e=>eb b o hb e) f0 f1 f3 f4 f5⟩
 self:=fun _ _ _ _ _ st h=>wpAny_pyIter_listiter st h
theorem zK5{P:Program}{w:World}{K:qA0}{tg:Expr}(a it:Addr):Turn P w K tg (Itt K a) [it] it (fun i h=>h.IsTupleIter it a i) where
 mem:=by simp
 obj:=fun i h st b hb=>by
  have e:b=it:=by simpa using hb
  subst e;obtain⟨o,e,c,d⟩:=st;exact⟨o,e,fun v z=>by rw[d]at z;cases z⟩
 keep:=fun i h h' st k=>st.at fun o e=>k it (by simp) o e
 item:=by
  intro X hP hw hK hc i pins s σ H E I hf st hg;subst hP hw hK;obtain⟨xs,x,hq,hx⟩:=hg;obtain⟨its,rv,p,hz⟩:=I.tuple hq;obtain⟨u,hu,ru⟩:=rv.get hx;obtain⟨f0,f1,f2,f3,f4,f5⟩:=hf it (by simp);refine wpAny_pyNext_tuple_item st (show s.heap.IsTuple a its.toArray from p) (x:=u) (by simpa using hu) fun h' st' sb=>?_
  have I1:Inv X pins σ H { s with heap:=h' }:=I.turned (t':=s.toks) (fun b o hb e=>(sb.2 b hb).trans e) f0 f1 f3 f4 f5;obtain⟨o,e,c,d⟩:=id st';exact⟨u,rfl,zNL (s:={ s with heap:=h' }) e c d (by decide) ⟨x,H,I1,ru,⟨rfl,fun ys hy=>by rw[I.tuple_inj hy hq];exact hx⟩,st',fun b hb=>(hf b hb).1⟩⟩
 done:=by
  intro X hP hw hK hc i pins s σ H E I hf st hg;subst hP hw hK;obtain⟨xs,hq,hx⟩:=hg;obtain⟨its,rv,p,hz⟩:=I.tuple hq;obtain⟨f0,f1,f2,f3,f4,f5⟩:=hf it (by simp);have hl:=rv.length;exact wpAny_pyNext_tuple_end (I.ok.hd hc) st (show s.heap.IsTuple a its.toArray from p) (by simp;lia) fun h' eb=>⟨rfl,I.turned (t':=s.toks) (fun b o hb e=>eb b o hb e) f0 f1 f3 f4 f5⟩
 self:=fun _ _ _ _ _ st h=>wpAny_pyIter_tupleiter st h
theorem zK6{P:Program}{w:World}{K:qA0}{tg:Expr}(it:Addr)(lo:Int)(n:Nat):Turn P w K tg (Itr lo n) [it] it (fun i h=>IsRangeIter h it (lo+(i:Nat)*1) ((n:Int)-(i:Nat)) 1) where
 mem:=by simp
 obj:=fun i h st b hb=>by
  have e:b=it:=by simpa using hb
  subst e;exact⟨_,st,fun v z=>by
   have z':Data.fields _=Data.cell v:=z;cases z'⟩
 keep:=fun i h h' st k=>k it (by simp) _ st
 item:=by
  intro X hP hw hK hc i pins s σ H E I hf st hg;subst hP hw hK;obtain⟨f0,f1,f2,f3,f4,f5⟩:=hf it (by simp);have W:=Walks.range (prog:=X.prog) (w:=X.w) (I.ok.hd hc) it lo 1 n;refine W.item i s _ _ hg st fun v h' tk hv st' kk=>?_
  obtain⟨t,rfl⟩:=hv;have I1:Inv X pins σ H { s with heap:=h',toks:=tk }:=I.turned (fun b o hb e=>kk b o (by simpa using hb) e) f0 f1 f3 f4 f5;refine⟨_,rfl,zNL (s:={ s with heap:=h',toks:=tk }) (n:="range_iterator") st' rfl rfl (by decide) ⟨.int (lo+i),H,I1,⟨t,?_⟩,⟨rfl,rfl⟩,st',fun b hb=>(hf b hb).1⟩⟩;rw[qFw]
 done:=by
  intro X hP hw hK hc i pins s σ H E I hf st hg;subst hP hw hK;obtain⟨f0,f1,f2,f3,f4,f5⟩:=hf it (by simp);exact wpAny_pyNext_range_end (I.ok.hd hc) st (by have:n<=i:=hg;lia) fun h' eb=>⟨rfl,I.turned (t':=s.toks) (fun b o hb e=>eb b o hb e) f0 f1 f3 f4 f5⟩
 self:=fun _ _ _ _ _ st h=>wpAny_pyIter_rangeiter st h
end L2
namespace L2
open PySem PySem.Spec PyProof.Rows
section
variable{X:Cx}{tg:Expr}
theorem zMX{pins:List (Addr×Obj)}{σ:St}{H:Hp}{s:Shared}{R:It->Hp->Prop}{E:Value->Shared->Prop}{lo hi:Int}{t u v:Tok}{tk:Nat}(I:Inv X pins σ H s)(h1:-(2 ^ 62)<=lo)(h2:lo<2 ^ 62)(h3:-(2 ^ 62)<=hi)(h4:hi<2 ^ 62)
  (q:R (Itr lo (hi-lo).toNat) H):wpAny (model X.prog X.w) X.A (pyIter (.ref s.heap.objs.size)) (PIE X pins σ tg R) E { s with heap:=s.heap.push { cls:=.type "range",data:=.fields #[.int lo t,.int hi u,.int 1 v] },toks:=tk }:=by
 refine wpAny_pyIter_range (IsRange.new ..) (small_one h1 h2 h3 h4) ?_;have I1:Inv X pins σ H { s with heap:=s.heap.push { cls:=.type "range",data:=.fields #[.int lo t,.int hi u,.int 1 v] },toks:=tk }:=I.kept fun b o e=>Heap.get?_push_of_some _ e
 refine⟨(s.heap.push { cls:=.type "range",data:=.fields #[.int lo t,.int hi u,.int 1 v] }).objs.size,[(s.heap.push { cls:=.type "range",data:=.fields #[.int lo t,.int hi u,.int 1 v] }).objs.size],_,_,H,rfl,
  I1.kept (t':=tk) fun b o e=>Heap.get?_push_of_some _ e,zK6 _ lo (hi-lo).toNat,?_,fun b hb=>?_,q⟩
 ·have e1:lo+((0:Nat):Int)*1=lo:=by simp
  have e2:(((hi-lo).toNat:Nat):Int)-((0:Nat):Int)=Builtin.Range.rangeSize lo hi 1:=by rw[rangeSize_one];split<;>lia
  show IsRangeIter _ _ (lo+((0:Nat):Int)*1) ((((hi-lo).toNat:Nat):Int)-((0:Nat):Int)) 1;rw[e1,e2];exact Heap.get?_push_size _ rfl
 ·have e:b=(s.heap.push { cls:=.type "range",data:=.fields #[.int lo t,.int hi u,.int 1 v] }).objs.size:=by simpa using hb
  subst e;exact I1.fpOk (qA6 _) (I1.hok.fresh (qA6 _))
def zSP(ta:TA):TI:=fun σ H R=>ta σ H fun vs H1=>∃j:Int,vs=[.int j]/\-(2 ^ 62)<=j/\j<2 ^ 62/\R (Itr 0 j.toNat) H1
theorem zBT{a:Expr}{ta:TA}{p pos:Pos}(hg:Gl X "range")(hm:X.mg "range" = none)(ha:PA X [a] ta)(hs:starEach [a] X.env=[(false,eval a X.env)]:=by rfl):PI X tg (.Call (.Name "range" p) [a] [] pos) (zSP ta):=by
 intro pins s σ H R I h;refine Call_ (zFW I hg hm boot_range (qC1 (thn (ha pos pins s σ H _ I h) fun us s1 z0=>?_) hs rfl));obtain⟨vs,H1,I1,r1,q1⟩:=z0;obtain⟨j,e,q1,q2,q⟩:=q1;subst e;cases r1 with
 |cons r rr=>
  cases rr;obtain⟨t,rfl⟩:=r;exact call_range_1 (zMX I1 (by lia) (by lia) q1 q2 (by simpa using q))
noncomputable def tFor(wi:TI)(g:TG)(tb:TS):TS:=fun D σ H=>wi σ H fun J H1=>∃W:Nat->Nat->St->Hp->Prop,(∃m,W 0 m σ H1)/\∀i m σ H,W i m σ H ->
 (J.stop i H/\D.nx σ H)\/(J.go i H/\∃N:St->Hp->Prop,(∀σ' H',N σ' H'->∃m',m'<m/\W (i+1) m' σ' H')/\∀x H',J.yld i H x H'->g x σ H' fun σ2 H2=>tb { D with nx:=N,ct:=N,bk:=D.nx } σ2 H2)
noncomputable def zFT(fp:List Addr)(h:Heap):List (Addr×Obj):=fp.filterMap fun b=>(h.get? b).map fun o=>(b,o)
theorem zCP{fp:List Addr}{h:Heap}{b:Addr}{o:Obj}(hb:b∈fp)(e:h.get? b=some o):(b,o)∈zFT fp h:=qE2.mpr ⟨b,hb,by rw[e];rfl⟩
theorem zLH{fp:List Addr}{h:Heap}{p:Addr×Obj}(hp:p∈zFT fp h):p.1∈fp/\h.get? p.1=some p.2:=by
 obtain⟨b,hb,e⟩:=qE2.mp hp;cases q:h.get? b with
 |none=>rw[q]at e;cases e
 |some o=>
  rw[q]at e;have e':(b,o)=p:=qB5 e;subst e';exact⟨hb,q⟩
theorem Inv.pinned{pins:List (Addr×Obj)}{σ:St}{H:Hp}{s:Shared}{fp:List Addr}(I:Inv X pins σ H s)(hf:∀b∈fp,FpOk X pins H b)(ho:∀b∈fp,∃o,s.heap.get? b=some o/\∀v,o.data≠.cell v):Inv X (pins++zFT fp s.heap) σ H s:=
 I.pins_of fun p hp=>(qBz.mp hp).elim (fun z=>I.pin p (qAr _ z)) fun z=>by
  obtain⟨hb,e⟩:=zLH z;obtain⟨f0,f1,f2,_⟩:=hf p.1 hb;obtain⟨o,e',d⟩:=ho p.1 hb;rw[e]at e';cases e';exact⟨e,f0,f1,f2,d⟩
theorem Inv.unpinned{pins pl:List (Addr×Obj)}{σ:St}{H:Hp}{s:Shared}(I:Inv X (pins++pl) σ H s):Inv X pins σ H s:=I.pins_of fun p hp=>I.pin p (qAr _ (qCu _ hp))
theorem zRR{iter:Expr}{body:List Stmt}{wi:TI}{g:TG}{tb:TS}{pos:Pos}(hp:PassesOwn (model X.prog X.w) X.A X.env X.xe)(hc:X.calm=true)(hi:PI X tg iter wi)(hg:PG X tg g)(hb:PSs X body tb)
  (hs:∀x,foldedSetIterable iter X.env x=pure x:=by intro _;rfl):PS X (.For tg iter body [] pos) (tFor wi g tb):=by
 intro pins s σ H D I h;refine wpAny_For (thn (hi pins s σ H _ I h) fun v s1 h1=>thn h1 fun itv s2 h2=>?_) hs;obtain⟨it,fp,tn,J,H2,e,I2,T,st2,f2,W,⟨m0,w0⟩,turn⟩:=h2;subst e;have stat:∀{H':Hp},(∀b∈fp,H' b=none)->∀b∈fp,FpOk X pins H' b:=fun hn b hb=>⟨hn b hb,(f2 b hb).2⟩
 refine codeAny_forLoop_any (fun n s'=>∃i σ' H',Inv X pins σ' H' s'/\tn i s'.heap/\(∀b∈fp,H' b=none)/\W i n σ' H') ?_ m0 ⟨0,σ,H2,I2,st2,fun b hb=>(f2 b hb).1,w0⟩
 rintro n s3 ⟨i,σ3,H3,I3,st3,fr3,w3⟩
 rcases turn i n σ3 H3 w3 with⟨stop,qn⟩|⟨go,N,hN,step⟩
 ·refine wpAny_passesOwn hp (thn (T.done X rfl rfl rfl hc i pins s3 σ3 H3 X.xe I3 (stat fr3) st3 stop) fun r s4 z0=>?_);obtain⟨hr,I4⟩:=z0;subst hr;exact wpAny_execs_nil ⟨σ3,H3,I4,qn⟩
 ·refine wpAny_passesOwn hp (thn (T.item X rfl rfl rfl hc i pins s3 σ3 H3 X.xe I3 (stat fr3) st3 go) fun r s4 z0=>?_);obtain⟨u,hr,h4⟩:=z0;subst hr;refine wpAny_passesOwn hp (thn h4 fun _ s5 z0=>?_);obtain⟨x,H5,I5,r5,y5,st5,fr5⟩:=z0;have I5':=I5.pinned (stat fr5) (T.obj _ _ st5);refine wpAny_passesOwn hp (thn (hg _ s5 σ3 H5 x u _ I5' r5 (step x H5 y5)) fun _ s6 z0=>?_);obtain⟨σ6,H6,I6,q6⟩:=z0;refine wpAny_passesOwn hp (thn (hb _ s6 σ6 H6 _ I6 q6) fun f s7 q7=>?_);have again:∀{σ7:St}{H7:Hp},Inv X (pins++zFT fp s5.heap) σ7 H7 s7->N σ7 H7->∃m,m<n/\∃i σ' H',Inv X pins σ' H' s7/\tn i s7.heap/\(∀b∈fp,H' b=none)/\W i m σ' H':=fun{σ7 H7} I7 n7=>by
   obtain⟨m',hm,w7⟩:=hN σ7 H7 n7;refine⟨m',hm,i+1,σ7,H7,I7.unpinned,T.keep _ _ _ st5 fun b hb o e=>(I7.pin (b,o) (qAr _ (qAr _ (zCP hb e)))).1,fun b hb=>?_,w7⟩;obtain⟨o,e,d⟩:=T.obj _ _ st5 b hb;exact(I7.pin (b,o) (qAr _ (qAr _ (zCP hb e)))).2.1
  cases f with
  |next=>obtain⟨σ7,H7,I7,n7⟩:=q7;exact again I7 n7
  |cont=>obtain⟨σ7,H7,I7,n7⟩:=q7;exact again I7 n7
  |brk=>obtain⟨σ7,H7,I7,q7⟩:=q7;exact⟨σ7,H7,I7.unpinned,q7⟩
  |ret v=>obtain⟨x7,σ7,H7,I7,r7,q7⟩:=q7;exact⟨x7,σ7,H7,I7.unpinned,r7,q7⟩
end
end L2
namespace L2
open PySem PySem.Spec PyProof.Rows
abbrev R2:=V->V->Hp->VK->Prop
def OpR(X:Cx)(f:Value->Value->Sem Value)(r:R2):Prop:=
 ∀(pins:List (Addr×Obj))(s:Shared)(σ:St)(H:Hp)(x y:V)(v u:Value)(Q:VK),Inv X pins σ H s->RelV x v->RelV y u->r x y H Q ->
  wpAny (model X.prog X.w) X.A (f v u) (EP X pins σ Q) X.xe s
def UnR(X:Cx)(f:Value->Sem Value)(r:V->Hp->VK->Prop):Prop:=
 ∀(pins:List (Addr×Obj))(s:Shared)(σ:St)(H:Hp)(x:V)(v:Value)(Q:VK),Inv X pins σ H s->RelV x v->r x H Q ->
  wpAny (model X.prog X.w) X.A (f v) (EP X pins σ Q) X.xe s
def zD5(X:Cx)(f:Value)(r:List V->Hp->VK->Prop):Prop:=
 ∀(pins:List (Addr×Obj))(s:Shared)(σ:St)(H:Hp)(xs:List V)(us:List Value)(Q:VK),Inv X pins σ H s->Vals xs us->r xs H Q ->
  wpAny (model X.prog X.w) X.A (call f us) (EP X pins σ Q) X.xe s
def TruR(X:Cx)(r:V->Hp->(Bool->Hp->Prop)->Prop):Prop:=
 ∀(pins:List (Addr×Obj))(s:Shared)(σ:St)(H:Hp)(x:V)(v:Value)(Q:Bool->Hp->Prop),Inv X pins σ H s->RelV x v->r x H Q ->
  wpAny (model X.prog X.w) X.A (truthy v) (TP X pins σ Q) X.xe s
noncomputable def tOp(r:R2)(ta tb:TE):TE:=fun σ H Q=>ta σ H fun x H1=>tb σ H1 fun y H2=>r x y H2 Q
noncomputable def tUn(r:V->Hp->VK->Prop)(ta:TE):TE:=fun σ H Q=>ta σ H fun x H1=>r x H1 Q
noncomputable def rI(C:Int->Int->Prop)(g:Int->Int->V):R2:=fun x y H Q=>∃i j,x=.int i/\y=.int j/\C i j/\Q (g i j) H
noncomputable def rI0(g:Int->Int->V):R2:=fun x y H Q=>∃i j,x=.int i/\y=.int j/\Q (g i j) H
def rU(g:Int->V):V->Hp->VK->Prop:=fun x H Q=>∃i,x=.int i/\Q (g i) H
section
variable{X:Cx}{a b c:Expr}{ta tb tc:TE}{pos:Pos}
theorem binT(ha:PE X a ta)(hb:PE X b tb){pins:List (Addr×Obj)}{s:Shared}{σ:St}{H:Hp}{R:V->V->Hp->Prop}(I:Inv X pins σ H s)
  (h:ta σ H fun x H1=>tb σ H1 fun y H2=>R x y H2) {Q:Value->Shared->Prop} {f:Value->Value->Sem Value}
  (hf:∀v u s2 x y H2,Inv X pins σ H2 s2->RelV x v->RelV y u->R x y H2->wpAny (model X.prog X.w) X.A (f v u) Q X.xe s2) :
  wpAny (model X.prog X.w) X.A (eval a X.env) (fun v s₁=>wpAny (model X.prog X.w) X.A (eval b X.env) (fun u s₂=>wpAny (model X.prog X.w) X.A (f v u) Q X.xe s₂) X.xe s₁) X.xe s:=by
 refine thn (ha pins s σ H _ I h) fun v s1 z0=>?_
 obtain⟨x,H1,I1,r1,q1⟩:=z0;refine thn (hb pins s1 σ H1 _ I1 q1) fun u s2 z0=>?_
 obtain⟨y,H2,I2,r2,q2⟩:=z0;exact hf v u s2 x y H2 I2 r1 r2 q2
theorem zB4{op:Operator}{r:R2}(ho:OpR X (binaryOp op) r)(ha:PE X a ta)(hb:PE X b tb):PE X (.BinOp a op b pos) (tOp r ta tb):=by
 intro pins s σ H Q I h;exact wpAny_BinOp (binT ha hb I h fun v u s2 x y H2 I2 rx ry q=>ho pins s2 σ H2 x y v u Q I2 rx ry q)
theorem zTT{op:UnaryOp}{r:V->Hp->VK->Prop}(ho:UnR X (unaryOp op) r)(ha:PE X a ta):PE X (.UnaryOp op a pos) (tUn r ta):=by
 intro pins s σ H Q I h;exact UnaryOp_ (thn (ha pins s σ H _ I h) fun v s1 ⟨x,H1,I1,r1,q1⟩=>ho pins s1 σ H1 x v Q I1 r1 q1)
theorem opI{f:Value->Value->Sem Value}{C:Int->Int->Prop}{g:Int->Int->Int}
  (rule:∀(i j:Int)(t u:Tok)(s:Shared)(Q:Value->Shared->Prop)(E:Value->Shared->Prop),C i j->Q (.int (g i j) s.toks) { s with toks:=s.toks+1 }->wpAny (model X.prog X.w) X.A (f (.int i t) (.int j u)) Q E s) :
  OpR X f (rI C fun i j=>.int (g i j)):=by
 intro pins s σ H x y v u Q I rx ry h;obtain⟨i,j,rfl,rfl,hc,q⟩:=h;obtain⟨t,rfl⟩:=rx;obtain⟨t',rfl⟩:=ry;exact rule i j t t' s _ _ hc ⟨.int (g i j),H,I.tok _,⟨_,rfl⟩,q⟩
theorem opI0{f:Value->Value->Sem Value}{g:Int->Int->Int}
  (rule:∀(i j:Int)(t u:Tok)(s:Shared)(Q:Value->Shared->Prop)(E:Value->Shared->Prop),Q (.int (g i j) s.toks) { s with toks:=s.toks+1 }->wpAny (model X.prog X.w) X.A (f (.int i t) (.int j u)) Q E s) :
  OpR X f (rI0 fun i j=>.int (g i j)):=by
 intro pins s σ H x y v u Q I rx ry h;obtain⟨i,j,rfl,rfl,q⟩:=h;obtain⟨t,rfl⟩:=rx;obtain⟨t',rfl⟩:=ry;exact rule i j t t' s _ _ ⟨.int (g i j),H,I.tok _,⟨_,rfl⟩,q⟩
theorem opB0{f:Value->Value->Sem Value}{g:Int->Int->Bool}
  (rule:∀(i j:Int)(t u:Tok)(s:Shared)(Q:Value->Shared->Prop)(E:Value->Shared->Prop),Q (.bool (g i j)) s->wpAny (model X.prog X.w) X.A (f (.int i t) (.int j u)) Q E s) :
  OpR X f (rI0 fun i j=>.bl (g i j)):=by
 intro pins s σ H x y v u Q I rx ry h;obtain⟨i,j,rfl,rfl,q⟩:=h;obtain⟨t,rfl⟩:=rx;obtain⟨t',rfl⟩:=ry;exact rule i j t t' s _ _ ⟨.bl (g i j),H,I,rfl,q⟩
def CMul(i j:Int):Prop:=(-(2 ^ 64)<i/\i<2 ^ 64)\/(-(2 ^ 64)<j/\j<2 ^ 64)
theorem CMul.ok{i j:Int}(h:CMul i j):IntMulOk i j:=by
 rcases h with⟨h1,h2⟩|⟨h1,h2⟩
 ·exact .of_left (intBits_le_64 h1 h2)
 ·exact .of_right (intBits_le_64 h1 h2)
theorem zS5:OpR X (binaryOp .Add) (rI0 fun i j=>.int (i+j)):=opI0 fun _ _ _ _ _ _ _ q=>add_int q
theorem zRZ:OpR X (binaryOp .Sub) (rI0 fun i j=>.int (i-j)):=opI0 fun _ _ _ _ _ _ _ q=>sub_int q
theorem zS2:OpR X (binaryOp .Mod) (rI (fun _ j=>0<j) fun i j=>.int (i%j)):=opI fun i j _ _ _ _ _ hc q=>by
 have h1:(0:Int)<j:=hc;exact mod_int' (by lia) (by rw[Int.fmod_eq_emod_of_nonneg i (by lia)];exact q)
theorem unI{f:Value->Sem Value}{g:Int->Int}
  (rule:∀(i:Int)(t:Tok)(s:Shared)(Q:Value->Shared->Prop)(E:Value->Shared->Prop),Q (.int (g i) s.toks) { s with toks:=s.toks+1 }->wpAny (model X.prog X.w) X.A (f (.int i t)) Q E s) :
  UnR X f (rU fun i=>.int (g i)):=by
 intro pins s σ H x v Q I rx h;obtain⟨i,rfl,q⟩:=h;obtain⟨t,rfl⟩:=rx;exact rule i t s _ _ ⟨.int (g i),H,I.tok _,⟨_,rfl⟩,q⟩
theorem zQZ:UnR X (unaryOp .USub) (rU fun i=>.int (-i)):=unI fun _ _ _ _ _ q=>neg_int q
end
noncomputable def scal:V->V->Bool
 |.non,.non=>true | .non,.int _=>true | .int _,.non=>true | .non,.bl _=>true | .bl _,.non=>true | .non,.str _=>true | .str _,.non=>true
 |.int _,.int _=>true | .bl _,.bl _=>true | .str _,.str _=>true | .byt _,.byt _=>true
 |.int _,.str _=>true | .str _,.int _=>true | .bl _,.str _=>true | .str _,.bl _=>true
 |_,_=>false
def rEq:R2:=fun x y H Q=>scal x y=true/\Q (.bl (decide (x=y))) H
def rNe:R2:=fun x y H Q=>scal x y=true/\Q (.bl (!decide (x=y))) H
theorem zM9{i j:Int}:decide (V.int i=V.int j)=(i==j):=by
 rw[qCy];simp
theorem dec_bl{i j:Bool}:decide (V.bl i=V.bl j)=(i==j):=by
 rw[qCy];simp
theorem zM8{i j:Str}:decide (V.str i=V.str j)=(i==j):=by
 rw[qCy];simp
theorem zMA{i j:Array UInt8}:decide (V.byt i=V.byt j)=(i.toList==j.toList):=by
 rw[qCy];cases i;cases j;simp
section
variable{X:Cx}{a b c:Expr}{ta tb tc:TE}{pos:Pos}
theorem fin_bl{pins:List (Addr×Obj)}{σ:St}{H:Hp}{s:Shared}{Q:VK}{k k':Bool}(I:Inv X pins σ H s)(q:Q (.bl k) H)(e:k=k'):EP X pins σ Q (.bool k') s:=by
 subst e;exact⟨.bl k,H,I,rfl,q⟩
theorem zTY:OpR X (compareOp .Eq) rEq:=by
 intro pins s σ H x y v u Q I rx ry h;obtain⟨hs,q⟩:=h;cases x with
 |non=>
  cases rx;cases y with
  |non=>cases ry;exact qF3 (fin_bl I q (by simp))
  |bl j=>cases ry;exact qF4 (fin_bl I q (by simp))
  |int j=>obtain⟨t',rfl⟩:=ry;exact qFe (fin_bl I q (by simp))
  |str j=>obtain⟨t',rfl⟩:=ry;exact qFf (fin_bl I q (by simp))
  |_=>exact absurd (show false=true from hs) qAb
 |bl i=>
  cases rx;cases y with
  |non=>cases ry;exact qF5 (fin_bl I q (by simp))
  |bl j=>cases ry;exact eq_bool (fin_bl I q dec_bl)
  |str j=>obtain⟨t',rfl⟩:=ry;exact qF6 (fin_bl I q (by simp))
  |_=>exact absurd (show false=true from hs) qAb
 |int i=>
  obtain⟨t,rfl⟩:=rx;cases y with
  |non=>cases ry;exact qFg (fin_bl I q (by simp))
  |int j=>obtain⟨t',rfl⟩:=ry;exact eq_int (fin_bl I q zM9)
  |str j=>obtain⟨t',rfl⟩:=ry;exact qFh (fin_bl I q (by simp))
  |_=>exact absurd (show false=true from hs) qAb
 |str i=>
  obtain⟨t,rfl⟩:=rx;cases y with
  |non=>cases ry;exact qFi (fin_bl I q (by simp))
  |bl j=>cases ry;exact qF7 (fin_bl I q (by simp))
  |int j=>obtain⟨t',rfl⟩:=ry;exact qFj (fin_bl I q (by simp))
  |str j=>obtain⟨t',rfl⟩:=ry;exact eq_str (fin_bl I q zM8)
  |_=>exact absurd (show false=true from hs) qAb
 |byt i=>
  obtain⟨t,rfl⟩:=rx;cases y with
  |byt j=>obtain⟨t',rfl⟩:=ry;exact PySem.W.eq_bytes (fin_bl I q zMA)
  |_=>exact absurd (show false=true from hs) qAb
 |_=>cases y<;>exact absurd (show false=true from hs) qAb
theorem zTV:OpR X (compareOp .NotEq) rNe:=by
 intro pins s σ H x y v u Q I rx ry h;obtain⟨hs,q⟩:=h;cases x with
 |non=>
  cases rx;cases y with
  |non=>cases ry;exact qF8 (fin_bl I q (by simp))
  |bl j=>cases ry;exact qF9 (fin_bl I q (by simp))
  |int j=>obtain⟨t',rfl⟩:=ry;exact qFk (fin_bl I q (by simp))
  |str j=>obtain⟨t',rfl⟩:=ry;exact qFl (fin_bl I q (by simp))
  |_=>exact absurd (show false=true from hs) qAb
 |bl i=>
  cases rx;cases y with
  |non=>cases ry;exact qFa (fin_bl I q (by simp))
  |bl j=>cases ry;exact ne_bool (fin_bl I q (congrArg not dec_bl))
  |str j=>obtain⟨t',rfl⟩:=ry;exact qFb (fin_bl I q (by simp))
  |_=>exact absurd (show false=true from hs) qAb
 |int i=>
  obtain⟨t,rfl⟩:=rx;cases y with
  |non=>cases ry;exact qFm (fin_bl I q (by simp))
  |int j=>obtain⟨t',rfl⟩:=ry;exact ne_int (fin_bl I q (congrArg not zM9))
  |str j=>obtain⟨t',rfl⟩:=ry;exact qFn (fin_bl I q (by simp))
  |_=>exact absurd (show false=true from hs) qAb
 |str i=>
  obtain⟨t,rfl⟩:=rx;cases y with
  |non=>cases ry;exact qFo (fin_bl I q (by simp))
  |bl j=>cases ry;exact qFc (fin_bl I q (by simp))
  |int j=>obtain⟨t',rfl⟩:=ry;exact qFp (fin_bl I q (by simp))
  |str j=>obtain⟨t',rfl⟩:=ry;exact ne_str (fin_bl I q (congrArg not zM8))
  |_=>exact absurd (show false=true from hs) qAb
 |byt i=>
  obtain⟨t,rfl⟩:=rx;cases y with
  |byt j=>obtain⟨t',rfl⟩:=ry;exact PySem.W.ne_bytes (fin_bl I q (congrArg not zMA))
  |_=>exact absurd (show false=true from hs) qAb
 |_=>cases y<;>exact absurd (show false=true from hs) qAb
theorem zTW:OpR X (compareOp .Lt) (rI0 fun i j=>.bl (decide (i<j))):=opB0 fun _ _ _ _ _ _ _ q=>lt_int q
theorem zTX:OpR X (compareOp .Gt) (rI0 fun i j=>.bl (decide (j<i))):=opB0 fun _ _ _ _ _ _ _ q=>gt_int q
theorem zC4(b:Expr){op:CmpOp}(h:op≠.In:=by decide)(h2:op≠.NotIn:=by decide):behindInMarks op b=false:=by
 have e1:(op==CmpOp.In)=false:=by cases op<;>first|rfl|exact absurd rfl h
 have e2:(op==CmpOp.NotIn)=false:=by cases op<;>first|rfl|exact absurd rfl h2
 cases b<;>simp[behindInMarks,e1,e2]
theorem zLC{op:CmpOp}{r:R2}(ho:OpR X (compareOp op) r)(ha:PE X a ta)(hb:PE X b tb)(hm:behindInMarks op b=false):PE X (.Compare a [op] [b] pos) (tOp r ta tb):=by
 intro pins s σ H Q I h;exact wpAny_Compare1 (binT ha hb I h fun v u s2 x y H2 I2 rx ry q=>ho pins s2 σ H2 x y v u Q I2 rx ry q) hm
def TruV(K:qA0)(x:V)(H:Hp)(k:Bool):Prop:=
 match x with
 |.non=>k=false
 |.bl b=>k=b
 |.int i=>k=(i != 0)
 |.str y=>y.length<=sizeLine/\k=((y.length:Int) != 0)
 |.byt y=>y.size<=sizeLine/\k=((y.size:Int) != 0)
 |.ref p=>(∃xs,SqL K H p xs/\k = !xs.isEmpty)\/(∃xs,SqT K H p xs/\k = !xs.isEmpty)\/∃kvs,H p=some (.dK kvs)/\k = !kvs.isEmpty
 |_=>False
theorem zKG{κ:Type}{kvs:List (κ×V)}{vs:List (κ×Value)}(r:KV kvs vs):(!vs.isEmpty) = !kvs.isEmpty:=by
 cases r<;>rfl
theorem zFX{xs:List V}{its:List Value}(r:Vals xs its):(!its.toArray.isEmpty) = !xs.isEmpty:=by
 cases r<;>simp
theorem zEZ:(sizeLine:Nat)<2 ^ 63:=by rw[sizeLine_eq];decide
theorem zR2:TruR X (fun x H Q=>∃k,TruV X.K x H k/\Q k H):=by
 intro pins s σ H x v Q I rx h;obtain⟨k,e,q⟩:=h;have hl:=zEZ;have hs:sizeLine=16777216:=sizeLine_eq;cases x with
 |non=>
  cases rx;have e':k=false:=e;subst e';exact truthy_none ⟨H,I,q⟩
 |bl b=>
  cases rx;have e':k=b:=e;subst e';exact wpAny_truthy_bool ⟨H,I,q⟩
 |int i=>
  obtain⟨t,rfl⟩:=rx;have e':k=(i != 0):=e;subst e';exact PySem.P.truthy_int ⟨H,I,q⟩
 |str y=>
  obtain⟨t,rfl⟩:=rx;obtain⟨hy,e'⟩:y.length<=sizeLine/\k=((y.length:Int) != 0):=e;subst e';exact PySem.P.truthy_str (by lia) ⟨H,I.tok _,q⟩
 |byt y=>
  obtain⟨t,rfl⟩:=rx;obtain⟨hy,e'⟩:y.size<=sizeLine/\k=((y.size:Int) != 0):=e;subst e';exact PySem.W.truthy_bytes (by lia) ⟨H,I.tok _,q⟩
 |ref p=>
  cases rx;have e':(∃xs,SqL X.K H p xs/\k = !xs.isEmpty)\/(∃xs,SqT X.K H p xs/\k = !xs.isEmpty)\/∃kvs,H p=some (.dK kvs)/\k = !kvs.isEmpty:=e
  rcases e' with⟨xs,hx,e'⟩|⟨xs,hx,e'⟩|⟨kvs,hx,e'⟩
  ·subst e';obtain⟨its,r,pl,hz⟩:=I.list hx;have hlen:=r.length;exact wpAny_truthy_list pl.isList (by simp only[qAh];lia) ⟨H,I.tok _,by rw[zFX r];exact q⟩
  ·subst e';obtain⟨its,r,pl,hz⟩:=I.tuple hx;have hlen:=r.length;exact truthy_tuple pl (by simp only[qAh];lia) ⟨H,I.tok _,by rw[zFX r];exact q⟩
  ·subst e';obtain⟨hz,hS,vs,r,m⟩:kvs.length<=sizeLine/\(p==sysModules)=false/\∃vs,KV kvs vs/\s.heap.DictOf (zIJ X.prog X.w) p vs:=I.hok p _ hx;have hlen:kvs.length=vs.length:=Paired.length r;exact wpAny_truthy_dict hS m (by lia) ⟨H,I.tok _,by rw[zKG r];exact q⟩
 |_=>exact(show False from e).elim
theorem zKB:OpR X (binaryOp .Add) (fun x y H Q=>∃i j,x=.str i/\y=.str j/\i.length+j.length<=sizeLine/\Q (.str (i++j)) H):=by
 intro pins s σ H x y v u Q I rx ry h;obtain⟨i,j,rfl,rfl,hz,q⟩:=h;obtain⟨t,rfl⟩:=rx;obtain⟨t',rfl⟩:=ry;exact add_str (fun t' tk=>⟨.str (i++j),H,I.tok _,⟨_,rfl⟩,q⟩) hz
theorem zK3{x:V}{us:List Value}(r:Vals [x] us):∃u,us=[u]/\RelV x u:=by
 cases r with
 |cons r1 r2=>cases r2;exact⟨_,rfl,r1⟩
theorem zMM{x y:V}{us:List Value}(r:Vals [x,y] us):∃u w',us=[u,w']/\RelV x u/\RelV y w':=by
 cases r with
 |cons r1 r2=>
  cases r2 with
  |cons r3 r4=>cases r4;exact⟨_,_,rfl,r1,r3⟩
theorem zMF(hc:X.calm=true):zD5 X (.builtin "max") (fun xs H Q=>∃i j,xs=[.int i,.int j]/\Q (.int (if j>i then j else i)) H):=by
 intro pins s σ H xs us Q I r h;obtain⟨i,j,rfl,q⟩:=h;obtain⟨u,w',rfl,⟨t,rfl⟩,⟨t',rfl⟩⟩:=zMM r;refine max_two_ints (I.ok.hd hc) fun h' tk k=>⟨_,H,I.kept k,?_,q⟩
 by_cases hj:j>i
 ·rw[if_pos hj,if_pos hj];exact⟨_,rfl⟩
 ·rw[if_neg hj,if_neg hj];exact⟨_,rfl⟩
theorem zME(hc:X.calm=true):zD5 X (.builtin "min") (fun xs H Q=>∃i j,xs=[.int i,.int j]/\Q (.int (if j<i then j else i)) H):=by
 intro pins s σ H xs us Q I r h;obtain⟨i,j,rfl,q⟩:=h;obtain⟨u,w',rfl,⟨t,rfl⟩,⟨t',rfl⟩⟩:=zMM r;refine min_two_ints (I.ok.hd hc) fun h' tk k=>⟨_,H,I.kept k,?_,q⟩
 by_cases hj:j<i
 ·rw[if_pos hj,if_pos hj];exact⟨_,rfl⟩
 ·rw[if_neg hj,if_neg hj];exact⟨_,rfl⟩
end
end L2
namespace L2
open PySem PySem.Spec PyProof.Rows
structure ObjM(h:Heap)(x dx C:Addr)(mA:Str->Option Value):Prop where
 obj:h.get? x=some (qAw C dx)
 ns:h.Ns1 dx mA
 ne:dx≠x
theorem zEY{h:Heap}{dx:Addr}{mA:Str->Option Value}(n:h.Ns1 dx mA):∃od,h.get? dx=some od/\∀name,qD4 name od=some (mA name):=by
 obtain⟨o,es,ep,ho,hd,hk,_,hm⟩:=n;refine⟨o,ho,fun name=>?_⟩;have e:=hm name;unfold nsFind findBy at e;rw[<- Array.find?_toList]at e;unfold qD4;rw[hd];dsimp only
 split
 ·rename_i y q
  rw[q]at e;exact congrArg some e
 ·rename_i q
  rw[q]at e;have a:es.toList.any (·.refKey)=false:=by
   rw[List.any_eq_false];intro y hy;obtain⟨z,t,hkey⟩:=hk y (Array.mem_toList_iff.mp hy);simp[DictEntry.refKey,hkey]
  have a':¬es.toList.any (·.refKey)=true:=by rw[a];exact qAb
  rw[if_neg a'];exact congrArg some e
theorem ObjM.look{h:Heap}{x dx C:Addr}{mA:Str->Option Value}(I:ObjM h x dx C mA):∃od,qDv h x (qAw C dx) C (some od)/\∀name,qD4 name od=some (mA name):=
 let⟨od,ho,hl⟩:=zEY I.ns
 ⟨od,⟨I.obj,rfl,rfl,ho⟩,hl⟩
section
variable{prog:Program}{w:World}{A:Around}{E:Value->Shared->Prop}{s:Shared}{K:qA0}{x dx C f:Addr}{mA:Str->Option Value}{name:Str}{v:Value}
theorem zM1{expr:Bool}{Q:Value->Shared->Prop}(X:K.In s.heap)(I:ObjM s.heap x dx C mA)(hg:qBc K C name=true)(hh:qB0 K C=true)
  (ha:qA3 K (.ref C) name=some none) (hv:mA name=some v) (hv':qCp v=true) (h:Q v { s with toks:=s.toks+1 }) :
  wpAny (model prog w) A (getAttr (.ref x) name expr) Q E s:=by
 obtain⟨od,J,hl⟩:=I.look;exact PySem.W.get_value X J (qCz hg).1 (qDy hh ha rfl (by rw[hl,hv])) hv' h
theorem zNM{pl:Sem Bool}{Q:Value×List Value->Shared->Prop}(X:K.In s.heap)(I:ObjM s.heap x dx C mA)(hg:qBc K C name=true)
  (hf:qA3 K (.ref C) name=some (some (.ref f))) (ht:qB7 K (.ref f)=true) (hv:mA name=none) (h:Q (.ref f,[.ref x]) s) :
  wpAny (model prog w) A (getMethod (.ref x) name pl) Q E s:=by
 obtain⟨od,J,hl⟩:=I.look;exact PySem.W.method_fn X J (qCz hg).1 (qCz hg).2 hf (beq_iff_eq.mp ht) (by show(qD4 name od).map (·.isSome)=some false;rw[hl,hv];rfl) h
theorem zPD{ns:List Str}{Q:Unit->Shared->Prop}(X:K.In s.heap)(I:ObjM s.heap x dx C mA)
  (hs:qA3 K (.ref C) "__setattr__" = some (some (.builtin "object.__setattr__"))) (hp:qBo K C=true) (ht:qCd K C name=some none) (hh:qB0 K C=true)
  (hw:qEj mA ns) (hsz:ns.length<=sizeLine)
  (h:∀h',ObjM h' x dx C (fun y=>if y=name then some v else mA y)->Heap.SameBut dx s.heap h'->Q () { s with heap:=h',toks:=s.toks+2 }) :
  wpAny (model prog w) A (setAttr (.ref x) name v) Q E s:=by
 obtain⟨od,J,hl⟩:=I.look;refine PySem.W.set_plain X J hs (PySem.W.osa_open (s:={ s with toks:=s.toks+1 }) (r:=none) X J hp ht fun b=>?_);obtain⟨cd,hc,hd'⟩:=PySem.W.any_some hh;have hx:s.heap.get? x=some ⟨.ref C,some dx,.plain,#[]⟩:=I.obj;refine wpAny_bind (wpAny_pure (wpAny_bind (wpAny_bind (wpAny_loadPart hx (wpAny_bind (qFy (s:={ s with toks:=s.toks+1 }) (PySem.W.looks_clsIn X hc) ?_))))));rw[hd'];refine wpAny_pure (a:=some dx) (wpAny_bind (wpAny_pure (wpAny_bind ?_)));refine wpAny_nsSet1 (s:={ s with toks:=s.toks+1 }) I.ns fun h' hn2 hs2=>?_
 obtain⟨oD,esD,epD,hoD,hdD,hcD⟩:=hn2.count (qFz name v hw);refine wpAny_bind (wpAny_lookBehind hoD (by rw[hdD];exact pastItsLine_dict (qAm hcD (by rw[qAv];lia))) ?_);exact wpAny_pure (h _ ⟨(hs2.2 _ (qCc I.ne)).trans I.obj,hn2,I.ne⟩ hs2)
theorem zN9{R:Result->Shared->Prop}{vs:List Value}{kw:List (Str×Value)}(X:K.In s.heap)(hm:qBh K C=true)
  (hi:qA3 K (.ref C) "__init__" = some (some (.ref f))) (hf:qB1 K (.ref f)=some (.type "function"))
  (h:codeAny (model prog w) (A.under (.builtin "type.__call__" ⟨.ref C::vs,kw⟩)) (.call (.ref f) ⟨.ref (s.heap.objs.size+1)::vs,kw⟩) (qEn (s.heap.objs.size+1) R)
   { s with heap:=(s.heap.push qAs).push (qAw C s.heap.objs.size) }) :
  codeAny (model prog w) A (.call (.ref C) ⟨vs,kw⟩) R s:=by
 obtain⟨hh,g,d,t,os⟩:=s;exact qEa (qDe X hm) (qC6 X hi) (fun self=>PySem.W.bind_fn X self hf) (.inl rfl) h
theorem zLN{R:Result->Shared->Prop}(X:K.In s.heap)(hm:qBh K C=true)
  (hi:qA3 K (.ref C) "__init__" = some (some (.builtin "object.__init__")))
  (hb:∀self,qBw (model prog w) s.heap (bindSpecial (.builtin "object.__init__") self) (.builtin "object.__init__",[self]))
  (h:codeAny (model prog w) (A.under (.builtin "type.__call__" ⟨[.ref C],[]⟩)) (.call (.builtin "object.__init__") ⟨[.ref (s.heap.objs.size+1)],[]⟩) (qEn (s.heap.objs.size+1) R)
   { s with heap:=(s.heap.push qAs).push (qAw C s.heap.objs.size) }) :
  codeAny (model prog w) A (.call (.ref C) ⟨[],[]⟩) R s:=by
 obtain⟨hh,g,d,t,os⟩:=s;exact qEa (qDe X hm) (qC6 X hi) hb (.inr ⟨rfl,rfl⟩) h
end
noncomputable def putF(f:Str)(v:V):List (Str×V)->List (Str×V)
 |[]=>[(f,v)]
 |(g,x)::r=>if g=f then(g,v)::r else(g,x)::putF f v r
theorem zEX(f g:Str)(v:V):∀fs:List (Str×V),(putF f v fs).lookup g=if g=f then some v else fs.lookup g
 |[]=>by
  show qBj g [(f,v)]=_
  by_cases h:g=f
  ·have hb:(g==f)=true:=beq_iff_eq.mpr h;simp only[qBj,hb,if_pos h]
  ·have hb:(g==f)=false:=beq_eq_false_iff_ne.mpr h;simp only[qBj,hb,if_neg h]
 |(k,x)::r=>by
  have ih:=zEX f g v r;rw[show putF f v ((k,x)::r)=(if k=f then(k,v)::r else(k,x)::putF f v r) from rfl]
  by_cases hk:k=f
  ·rw[if_pos hk]
   by_cases h:g=k
   ·have hb:(g==k)=true:=beq_iff_eq.mpr h;simp only[qBj,hb,if_pos (h.trans hk)]
   ·have hb:(g==k)=false:=beq_eq_false_iff_ne.mpr h;simp only[qBj,hb,if_neg (fun e:g=f=>h (e.trans hk.symm))]
  ·rw[if_neg hk]
   by_cases h:g=k
   ·have hb:(g==k)=true:=beq_iff_eq.mpr h;simp only[qBj,hb,if_neg (fun e:g=f=>hk (h.symm.trans e))]
   ·have hb:(g==k)=false:=beq_eq_false_iff_ne.mpr h;simp only[qBj,hb];exact ih
theorem zF3(f:Str)(v:V):∀fs:List (Str×V),f∈(putF f v fs).map (·.1)/\∀g,g∈fs.map (·.1)->g∈(putF f v fs).map (·.1)
 |[]=>⟨by simp[putF],fun g h=>by simp at h⟩
 |(k,x)::r=>by
  obtain⟨i1,i2⟩:=zF3 f v r;rw[show putF f v ((k,x)::r)=(if k=f then(k,v)::r else(k,x)::putF f v r) from rfl]
  by_cases hk:k=f
  ·rw[if_pos hk];subst hk;exact⟨by simp,fun g h=>by simpa using h⟩
  ·rw[if_neg hk];refine⟨?_,fun g h=>?_⟩
   ·rw[qAj];exact qAl _ i1
   ·rw[qAj]at h ⊢
    rcases qAa.mp h with e|e
    ·exact qAa.mpr (.inl e)
    ·exact qAl _ (i2 g e)
theorem zF0(f:Str)(v:V):∀fs:List (Str×V),(putF f v fs).length<=fs.length+1
 |[]=>by simp[putF]
 |(k,x)::r=>by
  have ih:=zF0 f v r;rw[show putF f v ((k,x)::r)=(if k=f then(k,v)::r else(k,x)::putF f v r) from rfl]
  by_cases hk:k=f
  ·rw[if_pos hk,qAv,qAv];lia
  ·rw[if_neg hk,qAv,qAv];lia
theorem RelO.some_of{v:V}{o:Option Value}(r:RelO (some v) o):∃u,o=some u/\RelV v u:=by
 cases o with
 |none=>exact(show False from r).elim
 |some u=>exact⟨u,rfl,r⟩
theorem RelO.none_of{o:Option Value}(r:RelO none o):o=none:=by
 cases o with
 |none=>rfl
 |some u=>exact(show False from r).elim
theorem zHS{v:V}{u:Value}(r:RelV v u):qCp u=true:=by
 cases v with
 |non=>cases(show u=Value.none from r);rfl
 |bl b=>cases(show u=Value.bool b from r);rfl
 |int i=>obtain⟨t,e⟩:=(show ∃t,u=Value.int i t from r);cases e;rfl
 |str x=>obtain⟨t,e⟩:=(show ∃t,u=Value.str x t from r);cases e;rfl
 |byt b=>obtain⟨t,e⟩:=(show ∃t,u=Value.bytes b t from r);cases e;rfl
 |flt b=>obtain⟨t,e⟩:=(show ∃t,u=Value.float b t from r);cases e;rfl
 |ref a=>cases(show u=Value.ref a from r);rfl
 |ty n=>cases(show u=Value.type n from r);rfl
section
variable{P:Program}{w:World}{H H':Hp}{h h':Heap}{a C dx:Addr}{fs fs':List (Str×V)}
theorem zGS(hok:HOk P w H h)(e:H a=some (.ins C dx fs)):∃mA,ObjM h a dx C mA/\(∀f,RelO (fs.lookup f) (mA f))/\qEj mA (fs.map (·.1))/\fs.length<=1000/\H dx=some (.own a):=by
 obtain⟨d,z,ne,ob,mA,n,r,q⟩:=(show ObjOk P w H h a (.ins C dx fs) from hok a _ e)
 exact⟨mA,⟨ob,n,ne⟩,r,q,z,d⟩
end
structure Cls(K:qA0)(C:Addr):Prop where
 pg:qBc K C Str.empty=true
 hd:qB0 K C=true
 po:qBo K C=true
 sa:qA3 K (.ref C) "__setattr__" = some (some (.builtin "object.__setattr__"))
theorem Cls.get{K:qA0}{C:Addr}(c:Cls K C)(f:Str):qBc K C f=true:=c.pg
def NoAttr(K:qA0)(C:Addr)(f:Str):Prop:=qA3 K (.ref C) f=some none
theorem NoAttr.taker{K:qA0}{C:Addr}{f:Str}(n:NoAttr K C f):qCd K C f=some none:=by
 unfold qCd;rw[show qA3 K (.ref C) f=some none from n];rfl
structure Meth(K:qA0)(C:Addr)(m:Str)(f:Addr):Prop where
 at_:qA3 K (.ref C) m=some (some (.ref f))
 fn:qB7 K (.ref f)=true
 kp:qAe K (.ref f)=true
section
variable{X:Cx}{pins:List (Addr×Obj)}{σ:St}{H:Hp}{s:Shared}{a C dx:Addr}{fs:List (Str×V)}{f:Str}{v:V}{A:Around}{E:Value->Shared->Prop}
theorem zKI{b:Bool}{Q:Value->Shared->Prop}(I:Inv X pins σ H s)(e:H a=some (.ins C dx fs))(c:Cls X.K C)(n:NoAttr X.K C f)(l:fs.lookup f=some v)
  (h:∀u s',Inv X pins σ H s'->RelV v u->Q u s'):wpAny (model X.prog X.w) A (getAttr (.ref a) f b) Q E s:=by
 obtain⟨mA,O,r,_,_,_⟩:=zGS I.hok e;obtain⟨u,hu,ru⟩:=RelO.some_of (v:=v) (o:=mA f) (by rw[<- l];exact r f);exact zM1 I.kIn O (c.get f) c.hd n hu (zHS ru) (h u _ (I.tok _) ru)
theorem zFY{m:Str}{g:Addr}{pl:Sem Bool}{Q:Value×List Value->Shared->Prop}(I:Inv X pins σ H s)(e:H a=some (.ins C dx fs))(c:Cls X.K C)(k:Meth X.K C m g)(l:fs.lookup m=none)
  (h:Q (.ref g,[.ref a]) s):wpAny (model X.prog X.w) A (getMethod (.ref a) m pl) Q E s:=by
 obtain⟨mA,O,r,_,_,_⟩:=zGS I.hok e;have hn:mA m=none:=RelO.none_of (by rw[<- l];exact r m);exact zNM I.kIn O (c.get m) k.at_ k.fn hn h
theorem zK7{y:V}{u:Value}{Q:Unit->Shared->Prop}(I:Inv X pins σ H s)(e:H a=some (.ins C dx fs))(c:Cls X.K C)(n:NoAttr X.K C f)(hl:fs.length<1000)(ry:RelV y u)
  (h:∀s',Inv X pins σ (upd H a (.ins C dx (putF f y fs))) s'->Q () s'):wpAny (model X.prog X.w) A (setAttr (.ref a) f u) Q E s:=by
 obtain⟨mA,O,r,wi,_,ho⟩:=zGS I.hok e;have hz:(fs.map (·.1)).length<=sizeLine:=by rw[qAx,sizeLine_eq];lia
 refine zPD I.kIn O c.sa c.po n.taker c.hd wi hz fun h' O' sb=>h _ ?_
 have hd:∃o,h'.get? dx=some o:=let⟨o,_,_,e',_⟩:=O'.ns;⟨o,e'⟩
 refine I.write (x:=a) (e:=dx) (by rw[e];exact qCw) (.inr ho) (fun b q hb z=>(sb.2 b hb).trans z) hd ?_;refine⟨by rw[zA9 O.ne];exact ho,?_,O.ne,O'.obj,_,O'.ns,fun g=>?_,fun g hg=>?_⟩
 ·have:=zF0 f y fs;lia
 ·show RelO ((putF f y fs).lookup g) (if g=f then some u else mA g);rw[zEX]
  by_cases q:g=f
  ·rw[if_pos q,if_pos q];exact ry
  ·rw[if_neg q,if_neg q];exact r g
 ·by_cases q:g=f
  ·rw[q];exact(zF3 f y fs).1
  ·refine(zF3 f y fs).2 g (wi g fun z=>hg ?_)
   show(if g=f then some u else mA g)=none
   rw[if_neg q];exact z
theorem Inv.made(I:Inv X pins σ H s):Inv X pins σ (upd (upd H s.heap.objs.size (.own (s.heap.objs.size+1))) (s.heap.objs.size+1) (.ins C s.heap.objs.size []))
  { s with heap:=(s.heap.push qAs).push (qAw C s.heap.objs.size) }:=by
 have e1:(s.heap.push qAs).get? s.heap.objs.size=some qAs:=Heap.get?_push_size s.heap rfl;have e2:((s.heap.push qAs).push (qAw C s.heap.objs.size)).get? (s.heap.objs.size+1)=some (qAw C s.heap.objs.size):=by
  have:=Heap.get?_push_size (s.heap.push qAs) (o:=qAw C s.heap.objs.size) rfl
  rwa [Heap.size_push]at this
 have e3:(s.heap.push qAs).Ns s.heap.objs.size (fun _=>none):=⟨qAs,#[],_,e1,rfl,(fun e he=>absurd he (by simp)),fun _=>rfl⟩
 have I1:=I.laid (a:=s.heap.objs.size) (o:=.own (s.heap.objs.size+1)) (h':=s.heap.push qAs) (t':=s.toks) (fun b u q=>Heap.get?_push_of_some _ q) (qA6 _) ⟨_,e1⟩;refine I1.laid (a:=s.heap.objs.size+1) (o:=.ins C s.heap.objs.size []) (t':=s.toks) (fun b u q=>Heap.get?_push_of_some _ q) (qD2 (Heap.size_push _ _)) ?_;have ne:s.heap.objs.size≠s.heap.objs.size+1:=qAn (qCq _);refine⟨by rw[zA9 ne,zAD],qB8 _,ne,e2,fun _=>none,(Heap.Ns1.of_empty e3).at fun o q=>Heap.get?_push_of_some _ q,fun _=>qCw,fun y hy=>absurd rfl hy⟩
theorem zMK{prog:Program}{w:World}{env:Env}{e:Expr}{f:Str}{pos:Pos}{s:Shared}{Q:Value->Shared->Prop}(hb:attributeBase e f env (eval e env)=eval e env)
  (h:wpAny (model prog w) A (eval e env) (fun o s₁=>wpAny (model prog w) A (getAttr o f true) Q E s₁) E s):wpAny (model prog w) A (eval (.Attribute e f pos) env) Q E s:=
 Attribute_any_ h (by rw[arm_eval_Attribute,hb])
end
noncomputable def tFld(K:qA0)(ta:TE)(f:Str):TE:=fun σ H Q=>ta σ H fun x H1=>∃a C dx fs v,x=.ref a/\H1 a=some (.ins C dx fs)/\Cls K C/\NoAttr K C f/\fs.lookup f=some v/\Q v H1
def sFld(K:qA0)(ta tv:TE)(f:Str):TS:=fun D σ H=>tv σ H fun y H1=>ta σ H1 fun x H2=>∃a C dx fs,x=.ref a/\H2 a=some (.ins C dx fs)/\Cls K C/\NoAttr K C f/\fs.length<1000 /\
 D.nx σ (upd H2 a (.ins C dx (putF f y fs)))
section
variable{X:Cx}{o e value:Expr}{f:Str}{pos pos' tpos:Pos}{ta tv:TE}
theorem zLA(he:PE X e ta)(hb:attributeBase e f X.env (eval e X.env)=eval e X.env):PE X (.Attribute e f pos) (tFld X.K ta f):=by
 intro pins s σ H Q I h;refine zMK hb (thn (he pins s σ H _ I h) fun u s1 z0=>?_);obtain⟨x,H1,I1,rx,a,C,dx,fs,v,ex,ea,c,n,l,q⟩:=z0;subst ex;obtain rfl:u=Value.ref a:=rx;exact zKI I1 ea c n l fun u' s2 I2 ru=>⟨v,H1,I2,ru,q⟩
theorem zJF(ha:PE X o ta)(hv:PE X value tv)(hs:swapsWith value (some (.Attribute o f pos')) pos.line X.env=pure false):PS X (.Assign [.Attribute o f pos'] value pos) (sFld X.K ta tv f):=by
 intro pins s σ H D I h;refine plainObj_wpAny_Assign_Attribute (thn (hv pins s σ H _ I h) fun u s1 ⟨y,H1,I1,ry,q⟩=>thn (ha pins s1 σ H1 _ I1 q) fun ov s2 ⟨x,H2,I2,rx,a,C,dx,fs,ex,ea,c,n,l,q2⟩=>?_) hs;subst ex;obtain rfl:ov=Value.ref a:=rx;exact zK7 I2 ea c n l ry fun s3 I3=>⟨σ,_,I3,q2⟩
end
section
variable{X:Cx}{pins:List (Addr×Obj)}{σ:St}{H:Hp}{s:Shared}{A:Around}{E:Value->Shared->Prop}{Q:Value->Shared->Prop}{c:Value}{b:Bool}
inductive TyOf(K:qA0)(H:Hp):V->Value->Prop where
 |non:TyOf K H .non (.type "NoneType")
 |bl (x:Bool):TyOf K H (.bl x) (.type "bool")
 |int (i:Int):TyOf K H (.int i) (.type "int")
 |str (x:Str):TyOf K H (.str x) (.type "str")
 |flt (x:UInt64):TyOf K H (.flt x) (.type "float")
 |lst {a:Addr} {xs:List V} (e:H a=some (.lst xs)):TyOf K H (.ref a) (.type "list")
 |frz {a:Addr} {o:Obj} {xs:List V} (e:H a=some (.frz o (.lst xs))):TyOf K H (.ref a) (.type "list")
 |tup {a:Addr} {xs:List V} (e:H a=some (.tup xs)):TyOf K H (.ref a) (.type "tuple")
 |dK {a:Addr} {kvs:List (Key×V)} (e:H a=some (.dK kvs)):TyOf K H (.ref a) (.type "dict")
 |dT {a:Addr} {kvs:List (List Key×V)} (e:H a=some (.dT kvs)):TyOf K H (.ref a) (.type "dict")
 |ins {a C dx:Addr} {fs:List (Str×V)} (e:H a=some (.ins C dx fs)) (cl:Cls K C) (ha:qA3 K (.ref C) "__class__" = some (some (.builtin "object.__class__")))
   (hn:qC3 K (.builtin "object.__class__") "__get__" = some (some (.builtin "getset_descriptor.__get__"))) (htk:qDn K (.builtin "object.__class__")=some true)
   (hm:qBm K C (.type "object")=some true):TyOf K H (.ref a) (.ref C)
theorem zLX{x:V}{u t:Value}(I:Inv X pins σ H s)(rx:RelV x u)(ty:TyOf X.K H x t)(e:qB6 X.K t c=some b)(h:∀tk,Q (.bool b) { s with toks:=tk }) :
  wpAny (model X.prog X.w) A (call (.builtin "isinstance") [u,c]) Q E s:=by
 cases ty with
 |non=>cases(show u=Value.none from rx);exact qAz PySem.W.kitx_none I.kIn qCw e (fun z=>nomatch z) h
 |bl y=>cases(show u=Value.bool y from rx);exact qAz PySem.W.kitx_bool I.kIn qCw e (fun z=>nomatch z) h
 |int i=>obtain⟨t,q⟩:=(show ∃t,u=Value.int i t from rx);cases q;exact qAz PySem.W.kitx_int I.kIn qCw e (fun z=>nomatch z) h
 |str y=>obtain⟨t,q⟩:=(show ∃t,u=Value.str y t from rx);cases q;exact qAz PySem.W.kitx_str I.kIn qCw e (fun z=>nomatch z) h
 |flt y=>obtain⟨t,q⟩:=(show ∃t,u=Value.float y t from rx);cases q;exact qAz PySem.W.kitx_float I.kIn qCw e (fun z=>nomatch z) h
 |@lst a xs ea=>
  cases(show u=Value.ref a from rx)
  obtain⟨_,_,n,_,h1⟩:=(show ObjOk X.prog X.w H s.heap a (.lst xs) from I.hok a _ ea)
  exact qAz qEb I.kIn ⟨_,h1,rfl⟩ e (fun z=>nomatch z) h
 |@frz a ob xs ea=>
  cases(show u=Value.ref a from rx)
  obtain⟨_,_,_,n,_,h1⟩:=(show ObjOk X.prog X.w H s.heap a (.frz ob (.lst xs)) from I.hok a _ ea)
  exact qAz qEb I.kIn ⟨_,h1,rfl⟩ e (fun z=>nomatch z) h
 |@tup a xs ea=>
  cases(show u=Value.ref a from rx)
  obtain⟨_,_,_,p⟩:=(show ObjOk X.prog X.w H s.heap a (.tup xs) from I.hok a _ ea)
  obtain⟨o,h1,h2,_⟩:=p;exact qAz PySem.W.kitx_tuple I.kIn ⟨o,h1,h2⟩ e (fun z=>nomatch z) h
 |@dK a kvs ea=>
  cases(show u=Value.ref a from rx)
  obtain⟨_,_,vs,_,p⟩:=(show ObjOk X.prog X.w H s.heap a (.dK kvs) from I.hok a _ ea)
  obtain⟨o,es,ep,h1,h2,_⟩:=p;exact qAz qEc I.kIn ⟨o,h1,h2.1⟩ e (fun z=>nomatch z) h
 |@dT a kvs ea=>
  cases(show u=Value.ref a from rx)
  obtain⟨_,_,xs,_,o,es,ep,h1,h2,_⟩:=(show ObjOk X.prog X.w H s.heap a (.dT kvs) from I.hok a _ ea)
  exact qAz qEc I.kIn ⟨o,h1,h2.1⟩ e (fun z=>nomatch z) h
 |@ins a C dx fs ea cl ha hn htk hm=>
  cases(show u=Value.ref a from rx)
  obtain⟨mA,O,_⟩:=zGS I.hok ea;obtain⟨od,J,_⟩:=O.look;exact qAz (PySem.W.kitx_own (cl.get _) cl.hd ha hn htk hm) I.kIn J e (fun z=>nomatch z) h
end
end L2
namespace L2
open PySem PySem.Spec PyProof.Rows
structure Room(k:Nat)(A:Around):Prop where
 hd:A.handled=none
 dp:A.depth+3*k+5<recursionLimit
 un:A.units+16*k+200<cLine
theorem Room.mono{j k:Nat}{A:Around}(r:Room k A)(h:j<=k):Room j A:=⟨r.hd,by have:=r.dp;lia,by have:=r.un;lia⟩
theorem Room.deeper{k:Nat}{A:Around}(r:Room (k+1) A)(env:Env):Room k (A.deeper env):=
 ⟨r.hd,by have:=r.dp;show A.depth+1+3*k+5<_;lia,by have:=r.un;show A.units+3+16*k+200<_;lia⟩
theorem zKE{A:Around}{C:Addr}{us:List Value}{kw:List (Str×Value)}:(A.under (.builtin "type.__call__" ⟨.ref C::us,kw⟩)).depth=A.depth+1:=by
 first|rfl|simp[Around.under,Code.weight,Code.isCreation,Code.isGuard,Code.isCaller,Code.frames,Code.isFrame,guardIds]
theorem zKD{A:Around}{C:Addr}{us:List Value}{kw:List (Str×Value)}:(A.under (.builtin "type.__call__" ⟨.ref C::us,kw⟩)).units=A.units+1:=by
 first|rfl|simp[Around.under,Code.cUnits,Code.frames,Code.isFrame]
theorem Room.make{k:Nat}{A:Around}(r:Room (k+1) A)(C:Addr)(us:List Value)(kw:List (Str×Value)):Room k (A.under (.builtin "type.__call__" ⟨.ref C::us,kw⟩)):=
 ⟨r.hd,by have:=r.dp;rw[zKE];lia,by have:=r.un;rw[zKD];lia⟩
theorem Room.depth{k:Nat}{A:Around}(r:Room k A):A.depth<recursionLimit:=by have:=r.dp;lia
theorem Room.units{k:Nat}{A:Around}(r:Room k A):A.units+64<cLine:=by have:=r.un;lia
noncomputable def tNil:TA:=fun _ H Q=>Q [] H
noncomputable def zDY(ta:TE)(tr:TA):TA:=fun σ H Q=>ta σ H fun x H1=>tr σ H1 fun xs H2=>Q (x::xs) H2
section
variable{X:Cx}{e:Expr}{es:List Expr}{te:TE}{t:TA}{pos:Pos}
theorem zAF:PA X [] tNil:=fun _ _ _ _ H Q I h=>Calls.spliced_nil ⟨[],H,I,.nil,h⟩
theorem zA2(ha:PE X e te)(hr:PA X es t)(hs:starEach (e::es) X.env=(false,eval e X.env)::starEach es X.env:=by rfl):PA X (e::es) (zDY te t):=by
 intro pos pins s σ H Q I h;rw[hs];show wpAny _ _ (spliced ((false,eval e X.env)::backTo pos (starEach es X.env))) _ _ s;refine Calls.spliced_cons (thn (ha pins s σ H _ I h) fun u s1 z0=>?_);obtain⟨x,H1,I1,r1,q1⟩:=z0;exact thn (hr pos pins s1 σ H1 _ I1 q1) fun us s2 ⟨xs,H2,I2,r2,q2⟩=>⟨x::xs,H2,I2,.cons r1 r2,q2⟩
def tLst(t:TA):TE:=fun σ H Q=>t σ H fun xs H1=>xs.length<=sizeLine/\∀p,H1 p=none->Q (.ref p) (upd H1 p (.lst xs))
theorem zCJ(h:PA X es t):PE X (.List es pos) (tLst t):=by
 intro pins s σ H Q I hq;refine wpAny_List_spliced (thn (h pos pins s σ H _ I hq) fun us s1 ⟨xs,H1,I1,r,z,q⟩=>⟨by rw[<- r.length];exact z,?_⟩);have hf:H1 s1.heap.objs.size=none:=I1.hok.fresh (qA6 _);refine⟨.ref s1.heap.objs.size,upd H1 s1.heap.objs.size (.lst xs),I1.laid (t':=s1.toks) (fun b u e=>Heap.get?_push_of_some _ e) (qA6 _) ?_,rfl,q _ hf⟩;exact⟨z,us,0,r,Heap.get?_push_size _ rfl⟩
end
abbrev Sp:=List V->Hp->VK->XK->Prop
abbrev CXT:=List Env->Hp->Shared->XK->Value->Shared->Prop
structure Env0(P:Program)(w:World)(K:qA0)(mg:Str->Option Value)(base:Heap)(A:Around)(outer:List Env)(s:Shared)(H:Hp):Prop where
 frames:A.frames=some outer
 mod:Mod K mg base
 bs:∀b o,base.get? b=some o->s.heap.get? b=some o/\H b=none
 bsz:base.objs.size<=s.heap.objs.size
 funs:s.heap.FunFrames base outer
 frf:∀b∈frs outer,H b=none
 hok:HOk P w H s.heap
 bare:AllBare s.gens
def CE(outer:List Env)(P:Program)(w:World)(H:Hp)(s:Shared)(Q:VK)(u:Value)(s':Shared):Prop:=
 ∃v H',s'.os=s.os/\AllBare s'.gens/\Un (frs outer) [] H H' s.heap s'.heap/\HOk P w H' s'.heap/\RelV v u/\Q v H'
def CR(CX:CXT)(outer:List Env)(P:Program)(w:World)(H:Hp)(s:Shared)(Q:VK)(E:XK)(r:Result)(s':Shared):Prop:=
 match r with
 |.ok (.ret u)=>CE outer P w H s Q u s'
 |.ok _=>False
 |.error e=>CX outer H s E e s'
structure FnOk(P:Program)(w:World)(K:qA0)(mg:Str->Option Value)(base:Heap)(CX:CXT)(k:Nat)(f:Addr)(fd:FuncData)(ps:List Str)(sp:Sp):Prop where
 len:∀vs H Q E,sp vs H Q E->vs.length=ps.length
 run:∀(A:Around)(outer:List Env)(s:Shared)(H:Hp)(args:Args)(us:List Value)(vs:List V)(Q:VK)(E:XK),Room k A->Env0 P w K mg base A outer s H->BindsTo s fd args (ps.zip us)->Vals vs us->sp vs H Q E ->
  codeAny (model P w) A (.call (.ref f) args) (CR CX outer P w H s Q E) s
theorem FnOk.imp{P:Program}{w:World}{K:qA0}{mg:Str->Option Value}{base:Heap}{CX:CXT}{k:Nat}{f:Addr}{fd:FuncData}{ps:List Str}{sp sp':Sp}(F:FnOk P w K mg base CX k f fd ps sp)
  (h:∀vs H Q E,sp' vs H Q E->sp vs H Q E):FnOk P w K mg base CX k f fd ps sp':=
 ⟨fun vs H Q E q=>F.len vs H Q E (h _ _ _ _ q),fun A outer s H args us vs Q E hr he hb hv hs=>F.run A outer s H args us vs Q E hr he hb hv (h _ _ _ _ hs)⟩
theorem Env0.make{P:Program}{w:World}{K:qA0}{mg:Str->Option Value}{base:Heap}{A:Around}{outer:List Env}{s:Shared}{H:Hp}(e:Env0 P w K mg base A outer s H)(C:Addr)(us:List Value)(kw:List (Str×Value)) :
  Env0 P w K mg base (A.under (.builtin "type.__call__" ⟨.ref C::us,kw⟩)) outer s H:=⟨by first|exact e.frames|(simpa[Around.under,Code.envs,Code.isFrame,pushEnvs]using e.frames),e.mod,e.bs,e.bsz,e.funs,e.frf,e.hok,e.bare⟩
section
variable{X:Cx}{pins:List (Addr×Obj)}{σ:St}{H:Hp}{s s':Shared}
theorem Inv.env0(I:Inv X pins σ H s):Env0 X.prog X.w X.K X.mg X.base X.A X.stack s H:=
 ⟨I.ok.frames,I.ok.mod,I.bs,qAm I.ok.bsz I.sz,I.stack,I.stkFree,I.hok,I.bare⟩
theorem Inv.after{Q:VK}{u:Value}(I:Inv X pins σ H s)(h:CE X.stack X.prog X.w H s Q u s'):EP X pins σ Q u s':=by
 obtain⟨v,H',os,bare,un,hok,r,q⟩:=h;obtain⟨hh,g,d,t,os'⟩:=s';obtain rfl:os'=s.os:=os;exact⟨v,H',I.call (h':=hh) (g':=g) (d':=d) (t':=t) (ch:=[]) un hok bare (fun b z=>absurd z (by simp)),r,q⟩
end
noncomputable def zID(sp:Sp)(dvs:List V)(E:XK)(t:TA):TE:=fun σ H Q=>t σ H fun vs H1=>sp (vs++dvs) H1 Q E
def zPA(C:Addr)(sp:Sp)(dvs:List V)(E:XK)(t:TA):TE:=fun σ H Q=>t σ H fun vs H1=>∀x dx,H1 x=none->H1 dx=none->dx≠x ->
 sp (.ref x::(vs++dvs)) (upd (upd H1 dx (.own x)) x (.ins C dx [])) (fun v H2=>v=.non/\Q (.ref x) H2) E
def Binds(K:qA0)(fd:FuncData)(ps:List Str)(ds:List Value):Prop:=
 ∀(s:Shared)(us:List Value),K.In s.heap->(us++ds).length=ps.length->BindsTo s fd ⟨us,[]⟩ (ps.zip (us++ds))
theorem Binds.all{K:qA0}{fd:FuncData}{ps:List Str}(h:∀us:List Value,us.length=ps.length->bindArgs fd ⟨us,[]⟩=pure (ps.zip us)):Binds K fd ps []:=fun s us _ hl=>by
 rw[qBi]at hl ⊢;exact .of_eq (h us hl)
def zDX(CX:CXT)(X:Cx)(E:XK):Prop:=∀(pins:List (Addr×Obj))(σ:St)(H:Hp)(s:Shared)(e:Value)(s':Shared),Inv X pins σ H s->CX X.stack H s E e s'->X.xe e s'
section
variable{X:Cx}{CX:CXT}{k:Nat}{f C:Addr}{fd:FuncData}{ps:List Str}{sp:Sp}{dvs:List V}{ds:List Value}{E:XK}{x m:Str}{p pos apos:Pos}{e o:Expr}{es:List Expr}{ta:TE}{t:TA}
theorem zOA{pins:List (Addr×Obj)}{σ:St}{H:Hp}{s:Shared}{Q:VK}{us:List Value}{vs:List V}(F:FnOk X.prog X.w X.K X.mg X.base CX k f fd ps sp)(hr:Room k X.A)(hb:Binds X.K fd ps ds)(hd:Vals dvs ds)(hx:zDX CX X E)
  (I:Inv X pins σ H s) (r:Vals vs us) (h:sp (vs++dvs) H Q E):wpAny (model X.prog X.w) X.A (call (.ref f) us) (EP X pins σ Q) X.xe s:=by
 have r2:Vals (vs++dvs) (us++ds):=r.append hd;have hl:(us++ds).length=ps.length:=by rw[<- r2.length];exact F.len _ _ _ _ h
 refine wpAny_call (codeAny_mono (F.run X.A X.stack s H ⟨us,[]⟩ (us++ds) (vs++dvs) Q E hr I.env0 (hb s us I.kIn hl) r2 h) fun r s' hq=>?_);cases r with
 |error e=>exact hx pins σ H s e s' I hq
 |ok fl=>
  cases fl with
  |ret u=>exact I.after hq
  |next=>exact qA4 hq
  |brk=>exact qA4 hq
  |cont=>exact qA4 hq
theorem zLD(F:FnOk X.prog X.w X.K X.mg X.base CX k f fd ps sp)(hr:Room k X.A)(hg:Gl X x)(hm:X.mg x=some (.ref f))(hk:qAe X.K (.ref f)=true)(hb:Binds X.K fd ps ds)(hd:Vals dvs ds)(hx:zDX CX X E)
  (ha:PA X (e::es) t) (hdb:(x==("__debug__":Str))=false:=by decide) (he:starEach (e::es) X.env=(false,eval e X.env)::starEach es X.env:=by rfl) (hpl:(backTo pos (starEach es X.env)).any (·.1)=false:=by rfl) :
  PE X (.Call (.Name x p) (e::es) [] pos) (zID sp dvs E t):=by
 intro pins s σ H Q I h;refine wpAny_Call_Name_kw (zCK I hg hm ?_ hdb);refine qBp (h₀:=X.base) I.ok.mod.kin hk (thn (ha pos pins s σ H _ I h) fun us s1 ⟨vs,H1,I1,r,q⟩=>⟨I1.kIn,?_⟩) he hpl;exact zOA F hr hb hd hx I1 r q
structure Mk(K:qA0)(C f:Addr):Prop where
 makes:qBh K C=true
 init:qA3 K (.ref C) "__init__" = some (some (.ref f))
 fn:qB7 K (.ref f)=true
 kp:qAe K (.ref C)=true
theorem zMT{pins:List (Addr×Obj)}{σ:St}{H:Hp}{s:Shared}{Q:VK}{us:List Value}{vs:List V}(M:Mk X.K C f)(F:FnOk X.prog X.w X.K X.mg X.base CX k f fd ps sp)(hr:Room (k+1) X.A)(hb:Binds X.K fd ps ds)(hd:Vals dvs ds)
  (hx:zDX CX X E) (I:Inv X pins σ H s) (r:Vals vs us)
  (h:∀x dx,H x=none->H dx=none->dx≠x->sp (.ref x::(vs++dvs)) (upd (upd H dx (.own x)) x (.ins C dx [])) (fun v H2=>v=.non/\Q (.ref x) H2) E) :
  wpAny (model X.prog X.w) X.A (call (.ref C) us) (EP X pins σ Q) X.xe s:=by
 have hq:=h (s.heap.objs.size+1) s.heap.objs.size (I.hok.fresh (qC7 _)) (I.hok.fresh (qA6 _)) (qAn (qCq _));have I2:=Inv.made (C:=C) I;have r2:Vals (V.ref (s.heap.objs.size+1)::(vs++dvs)) (Value.ref (s.heap.objs.size+1)::(us++ds)):=.cons rfl (r.append hd);have hl:(Value.ref (s.heap.objs.size+1)::us++ds).length=ps.length:=by
  have e:=r2.length;rw[F.len _ _ _ _ hq]at e;exact e.symm
 refine wpAny_call (zN9 (f:=f) I.kIn M.makes M.init (beq_iff_eq.mp M.fn) (codeAny_mono (F.run _ X.stack _ _ ⟨Value.ref (s.heap.objs.size+1)::us,[]⟩ (Value.ref (s.heap.objs.size+1)::(us++ds)) _ _ E (hr.make C us [])
  (I2.env0.make C us []) (hb _ (Value.ref (s.heap.objs.size+1)::us) I2.kIn hl) r2 hq) fun r s' hq'=>?_))
 cases r with
 |error e=>exact hx pins σ _ _ e s' I2 hq'
 |ok fl=>
  cases fl with
  |ret u=>
   obtain⟨v,H',I3,rv,ev,q3⟩:=I2.after hq';subst ev;exact⟨rv,⟨V.ref (s.heap.objs.size+1),H',I3,rfl,q3⟩⟩
  |next=>exact qA4 hq'
  |brk=>exact qA4 hq'
  |cont=>exact qA4 hq'
theorem zPR(M:Mk X.K C f)(F:FnOk X.prog X.w X.K X.mg X.base CX k f fd ps sp)(hr:Room (k+1) X.A)(hg:Gl X x)(hm:X.mg x=some (.ref C))(hb:Binds X.K fd ps ds)(hd:Vals dvs ds)(hx:zDX CX X E)
  (ha:PA X (e::es) t) (hdb:(x==("__debug__":Str))=false:=by decide) (he:starEach (e::es) X.env=(false,eval e X.env)::starEach es X.env:=by rfl) (hpl:(backTo pos (starEach es X.env)).any (·.1)=false:=by rfl) :
  PE X (.Call (.Name x p) (e::es) [] pos) (zPA C sp dvs E t):=by
 intro pins s σ H Q I h;refine wpAny_Call_Name_kw (zCK I hg hm ?_ hdb);refine qBp (h₀:=X.base) I.ok.mod.kin M.kp (thn (ha pos pins s σ H _ I h) fun us s1 ⟨vs,H1,I1,r,q⟩=>⟨I1.kIn,?_⟩) he hpl;exact zMT M F hr hb hd hx I1 r q
end
section
variable{X:Cx}{CX:CXT}{k:Nat}{f C:Addr}{fd:FuncData}{ps ks:List Str}{sp:Sp}{E:XK}{x m:Str}{p pos apos kpos:Pos}{e o:Expr}{es:List Expr}{kws:List Keyword}{te ta:TE}{t tk:TA}{nm:Option Str}
variable{g:List Value->List Value->List Value}{gV:List V->List V->List V}
end
structure FnScope(N P:List Str)(sc:Scope):Prop where
 kind:sc.kind=.function
 co:sc.isCoroutine=false
 gen:sc.isGenerator=false
 nd:N.Nodup
 pre:N.take P.length=P
 par:∀x∈P,sc.names.lookup x=some .local\/sc.names.lookup x=some .cell
 nofree:∀y∈sc.names,y.2≠.free
theorem zI1{kindOf:Str->Option NameKind}{x:Str}:∀{binds:List (Str×Value)}{m:Str->Option Value},(∀v,(x,v)∉binds)->bindL kindOf binds m x=m x
 |[],_,_=>rfl
 |(n,v)::r,m,h=>by
  unfold bindL;rw[zI1 fun w hw=>h w (qAl _ hw)]
  split
  ·have:x≠n:=by rintro rfl;exact h v qB2
   simp[this]
  ·rfl
theorem zI3{kindOf:Str->Option NameKind}{x:Str}:∀{binds:List (Str×Value)}{m:Str->Option Value},(∀v,(x,v)∉binds)->bindC kindOf binds m x=m x
 |[],_,_=>rfl
 |(n,v)::r,m,h=>by
  unfold bindC;rw[zI3 fun w hw=>h w (qAl _ hw)]
  split
  ·rfl
  ·have:x≠n:=by rintro rfl;exact h v qB2
   simp[this]
theorem zI2{kindOf:Str->Option NameKind}{x:Str}{v:Value}:∀{P:List Str}{vs:List Value}{i:Nat}{m:Str->Option Value},P.Nodup->P[i]?=some x->vs[i]?=some v->kindOf x=some .local ->
  bindL kindOf (P.zip vs) m x=some v
 |[],_,_,_,_,h,_,_=>by simp at h
 |_::_,[],_,_,_,_,h,_=>by simp at h
 |p::P,w::vs,0,m,nd,h1,h2,hk=>by
  simp at h1 h2;subst h1;subst h2;show bindL kindOf ((p,w)::P.zip vs) m p=_;unfold bindL;rw[zI1 fun v hv=>(qCe.mp nd).1 (qD0 hv).1,if_pos hk];simp
 |p::P,w::vs,i+1,m,nd,h1,h2,hk=>by
  show bindL kindOf ((p,w)::P.zip vs) m x=_;unfold bindL;exact zI2 (i:=i) (qCe.mp nd).2 (by simpa using h1) (by simpa using h2) hk
theorem zI4{kindOf:Str->Option NameKind}{x:Str}{v:Value}:∀{P:List Str}{vs:List Value}{i:Nat}{m:Str->Option Value},P.Nodup->P[i]?=some x->vs[i]?=some v->kindOf x≠some .local ->
  bindC kindOf (P.zip vs) m x=some v
 |[],_,_,_,_,h,_,_=>by simp at h
 |_::_,[],_,_,_,_,h,_=>by simp at h
 |p::P,w::vs,0,m,nd,h1,h2,hk=>by
  simp at h1 h2;subst h1;subst h2;show bindC kindOf ((p,w)::P.zip vs) m p=_;unfold bindC;rw[zI3 fun v hv=>(qCe.mp nd).1 (qD0 hv).1,if_neg hk];simp
 |p::P,w::vs,i+1,m,nd,h1,h2,hk=>by
  show bindC kindOf ((p,w)::P.zip vs) m x=_;unfold bindC;exact zI4 (i:=i) (qCe.mp nd).2 (by simpa using h1) (by simpa using h2) hk
noncomputable def start(N:List Str)(vs:List V):St:=vs.map some++qA7 (N.length-vs.length) none
noncomputable def cxOf(CX:CXT)(P:Program)(w:World)(K:qA0)(mg:Str->Option Value)(base:Heap)(N:List Str)(qual:Str)(scope:Scope)(f:Addr)(cd:Value)(A:Around)(outer:List Env)(s:Shared)(H:Hp)(E:XK):Cx where
 prog:=P
 w:=w
 K:=K
 mg:=mg
 base:=base
 A:=A.deeper (envOfC qual scope s.heap.objs.size f cd)
 N:=N
 s₀:=s
 H₀:=H
 env:=envOfC qual scope s.heap.objs.size f cd
 outer:=outer
 stack:=envOfC qual scope s.heap.objs.size f cd::outer
 ex:=[]
 calm:=true
 fn:=fun _=>true
 pn:=[]
 xe:=fun e s'=>wpAny (model P w) (A.deeper (envOfC qual scope s.heap.objs.size f cd)) (leaving (envOfC qual scope s.heap.objs.size f cd) e) (fun _ s''=>CX outer H s E e s'') (fun e' s''=>CX outer H s E e' s'') s'
theorem zK2{sc:Scope}{n:Nat}{x:Str}(h:sc.names.lookup x=some .cell):∃c,(cellsFrom n sc.names []).lookup x=some c:=by
 have q:=qCg sc.names n [] (.inl h);exact qC9.mp q
theorem zLY{CX:CXT}{P:Program}{w:World}{K:qA0}{mg:Str->Option Value}{base:Heap}{N ps:List Str}{qual:Str}{scope:Scope}{f:Addr}{cd:Value}{A:Around}{outer:List Env}{s s1:Shared}{H:Hp}{E:XK}{us:List Value}{vs:List V}
  (S:FnScope N ps scope) (hd:A.handled=none) (e0:Env0 P w K mg base A outer s H) (hl:vs.length=ps.length) (r:Vals vs us)
  (x:InCallC s s.heap.objs.size (bindL (envOfC qual scope s.heap.objs.size f cd).kindOf (ps.zip us) fun _=>none) (cellsFrom (s.heap.objs.size+1) scope.names []) (bindC (envOfC qual scope s.heap.objs.size f cd).kindOf (ps.zip us) fun _=>none) s1) :
  Inv (cxOf CX P w K mg base N qual scope f cd A outer s H E) [] (start N vs) H s1:=by
 have hpl:ps.length<=N.length:=by have:=congrArg List.length S.pre;rw[qCr]at this;lia
 obtain⟨h1,tk,rfl,hk⟩:=x.done;have noA:∀b:Addr,b∉(cxOf CX P w K mg base N qual scope f cd A outer s H E).ex:=fun b z=>absurd (show b∈([]:List Addr) from z) (by simp)
 refine⟨⟨e0.mod,S.kind,rfl,rfl,qA6 _,fun y z c h1 h2=>?_,fun y hy=>?_,fun y c _ h=>?_,fun _=>hd,Around.frames_deeper e0.frames,.inr ⟨rfl,rfl⟩,fun b z=>absurd z (noA b),e0.bs,e0.bsz,fun b _ _=>noA b,fun b z=>absurd z (noA b),e0.funs,e0.frf⟩,
  rfl,e0.bare,Un.kept hk,⟨_,x.toInCall.ns,fun i y v h1 h2 h3=>?_⟩,fun y c h=>⟨_,x.cell y c h⟩,e0.hok.fresh (qA6 _),fun y c h=>?_,fun p hp=>absurd (show p∈([]:List (Addr×Obj)) from hp) (by simp),e0.hok.kept hk,?_⟩
 ·exact name_of_addr x.apart (qBx h1) (qBx h2)
 ·have hy:scope.names.lookup y=some .cell\/scope.names.lookup y=some .free:=hy
  rcases hy with hy|hy
  ·exact zK2 hy
  ·exact absurd rfl (S.nofree _ (qBx hy))
 ·exact qBu (x.above y c (qBx h))
 ·have hi:i<vs.length:=by
   unfold start at h2
   by_cases hi:i<vs.length
   ·exact hi
   ·rw[qA9 (by simpa using hi)]at h2;rw[qBn]at h2
    split at h2<;>cases h2
  have ha:vs[i]?=some v:=by
   unfold start at h2;rw[qAc (by simpa using hi),qAi]at h2;cases e:vs[i]? with
   |none=>rw[e]at h2;cases h2
   |some a=>rw[e]at h2;cases h2;rfl
  obtain⟨u,hu,rv⟩:=r.get ha;have hp:ps[i]?=some y:=by
   rw[<- S.pre,List.getElem?_take_of_lt (by lia)];exact h1
  have ndP:ps.Nodup:=by rw[<- S.pre];exact S.nd.sublist (List.take_sublist _ _)
  refine⟨u,rv,?_⟩
  rcases S.par y (qBb hp)with k|k
  ·exact .inl ⟨k,zI2 ndP hp hu k⟩
  ·obtain⟨c,e⟩:=zK2 (n:=s.heap.objs.size+1) k;refine .inr ⟨.inl k,c,e,?_⟩;have q:=x.cell y c e;rw[zI4 ndP hp hu (by show scope.names.lookup y≠_;rw[k];decide)]at q;exact q
 ·exact e0.hok.fresh (qBu (x.above y c (qBx h)))
 ·unfold start;show _=N.length;rw[qBq,qAx,qCk]
  lia
theorem zSR{CX:CXT}{P:Program}{w:World}{K:qA0}{mg:Str->Option Value}{base:Heap}{k:Nat}{f:Addr}{name qual:Str}{params:Arguments}{body:List Stmt}{scope:Scope}{dV kV doc pm cdv ct oc:Value}{an od:Option Addr}
  {osl:Array (Option Value)} {N ps:List Str} {sp:Sp} (lk:K.lookup f=some ⟨oc,od,.func (qAt name qual params body scope dV kV doc pm an cdv ct),osl⟩) (hcd:qAy K cdv qual=true) (S:FnScope N ps scope)
  (len:∀vs H Q E,sp vs H Q E->vs.length=ps.length)
  (hbody:∀(A:Around)(outer:List Env)(s:Shared)(H:Hp)(vs:List V)(Q:VK)(E:XK),Room k (A.deeper (envOfC qual scope s.heap.objs.size f cdv))->sp vs H Q E ->
   ∃t,PSs (cxOf CX P w K mg base N qual scope f cdv A outer s H E) body t/\t { nx:=fun _ H'=>Q .non H',rt:=Q } (start N vs) H) :
  FnOk P w K mg base CX (k+1) f (qAt name qual params body scope dV kV doc pm an cdv ct) ps sp:=by
 refine⟨len,fun A outer s H args us vs Q E hr e0 hb r hsp=>?_⟩;have hl:=len _ _ _ _ hsp;have KX:K.In s.heap:=e0.mod.kin.keeps fun b o e=>(e0.bs b o e).1
 have lim:s.heap.NoLimit:=e0.mod.nolimit.keeps fun b o e=>(e0.bs b o e).1
 have hkind:∀y∈ps.zip us,scope.names.lookup y.1=some .local\/(scope.names.lookup y.1=some .cell/\((cellsFrom (s.heap.objs.size+1) scope.names []).lookup y.1).isSome=true):=fun⟨n,v⟩ hy=>by
  rcases S.par n (qD0 hy).1 with q|q
  ·exact .inl q
  ·exact .inr ⟨q,qCg _ _ _ (.inl q)⟩
 refine codeAny_call_function hr.depth (KX _ _ lk) rfl S.co S.gen rfl (PySem.W.codeRec_of KX hcd) (hb _ _ _ _ ?_);refine wpAny_newFunctionEnv_cells S.kind hkind fun env he s1 x=>?_
 subst he;refine⟨lim.keeps x.toInCall.keep,codeAny_func ?_⟩;obtain⟨t,ht,hq⟩:=hbody A outer s H vs Q E (hr.deeper _) hsp;have I:Inv (cxOf CX P w K mg base N qual scope f cdv A outer s H E) [] (start N vs) H s1:=zLY S hr.hd e0 hl r x;refine wpAny_mono (ht [] s1 (start N vs) H _ I hq) (fun fl s' hs=>?_) fun e s' hs=>hs
 have fin:∀{σ':St}{H':Hp}{v:V}{u:Value},Inv (cxOf CX P w K mg base N qual scope f cdv A outer s H E) [] σ' H' s'->RelV v u->Q v H'->CE outer P w H s Q u s':=
  fun{σ' H' v u} J rv q=>⟨v,H',J.os,J.bare,J.base,J.hok,rv,q⟩
 cases fl with
 |ret u=>
  obtain⟨v,σ',H',J,rv,q⟩:=hs;exact fin J rv q
 |next=>
  obtain⟨σ',H',J,q⟩:=hs;exact fin (v:=V.non) (u:=Value.none) J rfl q
 |brk=>
  obtain⟨_,_,_,q⟩:=hs;exact qA4 q
 |cont=>
  obtain⟨_,_,_,q⟩:=hs;exact qA4 q
end L2
namespace L2
open PySem PySem.Spec PyProof.Rows
section
variable{X:Cx}{x:Str}{p pos:Pos}{e:Expr}{es:List Expr}{t:TA}{id T:String}{r:List V->Hp->VK->Prop}
noncomputable def tCB(r:List V->Hp->VK->Prop)(t:TA):TE:=fun σ H Q=>t σ H fun vs H1=>r vs H1 Q
theorem zAX(hc:zD5 X (.builtin id) r)(hg:Gl X x)(hm:X.mg x=none)(hv:bootBuiltins x=some (.builtin id))(ha:PA X (e::es) t)(hn:x ≠ "__name__":=by decide)(hdb:(x==("__debug__":Str))=false:=by decide)
  (he:starEach (e::es) X.env=(false,eval e X.env)::starEach es X.env:=by rfl) (hpl:(backTo pos (starEach es X.env)).any (·.1)=false:=by rfl):PE X (.Call (.Name x p) (e::es) [] pos) (tCB r t):=by
 intro pins s σ H Q I h;refine wpAny_Call_Name_kw (zFW I hg hm hv ?_ hn hdb);exact qCl (thn (ha pos pins s σ H _ I h) fun us s1 ⟨vs,H1,I1,r1,q1⟩=>hc pins s1 σ H1 vs us Q I1 r1 q1) he hpl
theorem zHJ(hc:zD5 X (.type T) r)(hg:Gl X x)(hm:X.mg x=none)(hv:bootBuiltins x=some (.type T))(ha:PA X (e::es) t)(hn:x ≠ "__name__":=by decide)(hdb:(x==("__debug__":Str))=false:=by decide)
  (he:starEach (e::es) X.env=(false,eval e X.env)::starEach es X.env:=by rfl) (hpl:(backTo pos (starEach es X.env)).any (·.1)=false:=by rfl):PE X (.Call (.Name x p) (e::es) [] pos) (tCB r t):=by
 intro pins s σ H Q I h;refine wpAny_Call_Name_kw (zFW I hg hm hv ?_ hn hdb);exact qC1 (thn (ha pos pins s σ H _ I h) fun us s1 ⟨vs,H1,I1,r1,q1⟩=>hc pins s1 σ H1 vs us Q I1 r1 q1) he hpl
end
end L2
namespace HT
open PySem PyProof.Rows
section
open PySem.SeqAt
open PySem.AutoSeq1 (wpAny_loadPart')
open PySem.MeetsSeq PySem.MeetsSeq2 PySem.MeetsSeq3
end
section
variable{prog:Program}{w:World}{A:Around}{E:Value->Shared->Prop}{s:Shared}
noncomputable def sIx(n d:Nat):Option Int->Nat
 |none=>d
 |some v=>if v<0 then(v+(n:Int)).toNat else min v.toNat n
end
end HT
namespace L2
open PySem PySem.Spec PyProof.Rows
abbrev TO:=St->Hp->(Option Int->Hp->Prop)->Prop
def PO(X:Cx)(e:Option Expr)(t:TO):Prop:=
 ∀(pins:List (Addr×Obj))(s:Shared)(σ:St)(H:Hp)(Q:Option Int->Hp->Prop),Inv X pins σ H s->t σ H Q ->
  wpAny (model X.prog X.w) X.A (evalPart e X.env) (fun u s'=>∃o H',Inv X pins σ H' s'/\IsPart u o/\Q o H') X.xe s
noncomputable def zKT:TO:=fun _ H Q=>Q none H
noncomputable def zR5(t:TE):TO:=fun σ H Q=>t σ H fun x H1=>∃i,x=.int i/\Q (some i) H1
section
variable{X:Cx}{e:Expr}{te:TE}{lo hi:Option Expr}{tl th:TO}{pos p2:Pos}
theorem zIH:PO X none zKT:=by
 intro pins s σ H Q I h;rw[evalPart_none];exact wpAny_pure ⟨none,H,I,.none,h⟩
theorem zIG(h:PE X e te):PO X (some e) (zR5 te):=by
 intro pins s σ H Q I hw;rw[evalPart_some];refine thn (h pins s σ H _ I hw) fun u s1 z0=>?_
 obtain⟨x,H1,I1,r1,q1⟩:=z0;obtain⟨i,rfl,q⟩:=q1;obtain⟨t,rfl⟩:=r1;exact⟨some i,H1,I1,.int i t,q⟩
def SlR(X:Cx)(r:V->Option Int->Option Int->Hp->VK->Prop):Prop:=
 ∀(pins:List (Addr×Obj))(s:Shared)(σ:St)(H:Hp)(x:V)(v vl vu:Value)(lo hi:Option Int)(sl:Addr)(Q:VK),Inv X pins σ H s->RelV x v->s.heap.IsSliceOf sl vl vu .none->IsPart vl lo->IsPart vu hi->r x lo hi H Q ->
  ∃T id,typeLookup (.type T) "__getitem__" = pure (some (.builtin id))/\s.TypeIs v T/\wpAny (model X.prog X.w) X.A (getItem v (.ref sl)) (EP X pins σ Q) X.xe s
noncomputable def tSl(r:V->Option Int->Option Int->Hp->VK->Prop)(te:TE)(tl th:TO):TE:=fun σ H Q=>te σ H fun x H1=>tl σ H1 fun l H2=>th σ H2 fun u H3=>r x l u H3 Q
theorem zGI{r:V->Option Int->Option Int->Hp->VK->Prop}(hr:SlR X r)(he:PE X e te)(hl:PO X lo tl)(hu:PO X hi th):PE X (.Subscript e (.Slice lo hi none p2) pos) (tSl r te tl th):=by
 intro pins s σ H Q I h;refine Subscript_ (thn (he pins s σ H _ I h) fun v s1 z0=>?_);obtain⟨x,H1,I1,r1,q1⟩:=z0;refine wpAny_Slice (thn (hl pins s1 σ H1 _ I1 q1) fun vl s2 ⟨l,H2,I2,pl,q2⟩=>thn (hu pins s2 σ H2 _ I2 q2) fun vu s3 ⟨u,H3,I3,pu,q3⟩=>?_);rw[evalPart_none];refine wpAny_pure ?_;have I4:Inv X pins σ H3 { s3 with heap:=s3.heap.push { cls:=.type "slice",data:=.fields #[vl,vu,.none] } }:=I3.kept (t':=s3.toks) fun b ob q=>Heap.get?_push_of_some _ q
 obtain⟨T,id,hT,ht,hg⟩:=hr pins { s3 with heap:=s3.heap.push { cls:=.type "slice",data:=.fields #[vl,vu,.none] } } σ H3 x v vl vu l u s3.heap.objs.size Q I4 r1 (Heap.IsSliceOf.new ..) pl pu q3;show wpAny (model X.prog X.w) X.A (subscriptTail e (.Slice lo hi none p2) v (.ref s3.heap.objs.size)) (EP X pins σ Q) X.xe { s3 with heap:=s3.heap.push { cls:=.type "slice",data:=.fields #[vl,vu,.none] } };exact tail_any (ops:=[.ref s3.heap.objs.size,v]) ht hT hg (by with_unfolding_all rfl)
def cutV(xs:List V)(lo hi:Option Int):List V:=(xs.drop (HT.sIx xs.length 0 lo)).take (HT.sIx xs.length xs.length hi-HT.sIx xs.length 0 lo)
theorem zIP(xs:List V)(lo hi:Option Int):(cutV xs lo hi).length<=xs.length:=by
 unfold cutV;rw[qCr,qEo]
 lia
end
end L2
namespace L2
open PySem PySem.Spec PyProof.Rows
noncomputable def ixN(n:Nat)(i:Int):Option Nat:=if 0<=i then(if i<n then some i.toNat else none)else if -(n:Int)<=i then some (i+n).toNat else none
def atI{α:Type}(xs:List α)(i:Int):Option α:=(ixN xs.length i).bind fun j=>xs[j]?
theorem zLV{n:Nat}{i:Int}{j:Nat}(h:ixN n i=some j):seqIndex? i n=some j/\j<n/\-(n:Int)<=i/\i<n:=by
 unfold ixN at h
 by_cases h0:0<=i
 ·rw[if_pos h0]at h
  by_cases h1:i<n
  ·rw[if_pos h1]at h;have e:i.toNat=j:=qB5 h;exact⟨by rw[seqIndex_of h0 h1,e],by lia,by lia,h1⟩
  ·rw[if_neg h1]at h;cases h
 ·rw[if_neg h0]at h
  by_cases h1:-(n:Int)<=i
  ·rw[if_pos h1]at h;have e:(i+n).toNat=j:=qB5 h;exact⟨by rw[seqIndex_neg (by lia) h1,e],by lia,h1,by lia⟩
  ·rw[if_neg h1]at h;cases h
theorem zIU{α:Type}{xs:List α}{i:Int}{v:α}(h:atI xs i=some v):∃j,seqIndex? i xs.length=some j/\xs[j]?=some v/\j<xs.length/\-(xs.length:Int)<=i/\i<xs.length:=by
 unfold atI at h;cases e:ixN xs.length i with
 |none=>rw[e]at h;cases h
 |some j=>
  rw[e]at h;obtain⟨h1,h2,h3,h4⟩:=zLV e;exact⟨j,h1,h,h2,h3,h4⟩
def zQL(b:Expr):Prop:=∀o i,subscripted b false o i=operate [o,i] (getItem o i)
def IxR(X:Cx)(r:R2):Prop:=
 ∀(value slice:Expr)(pins:List (Addr×Obj))(s:Shared)(σ:St)(H:Hp)(x y:V)(v u:Value)(Q:VK),Inv X pins σ H s->RelV x v->RelV y u->r x y H Q ->
  subscripted slice false v u=operate [v,u] (getItem v u)->wpAny (model X.prog X.w) X.A (subscriptTail value slice v u) (EP X pins σ Q) X.xe s
def MtR(X:Cx)(id:String)(r:V->List V->Hp->VK->Prop):Prop:=
 ∀(pins:List (Addr×Obj))(s:Shared)(σ:St)(H:Hp)(x:V)(xs:List V)(v:Value)(us:List Value)(Q:VK),Inv X pins σ H s->RelV x v->Vals xs us->r x xs H Q ->
  wpAny (model X.prog X.w) X.A (call (.builtin id) (v::us)) (EP X pins σ Q) X.xe s
section
variable{X:Cx}{a b:Expr}{ta tb:TE}{pos:Pos}
theorem zCG{r:R2}(hr:IxR X r)(ha:PE X a ta)(hb:PE X b tb)(hs:zQL b):PE X (.Subscript a b pos) (tOp r ta tb):=by
 intro pins s σ H Q I h;exact Subscript_ (binT ha hb I h fun v u s2 x y H2 I2 rx ry q=>hr a b pins s2 σ H2 x y v u Q I2 rx ry q (hs _ _))
def rIxL(K:qA0):R2:=fun x y H Q=>∃p xs i v,x=.ref p/\y=.int i/\SqL K H p xs/\atI xs i=some v/\Q v H
def rIxT(K:qA0):R2:=fun x y H Q=>∃p xs i v,x=.ref p/\y=.int i/\SqT K H p xs/\atI xs i=some v/\Q v H
def rIxS:R2:=fun x y H Q=>∃z i c,x=.str z/\y=.int i/\z.length<=sizeLine/\atI z.cps.toList i=some c/\Q (.str ⟨#[c]⟩) H
theorem zQ2:IxR X (rIxL X.K):=by
 intro value slice pins s σ H x y v u Q I rx ry h hs;obtain⟨p,xs,i,z,rfl,rfl,hq,he,q⟩:=h;cases rx;obtain⟨t,rfl⟩:=ry;obtain⟨its,r,pl,hz⟩:=I.list hq;obtain⟨j,h1,h2,h3,h4,h5⟩:=zIU he;obtain⟨w,ew,rw'⟩:=r.get h2;have hl:=r.length;have hn:=zEZ;have fin:EP X pins σ Q w s:=⟨z,H,I,rw',q⟩
 by_cases h0:0<=i
 ·have hj:i.toNat=j:=by
   rw[seqIndex_of h0 h5]at h1;exact qB5 h1
  exact item_listR pl.isList h0 (by lia) (by rw[hj];simpa using ew) fin hs
 ·have hj:(i+(its.toArray.size:Int)).toNat=j:=by
   rw[seqIndex_neg (by lia) h4]at h1;rw[qAh,<- hl];exact qB5 h1
  exact subscriptTail_builtinR (x:=w) pl.isList.typeIs slot_list_getitem.lookup
   (wpAny_getItem_list_neg (Q:=fun r s'=>r=w/\EP X pins σ Q r s') pl.isList (by lia) (by rw[qAh]<;>lia) (by lia) (by rw[hj];simpa using ew) ⟨rfl,fin⟩) hs
theorem zSH:IxR X (rIxT X.K):=by
 intro value slice pins s σ H x y v u Q I rx ry h hs;obtain⟨p,xs,i,z,rfl,rfl,hq,he,q⟩:=h;cases rx;obtain⟨t,rfl⟩:=ry;obtain⟨its,r,pl,hz⟩:=I.tuple hq;obtain⟨j,h1,h2,h3,h4,h5⟩:=zIU he;obtain⟨w,ew,rw'⟩:=r.get h2;have hl:=r.length;have hn:=zEZ;have fin:EP X pins σ Q w s:=⟨z,H,I,rw',q⟩
 exact subscriptTail_builtinR (x:=w) pl.typeIs slot_tuple_getitem.lookup
  (getItem_tuple (j:=j) (Q:=fun r s'=>r=w/\EP X pins σ Q r s') pl (by lia) (by lia) (by rw[qAh,<- hl];exact h1) (by simpa using ew) ⟨rfl,fin⟩) hs
theorem zSJ:IxR X rIxS:=by
 intro value slice pins s σ H x y v u Q I rx ry h hs;obtain⟨z,i,c,rfl,rfl,hz,he,q⟩:=h;obtain⟨t,rfl⟩:=rx;obtain⟨t',rfl⟩:=ry;obtain⟨j,h1,h2,h3,h4,h5⟩:=zIU he;have hl:z.cps.toList.length=z.length:=by simp[Str.length]
 rw[hl]at h1 h4 h5;have hn:=zEZ;exact tail_any (typeIs_str s z t) slot_str_getitem.lookup (getItem_str (c:=c) (by
  have e1:decide (i < -(2 ^ 63:Int))=false:=decide_eq_false (by lia);have e2:decide (i>=2 ^ 63)=false:=decide_eq_false (by lia);rw[e1,e2,Bool.or_false]) (by rw[h1];simpa using h2) ⟨.str ⟨#[c]⟩,H,I.tok _,⟨_,rfl⟩,q⟩) hs
theorem zKC(its:List Value)(n j:Nat)(u:Value):Obj.mapSeq (·.setIfInBounds j u) { cls:=.type "list",data:=.seq its.toArray n }={ cls:=.type "list",data:=.seq (its.set j u).toArray n }:=by
 simp[Obj.mapSeq]
theorem Inv.lst{pins:List (Addr×Obj)}{σ:St}{H:Hp}{s:Shared}{p:Addr}{xs:List V}(I:Inv X pins σ H s)(h:H p=some (.lst xs)) :
  ∃(its:List Value)(n:Nat),Vals xs its/\s.heap.get? p=some { cls:=.type "list",data:=.seq its.toArray n }/\xs.length<=sizeLine:=by
 obtain⟨z,its,n,r,e⟩:=I.hok p _ h;exact⟨its,n,r,e,z⟩
theorem Inv.lstUpd{pins:List (Addr×Obj)}{σ:St}{H:Hp}{s:Shared}{p:Addr}{xs ys:List V}{its its':List Value}{n n':Nat}{f:Obj->Obj}(I:Inv X pins σ H s)(h:H p=some (.lst xs))
  (ho:s.heap.get? p=some { cls:=.type "list",data:=.seq its.toArray n }) (hf:f { cls:=.type "list",data:=.seq its.toArray n }={ cls:=.type "list",data:=.seq its'.toArray n' }) (r:Vals ys its') (hz:ys.length<=sizeLine) (t:Nat) :
  Inv X pins σ (upd H p (.lst ys)) { s with heap:=s.heap.update p f,toks:=t }:=by
 have e:(s.heap.update p f).get? p=some { cls:=.type "list",data:=.seq its'.toArray n' }:=by
  rw[Heap.get?_update_self f ho (by rw[hf]<;>rfl),hf]
 refine I.write (x:=p) (e:=p) (by rw[h];trivial) (.inl rfl) (fun b u hb q=>(Heap.get?_update_other _ _ (qCc hb)).trans q) ⟨_,e⟩ ?_;exact⟨hz,its',n',r,e⟩
def zTS:V->V->V->Hp->(Hp->Prop)->Prop:=fun o i v H Q=>∃p xs k j,o=.ref p/\i=.int k/\H p=some (.lst xs)/\ixN xs.length k=some j/\Q (upd H p (.lst (xs.set j v)))
theorem zMS:PSet X zTS:=by
 intro pins s σ H o i v ov iv u Q I ro ri rv h;obtain⟨p,xs,k,j,rfl,rfl,hp,hj,q⟩:=h;cases ro;obtain⟨t,rfl⟩:=ri;obtain⟨its,n,r,ho,hz⟩:=I.lst hp;obtain⟨h1,h2,h3,h4⟩:=zLV hj;have hl:=r.length;have hn:=zEZ;have I':Inv X pins σ (upd H p (.lst (xs.set j v))) { s with heap:=s.heap.update p (Obj.mapSeq (·.setIfInBounds j u)) }:=
  I.lstUpd hp ho (zKC its n j u) (r.set rv j) (by rw[qEt];exact hz) s.toks
 by_cases h0:0<=k
 ·have hk:k.toNat=j:=by
   rw[seqIndex_of h0 h4]at h1;exact qB5 h1
  exact PySem.W.ki_setAt ho h0 (by lia) (by rw[qAh,<- hl];exact h4) (by rw[hk];exact⟨_,I',q⟩)
 ·have hk:(k+(its.toArray.size:Int)).toNat=j:=by
   rw[seqIndex_neg (by lia) h3]at h1;rw[qAh,<- hl];exact qB5 h1
  exact PySem.W.ki_setBack ho (by lia) (by rw[qAh,<- hl];exact h3) (by lia) (by rw[hk];exact⟨_,I',q⟩)
theorem zHC(lo hi:Option Int)(n:Nat):(sliceBounds lo hi none n).1=((HT.sIx n 0 lo:Nat):Int)/\(sliceBounds lo hi none n).2.1=((HT.sIx n n hi:Nat):Int)/\(sliceBounds lo hi none n).2.2=1:=by
 refine⟨?_,?_,rfl⟩
 ·cases lo with
  |none=>simp[sliceBounds,HT.sIx]
  |some i=>
   simp only[sliceBounds,HT.sIx,qEp,show(1:Int)>0 by decide,if_true]
   by_cases h:i<0
   ·simp only[h,if_true]<;>lia
   ·simp only[h,if_false]<;>lia
 ·cases hi with
  |none=>simp[sliceBounds,HT.sIx]
  |some i=>
   simp only[sliceBounds,HT.sIx,qEp,show(1:Int)>0 by decide,if_true]
   by_cases h:i<0
   ·simp only[h,if_true]<;>lia
   ·simp only[h,if_false]<;>lia
theorem zGA(its:List Value)(lo hi:Option Int):slicePick its.toArray lo hi none=((its.drop (HT.sIx its.length 0 lo)).take (HT.sIx its.length its.length hi-HT.sIx its.length 0 lo)).toArray:=by
 obtain⟨h1,h2,h3⟩:=zHC lo hi its.toArray.size;unfold slicePick;rw[h1,h2,h3];simp only[sliceRange_one,pick_run,qAh]<;>rfl
def rSlL(K:qA0):V->Option Int->Option Int->Hp->VK->Prop:=fun x lo hi H Q=>∃a xs,x=.ref a/\SqL K H a xs/\∀p,H p=none->Q (.ref p) (upd H p (.lst (cutV xs lo hi)))
theorem zPC:SlR X (rSlL X.K):=by
 intro pins s σ H x v vl vu lo hi sl Q I rx hs pl pu h;obtain⟨a,xs,rfl,hx,q⟩:=h;cases rx;obtain⟨its,r,ht,hz⟩:=I.list hx;have hlen:=r.length;refine⟨"list",_,slot_list_getitem.lookup,ht.isList.typeIs,?_⟩;refine wpAny_getItem_list_slice ht.isList hs pl pu .none (by simp) ?_ (by rw[qAh]<;>lia);rw[zGA,<- hlen];refine⟨.ref s.heap.objs.size,_,I.laid (t':=s.toks) (o:=.lst (cutV xs lo hi)) (fun b ob q=>Heap.get?_push_of_some _ q) (qA6 _) ?_,rfl,q _ (I.hok.fresh (qA6 _))⟩;exact⟨qAm (zIP xs lo hi) hz,_,0,(r.drop (HT.sIx xs.length 0 lo)).take (HT.sIx xs.length xs.length hi-HT.sIx xs.length 0 lo),Heap.get?_push_size _ rfl⟩
noncomputable def zDL:V->Bool
 |.non=>true
 |.bl _=>true
 |.int _=>true
 |.str _=>true
 |_=>false
noncomputable def eqV:V->V->Bool
 |.non,.non=>true
 |.bl a,.bl b=>a==b
 |.bl a,.int b=>(if a then 1 else 0)==b
 |.int a,.bl b=>a==(if b then 1 else 0)
 |.int a,.int b=>a==b
 |.str a,.str b=>a==b
 |_,_=>false
theorem zOT{A:Around}{s:Shared}{y x:V}{u v:Value}(ry:RelV y u)(rx:RelV x v)(fy:zDL y=true)(fx:zDL x=true):SeqAt.EqAt A s u v (eqV y x):=by
 cases y with
 |non=>
  cases ry;cases x with
  |non=>cases rx;exact SeqAt.EqAt.same _
  |bl b=>cases rx;exact SeqAt.EqAt.none_bool b
  |int b=>obtain⟨t,rfl⟩:=rx;exact SeqAt.EqAt.none_int b t
  |str b=>obtain⟨t,rfl⟩:=rx;exact SeqAt.EqAt.none_str b t
  |_=>exact absurd (show false=true from fx) qAb
 |bl a=>
  cases ry;cases x with
  |non=>cases rx;exact SeqAt.EqAt.bool_none a
  |bl b=>cases rx;exact SeqAt.EqAt.bool_bool a b
  |int b=>obtain⟨t,rfl⟩:=rx;exact SeqAt.EqAt.bool_int a b t
  |str b=>obtain⟨t,rfl⟩:=rx;exact SeqAt.EqAt.bool_str a b t
  |_=>exact absurd (show false=true from fx) qAb
 |int a=>
  obtain⟨t',rfl⟩:=ry;cases x with
  |non=>cases rx;exact SeqAt.EqAt.int_none a t'
  |bl b=>cases rx;exact SeqAt.EqAt.int_bool a t' b
  |int b=>obtain⟨t,rfl⟩:=rx;exact SeqAt.EqAt.int_int a t' b t
  |str b=>obtain⟨t,rfl⟩:=rx;exact SeqAt.EqAt.int_str a t' b t
  |_=>exact absurd (show false=true from fx) qAb
 |str a=>
  obtain⟨t',rfl⟩:=ry;cases x with
  |non=>cases rx;exact SeqAt.EqAt.str_none a t'
  |bl b=>cases rx;exact SeqAt.EqAt.str_bool a t' b
  |int b=>obtain⟨t,rfl⟩:=rx;exact SeqAt.EqAt.str_int a t' b t
  |str b=>obtain⟨t,rfl⟩:=rx;exact SeqAt.EqAt.str_str a t' b t
  |_=>exact absurd (show false=true from fx) qAb
 |_=>exact absurd (show false=true from fy) qAb
def eqU(x:V)(u:Value):Bool:=match u with
 |.none=>eqV .non x
 |.bool b=>eqV (.bl b) x
 |.int i _=>eqV (.int i) x
 |.str z _=>eqV (.str z) x
 |_=>false
theorem zOS{x y:V}{u:Value}(r:RelV y u)(f:zDL y=true):eqU x u=eqV y x:=by
 cases y with
 |non=>cases r;rfl
 |bl b=>cases r;rfl
 |int i=>obtain⟨t,rfl⟩:=r;rfl
 |str z=>obtain⟨t,rfl⟩:=r;rfl
 |_=>exact absurd (show false=true from f) qAb
theorem zIW{x:V}:∀{xs:List V}{us:List Value},Vals xs us->xs.all zDL=true->us.any (eqU x)=xs.any fun y=>eqV y x
 |_,_,.nil,_=>rfl
 |y::xs,u::us,.cons r t,f=>by
  rw[qDb,qBd]at f;rw[qDc,qDc,zOS r f.1,zIW t f.2]
theorem zGO{A:Around}{s:Shared}{x:V}{v:Value}(rx:RelV x v)(fx:zDL x=true):∀{xs:List V}{us:List Value},Vals xs us->xs.all zDL=true->∀u∈us,SeqAt.EqAt A s u v (eqU x u)
 |_,_,.nil,_=>fun u hu=>by cases hu
 |y::xs,u::us,.cons r t,f=>fun u' hu=>by
  rw[qDb,qBd]at f
  rcases qAa.mp hu with rfl|hu
  ·rw[zOS r f.1];exact zOT r rx f.1 fx
  ·exact zGO rx fx t f.2 u' hu
def inV(x:V)(xs:List V):Bool:=xs.any fun y=>eqV y x
def rIn(K:qA0)(neg:Bool):R2:=fun x y H Q=>∃p xs,y=.ref p/\(SqL K H p xs\/SqT K H p xs)/\zDL x=true/\xs.all zDL=true/\Q (.bl (if neg then !inV x xs else inV x xs)) H
theorem zHL:OpR X (compareOp .NotIn) (rIn X.K true):=by
 intro pins s σ H x y v u Q I rx ry h;obtain⟨p,xs,rfl,hq,fx,fs,q⟩:=h;cases ry
 rcases hq with hq|hq
 ·obtain⟨its,r,pl,hz⟩:=I.list hq;refine SeqAt.notIn_listAt (eqU x) pl.isList (fun w hw=>zGO rx fx r fs w (by simpa using hw)) ⟨.bl _,H,I,rfl,?_⟩;rw[show its.toArray.any (eqU x)=its.any (eqU x) by simp,zIW r fs];exact q
 ·obtain⟨its,r,pl,hz⟩:=I.tuple hq;refine SeqAt.notIn_tupleAt (eqU x) pl (fun w hw=>zGO rx fx r fs w (by simpa using hw)) ⟨.bl _,H,I,rfl,?_⟩;rw[show its.toArray.any (eqU x)=its.any (eqU x) by simp,zIW r fs];exact q
theorem zHK:OpR X (compareOp .NotIn) (fun x y H Q=>∃i j,x=.str i/\y=.str j/\Q (.bl (!(!(Builtin.Str.occurrences j i 0 j.length 1).isEmpty))) H):=by
 intro pins s σ H x y v u Q I rx ry h;obtain⟨i,j,rfl,rfl,q⟩:=h;obtain⟨t,rfl⟩:=rx;obtain⟨t',rfl⟩:=ry;exact notIn_str ⟨.bl _,H,I,rfl,q⟩
theorem zI0:zD5 X (.builtin "len") (fun xs H Q=>∃p ys,xs=[.ref p]/\(SqL X.K H p ys\/SqT X.K H p ys)/\Q (.int ys.length) H):=by
 intro pins s σ H xs us Q I r h;obtain⟨p,ys,rfl,hq,q⟩:=h;obtain⟨u,rfl,rx⟩:=zK3 r;cases rx;have hn:=zEZ
 rcases hq with hq|hq
 ·obtain⟨its,r',pl,hz⟩:=I.list hq;have hlen:=r'.length;exact Calls.call_len_list pl.isList (by simp only[qAh]<;>lia) ⟨.int ys.length,H,I.tok _,⟨s.toks+1,by rw[qAh,hlen]⟩,q⟩
 ·obtain⟨its,r',pl,hz⟩:=I.tuple hq;have hlen:=r'.length;exact len_tuple pl (by simp only[qAh]<;>lia) ⟨.int ys.length,H,I.tok _,⟨s.toks+1,by rw[qAh,hlen]⟩,q⟩
theorem zHZ:zD5 X (.builtin "len") (fun xs H Q=>∃z,xs=[.str z]/\z.length<=sizeLine/\Q (.int z.length) H):=by
 intro pins s σ H xs us Q I r h;obtain⟨z,rfl,hz,q⟩:=h;obtain⟨u,rfl,t,rfl⟩:=zK3 r;have hn:=zEZ;exact len_str (by lia) ⟨.int z.length,H,I.tok _,⟨_,rfl⟩,q⟩
theorem zHY:zD5 X (.type "list") (fun xs H Q=>∃p ys,xs=[.ref p]/\(SqL X.K H p ys\/SqT X.K H p ys)/\∀l,H l=none->Q (.ref l) (upd H l (.lst ys))):=by
 intro pins s σ H xs us Q I r h;obtain⟨p,ys,rfl,hq,q⟩:=h;obtain⟨u,rfl,rx⟩:=zK3 r;cases rx;have fin:∀(its:List Value),Vals ys its->ys.length<=sizeLine->∀(h':Heap)(c':Nat),(∀b o',s.heap.get? b=some o'->h'.get? b=some o') ->
   h'.get? s.heap.objs.size=some { cls:=.type "list",dict:=none,data:=.seq its.toArray c',slots:=#[] }->EP X pins σ Q (.ref s.heap.objs.size) { s with heap:=h' }:=fun its r' hz h' c' kp e=>
  ⟨.ref s.heap.objs.size,_,I.laid (t':=s.toks) kp (qA6 _) (show ObjOk X.prog X.w _ h' _ (.lst ys) from⟨hz,its,c',r',e⟩),rfl,q _ (I.hok.fresh (qA6 _))⟩
 rcases hq with hq|hq
 ·obtain⟨its,r',pl,hz⟩:=I.list hq;have hlen:=r'.length;obtain⟨o,ho,hc,n,hd⟩:=pl.isList;exact call_list_seq p (.inl rfl) ho hc hd (fun h' c' kp e=>fin its r' hz h' c' kp e) (by simp only[qAh]<;>lia)
 ·obtain⟨its,r',pl,hz⟩:=I.tuple hq;have hlen:=r'.length;obtain⟨o,ho,hc,n,hd⟩:=pl;exact call_list_seq p (.inr rfl) ho hc hd (fun h' c' kp e=>fin its r' hz h' c' kp e) (by simp only[qAh]<;>lia)
def tyV(K:qA0)(T:String)(x:V)(H:Hp):Prop:=match x with
 |.str _=>T = "str"
 |.int _=>T = "int"
 |.ref p=>(T = "list" /\ ∃xs,SqL K H p xs)\/(T = "tuple" /\ ∃o,K.lookup p=some o/\o.cls=.type "tuple" /\ o.dict=none) \/
   (T = "dict" /\ ((∃kvs,H p=some (.dK kvs))\/∃kvs,H p=some (.dT kvs)))\/(T = "set" /\ ∃S n,H p=some (.set S n))
 |_=>False
theorem zKR{pins:List (Addr×Obj)}{σ:St}{H:Hp}{s:Shared}{T:String}{x:V}{v:Value}(I:Inv X pins σ H s)(r:RelV x v)(ty:tyV X.K T x H) :
  s.TypeIs v T/\∀a,v=.ref a->∃ob,s.heap.get? a=some ob/\ob.dict=none:=by
 cases x with
 |str z=>
  obtain⟨t,rfl⟩:=r
  cases(show T = "str" from ty)
  exact⟨typeIs_str s z t,fun _ e=>nomatch e⟩
 |int i=>
  obtain⟨t,rfl⟩:=r
  cases(show T = "int" from ty)
  exact⟨typeIs_int s i t,fun _ e=>nomatch e⟩
 |ref p=>
  cases r
  rcases ty with⟨rfl,xs,hq⟩|⟨rfl,o,hk,hc,hd⟩|⟨rfl,hk⟩|⟨rfl,S,n,hk⟩
  ·obtain⟨its,_,pl,_⟩:=I.list hq;refine⟨pl.isList.typeIs,fun a e=>?_⟩;cases e;obtain⟨o,n,e,c,hd,_⟩:=pl;exact⟨o,e,hd⟩
  ·refine⟨⟨o,I.kIn p o hk,hc⟩,fun a e=>?_⟩;cases e;exact⟨o,I.kIn _ o hk,hd⟩
  ·have z:∃o,s.heap.get? p=some o/\o.ExactDict:=by
    rcases hk with⟨kvs,hk⟩|⟨kvs,hk⟩
    ·obtain⟨_,_,_,_,o,_,_,e,ex,_⟩:=I.hok p _ hk;exact⟨o,e,ex⟩
    ·obtain⟨_,_,_,_,o,_,_,e,ex,_⟩:=I.hok p _ hk;exact⟨o,e,ex⟩
   obtain⟨o,e,ex⟩:=z;refine⟨⟨o,e,ex.1⟩,fun a e2=>?_⟩;cases e2;exact⟨o,e,ex.2.1⟩
  ·obtain⟨o,_,_,_,e,ex,_⟩:=I.hok p _ hk;refine⟨⟨o,e,ex.1⟩,fun a e2=>?_⟩;cases e2;exact⟨o,e,ex.2.1⟩
 |_=>exact qA4 ty
noncomputable def tBM0(K:qA0)(T:String)(r:V->List V->Hp->VK->Prop)(to:TE):TE:=fun σ H Q=>to σ H fun x H1=>tyV K T x H1/\r x [] H1 Q
noncomputable def tBM(K:qA0)(T:String)(r:V->List V->Hp->VK->Prop)(to:TE)(t:TA):TE:=fun σ H Q=>to σ H fun x H1=>tyV K T x H1/\t σ H1 fun xs H2=>r x xs H2 Q
variable{o e:Expr}{es:List Expr}{to:TE}{t:TA}{name:Str}{apos cpos:Pos}{T id:String}{r:V->List V->Hp->VK->Prop}
theorem zRX(pa:PlainAttrs T)(slot:Slot T name id)(hty:typeOf (.builtin id)=pure (.type "method_descriptor"))(hm:MtR X id r)(ho:PE X o to)
  (hbase:attributeBase o name X.env (eval o X.env)=eval o X.env:=by rfl) (hline:(apos.endLine==cpos.line)=true:=by rfl):PE X (.Call (.Attribute o name apos) [] [] cpos) (tBM0 X.K T r to):=by
 intro pins s σ H Q I h;refine wpAny_Call_method0_late hbase hline (thn (ho pins s σ H _ I h) fun v s1 z0=>?_);obtain⟨x,H1,I1,r1,ty,q1⟩:=z0;obtain⟨h1,h2⟩:=zKR I1 r1 ty;exact⟨T,id,pa,slot,hty,h1,h2,Calls.callWith_builtin rfl (PySem.evalArgs_none (hm pins s1 σ H1 x [] v [] Q I1 r1 .nil q1))⟩
theorem zRY(pa:PlainAttrs T)(slot:Slot T name id)(hty:typeOf (.builtin id)=pure (.type "method_descriptor"))(hm:MtR X id r)(ho:PE X o to)(ha:PA X (e::es) t)
  (hbase:attributeBase o name X.env (eval o X.env)=eval o X.env:=by rfl)
  (hfew:((backTo cpos (starEach (e::es) X.env)).all (fun x=>!x.1)&&(backToKw cpos (keywordEach [] X.env)).all (fun x=>x.1.isSome)
   && decide ((e::es).length+([]:List Keyword).length+(if([]:List Keyword).isEmpty then 0 else 1)<30))=true:=by rfl)
  (hline:(apos.endLine==cpos.line)=true:=by rfl) (hs:starEach (e::es) X.env=(false,eval e X.env)::starEach es X.env:=by rfl) (hplain:(backTo cpos (starEach es X.env)).any (·.1)=false:=by rfl) :
  PE X (.Call (.Attribute o name apos) (e::es) [] cpos) (tBM X.K T r to t):=by
 intro pins s σ H Q I h;refine wpAny_Call_method_late hbase hfew hline rfl (thn (ho pins s σ H _ I h) fun v s1 z0=>?_);obtain⟨x,H1,I1,r1,ty,q1⟩:=z0;obtain⟨h1,h2⟩:=zKR I1 r1 ty;refine⟨T,id,pa,slot,hty,h1,h2,?_⟩;have hA:=ha cpos pins s1 σ H1 _ I1 q1;rw[hs]at hA ⊢;refine Calls.callWith_builtin (by show(false||(backTo cpos (starEach es X.env)).any (·.1))=false;rw[hplain]<;>rfl) (Calls.evalArgs_plain ?_);exact thn hA fun us s2 ⟨vs,H2,I2,r2,q2⟩=>hm pins s2 σ H2 x vs v us Q I2 r1 r2 q2
end
end L2
namespace L2
open PySem PySem.Spec PyProof.Rows
def MtM(X:Cx)(id:String)(r:V->List V->Hp->VK->Prop):Prop:=
 ∀(pins:List (Addr×Obj))(s:Shared)(σ:St)(H:Hp)(x:V)(xs:List V)(v:Value)(us:List Value)(Q:VK),Inv X pins σ H s->RelV x v->Vals xs us->r x xs H Q ->
  wpAny (model X.prog X.w) X.A (call (.builtin id) (v::us)) (EP X pins σ Q) X.xe s
theorem Vals.one:∀{x:V}{us:List Value},Vals [x] us->∃u,us=[u]/\RelV x u
 |_,_,.cons r .nil=>⟨_,rfl,r⟩
theorem Vals.rep{xs:List V}{us:List Value}(h:Vals xs us):∀k:Nat,Vals (qA7 k xs).flatten (qA7 k us).flatten
 |0=>.nil
 |k+1=>by
  rw[qBf,qBf,qBs,qBs];exact Vals.append h (Vals.rep h k)
theorem zHT(its:List Value):∀(k:Nat)(acc:List Value),
  qFq (fun x1 x2=>x1++x2) acc.toArray (qA7 k its.toArray)=(acc++(qA7 k its).flatten).toArray
 |0,acc=>by simp
 |k+1,acc=>by
  have e:acc.toArray++its.toArray=(acc++its).toArray:=by simp
  have e2:(acc++its)++(qA7 k its).flatten=acc++(qA7 (k+1) its).flatten:=by
   rw[qBf,qBs,qCi]
  rw[<- e2,<- zHT its k (acc++its),<- e,qBf,List.foldl_cons]
section
variable{X:Cx}{pins:List (Addr×Obj)}{σ:St}{H:Hp}{s:Shared}{l b:Addr}{xs ys zs:List V}
theorem Inv.lset{its its':List Value}{n:Nat}{f:Array Value->Array Value}{t':Nat}(I:Inv X pins σ H s)(hH:H l=some (.lst xs))
  (e:s.heap.get? l=some { cls:=.type "list",data:=.seq its.toArray n }) (hf:f its.toArray=its'.toArray) (hv:Vals ys its') (hz:ys.length<=sizeLine) :
  Inv X pins σ (upd H l (.lst ys)) { s with heap:=s.heap.update l (Obj.mapSeq f),toks:=t' }:=by
 have q:=PySem.IsL.update e f;rw[hf]at q;refine I.write (x:=l) (e:=l) (by rw[hH];exact trivial) (.inl rfl) (fun b' u hb hu=>(Heap.get?_update_other s.heap (Obj.mapSeq f) (qCc hb)).trans hu) ⟨_,q⟩ ?_;exact⟨hz,its',_,hv,q⟩
theorem Inv.lnew{its:List Value}{t':Nat}(I:Inv X pins σ H s)(hv:Vals ys its)(hz:ys.length<=sizeLine) :
  Inv X pins σ (upd H s.heap.objs.size (.lst ys)) { s with heap:=s.heap.push { cls:=.type "list",data:=.seq its.toArray },toks:=t' }:=
 I.laid (fun _ _ q=>Heap.get?_push_of_some _ q) (qA6 _) ⟨hz,its,0,hv,Heap.get?_push_size _ rfl⟩
theorem Inv.fresh(I:Inv X pins σ H s):H s.heap.objs.size=none:=I.hok.fresh (qA6 _)
theorem Inv.lstM(I:Inv X pins σ H s)(hH:H l=some (.lst xs)):xs.length<=sizeLine/\∃(its:List Value)(n:Nat),Vals xs its/\xs.length=its.length/\s.heap.get? l=some { cls:=.type "list",data:=.seq its.toArray n }:=by
 obtain⟨z,its,n,r,e⟩:=I.hok l _ hH;exact⟨z,its,n,r,r.length,e⟩
theorem zN5{n:Nat}(h:n<=sizeLine):Builtin.List.listTooLong n=false:=by
 unfold Builtin.List.listTooLong;exact decide_eq_false (by lia)
end
section
variable{X:Cx}
def zPL:V->List V->Hp->VK->Prop:=fun x vs H Q=>∃l xs y,x=.ref l/\vs=[y]/\H l=some (.lst xs)/\xs.length<sizeLine/\Q .non (upd H l (.lst (xs++[y])))
theorem zLL:MtM X "list.append" zPL:=by
 intro pins s σ H x vs v us Q I rx rv h;obtain⟨l,xs,y,rfl,rfl,hH,hz,q⟩:=h;cases rx;obtain⟨u,rfl,ru⟩:=rv.one;obtain⟨z,its,n,r,hl,e⟩:=I.lstM hH;refine call_meets F.slot_list_append ⟨_,e,rfl⟩ F.entry_list_append (F.args_list_append_2 _ _) (PySem.list_append l its.toArray n u (by rw[qAh];lia)) ⟨e,?_⟩;refine⟨.non,_,I.lset (its':=its++[u]) hH e (by simp) (r.append (.cons ru .nil)) ?_,rfl,q⟩;rw[qBq,qDo]
 lia
def rCat:R2:=fun x y H Q=>∃l b xs zs,x=.ref l/\y=.ref b/\H l=some (.lst xs)/\H b=some (.lst zs)/\xs.length+zs.length<=sizeLine/\∀p,H p=none->Q (.ref p) (upd H p (.lst (xs++zs)))
theorem zS4:OpR X (binaryOp .Add) rCat:=by
 intro pins s σ H x y v u Q I rx ry h;obtain⟨l,b,xs,zs,rfl,rfl,hH,hB,hz,q⟩:=h;cases rx;cases ry;obtain⟨z,its,n,r,hl,e⟩:=I.lstM hH;obtain⟨z2,its2,n2,r2,hl2,e2⟩:=I.lstM hB;refine PySem.P.add_list e e2 ?_ (by rw[qAh,qAh];lia);have ea:its.toArray++its2.toArray=(its++its2).toArray:=by simp
 rw[ea];exact⟨.ref _,_,I.lnew (t':=s.toks) (r.append r2) (by rw[qBq];lia),rfl,q _ I.fresh⟩
def rRep:R2:=fun x y H Q=>∃l k xs,x=.ref l/\y=.int k/\H l=some (.lst xs)/\-(2 ^ 63)<=k/\k<2 ^ 63/\xs.length*k.toNat<=sizeLine /\
 ∀p,H p=none->Q (.ref p) (upd H p (.lst (qA7 k.toNat xs).flatten))
theorem zQ1{α:Type}(xs:List α)(k:Nat):(qA7 k xs).flatten.length=k*xs.length:=by
 induction k with
 |zero=>simp
 |succ k ih=>rw[qBf,qBs,qBq,ih,Nat.succ_mul,Nat.add_comm]
theorem zS0:OpR X (binaryOp .Mult) rRep:=by
 intro pins s σ H x y v u Q I rx ry h;obtain⟨l,k,xs,rfl,rfl,hH,h1,h2,hz,q⟩:=h;cases rx;obtain⟨t,rfl⟩:=ry;obtain⟨z,its,n,r,hl,e⟩:=I.lstM hH;have hlen:its.toArray.size*k.toNat<=sizeLine:=by rw[qAh,<- hl];exact hz
 have hcap:¬its.toArray.size*k.toNat>(2 ^ 63-1)/8:=by
  have:(sizeLine:Nat)<=(2 ^ 63-1)/8:=by decide
  lia
 have hfit:¬(!Builtin.List.listFitsIndex k)=true:=by
  rw[fitsIndex_both h1 h2];exact qAb
 have hlong:¬Builtin.List.listTooLong (its.toArray.size*k.toNat)=true:=by
  rw[zN5 hlen];exact qAb
 have hnew:qFq (fun x1 x2=>x1++x2) #[] (qA7 (if its.toArray.isEmpty=true then 0 else k.toNat) its.toArray)=(qA7 k.toNat its).flatten.toArray:=by
  have f0:∀m:Nat,qFq (fun x1 x2=>x1++x2) #[] (qA7 m its.toArray)=(qA7 m its).flatten.toArray:=fun m=>by
   have:=zHT its m []
   rw[qEu]at this;exact this
  rw[f0];cases its with
  |nil=>simp
  |cons a r'=>rw[if_neg (by simp)]
 refine wpAny_binaryOp_repeat_ref (T:="list") (U:="int") (by decide) ⟨_,e,rfl⟩ (fun s'=>typeIs_int s' k t) noFill_list_mul F.fills_int_mul F.slot_int_rmul repeat_list F.slot_int_index.lookup
  (call_meets F.slot_int_rmul (typeIs_int s k t) F.entry_int_rmul (F.args_int_rmul_2 _ _) (int___rmul___int_list k t l its.toArray n)
   ⟨e,rfl,⟨_,e,rfl⟩,call_meets F.slot_list_mul ⟨_,e,rfl⟩ F.entry_list_mul (F.args_list_mul_2 _ _) (AutoListH.list___mul___list_int_3 l its.toArray n k t hfit hcap hlong) ⟨e,?_⟩⟩)
 rw[hnew];exact⟨.ref _,_,I.lnew (t':=s.toks) (r.rep k.toNat) (by rw[zQ1,Nat.mul_comm];exact hz),rfl,q _ I.fresh⟩
end
section
variable{prog:Program}{w:World}{A:Around}{E:Value->Shared->Prop}{s:Shared}
end
section
variable{X:Cx}
end
end L2
namespace L2
open PySem PySem.Spec PyProof.Rows
section
variable{κ:Type}[DecidableEq κ]
noncomputable def zSW(kvs:List (κ×V))(k:κ):List (κ×V):=kvs.filter fun kv=>decide (kv.1≠k)
theorem KV.drop{kvs:List (κ×V)}{vs:List (κ×Value)}(r:KV kvs vs)(k:κ):KV (zSW kvs k) (without vs k):=by
 unfold KV at r ⊢;unfold zSW without
 induction r with
 |nil=>exact .nil
 |@cons p q ps qs h t ih=>
  obtain⟨h1,h2⟩:=h;rw[qEq,qEq]
  by_cases e:p.1=k
  ·have a:¬decide (p.1≠k)=true:=by simp[e]
   have b:¬decide (q.1≠k)=true:=by simp[h1.symm.trans e]
   rw[if_neg a,if_neg b];exact ih
  ·have e':¬q.1=k:=fun z=>e (h1.trans z)
   have a:decide (p.1≠k)=true:=by simp[e]
   have b:decide (q.1≠k)=true:=by simp[e']
   rw[if_pos a,if_pos b];exact .cons ⟨h1,h2⟩ ih
end
section
variable{P:Program}{w:World}{H:Hp}{h:Heap}{a:Addr}
end
section
variable{X:Cx}{pins:List (Addr×Obj)}{σ:St}{H:Hp}{s:Shared}{a:Addr}{y v:V}{u r:Value}{o:Option V}{A:Around}{E:Value->Shared->Prop}
end
section
variable{X:Cx}{pins:List (Addr×Obj)}{σ:St}{H:Hp}{s:Shared}{a:Addr}{kvs:List (Key×V)}{k:Key}{u:Value}{A:Around}{E:Value->Shared->Prop}
end
section
variable{X:Cx}{o i e value:Expr}{pos pos' tpos:Pos}{td ty tv:TE}
end
section
variable{X:Cx}{pos:Pos}
end
structure M1(X:Cx)(o:Expr)(m:Str)(apos:Pos)(e:Expr)(cpos:Pos):Prop where
 base:attributeBase o m X.env (eval o X.env)=eval o X.env
 few:((backTo cpos (starEach [e] X.env)).all (fun x=>!x.1)&&(backToKw cpos (keywordEach [] X.env)).all (fun x=>x.1.isSome)
  && decide (([e]:List Expr).length+([]:List Keyword).length+(if([]:List Keyword).isEmpty then 0 else 1)<30))=true
 line:(apos.endLine==cpos.line)=true
 trees:backTo cpos (starEach [e] X.env)=[(false,eval e X.env)]
section
variable{X:Cx}{pins:List (Addr×Obj)}{σ:St}{H:Hp}{s:Shared}{a:Addr}{y d:V}{u r:Value}{o:Option V}{A:Around}{E:Value->Shared->Prop}
end
section
variable{X:Cx}{o e f:Expr}{apos cpos:Pos}{td ty tx:TE}
end
section
variable{X:Cx}{pins:List (Addr×Obj)}{σ:St}{H:Hp}{s:Shared}{a:Addr}{kvs:List (Key×V)}{A:Around}{E:Value->Shared->Prop}
end
section
variable{X:Cx}{pins:List (Addr×Obj)}{σ:St}{H:Hp}{s:Shared}{a:Addr}{y:V}{u:Value}{A:Around}{E:Value->Shared->Prop}
end
end L2
namespace Att
open PySem PySem.W PySem.Calls PyProof.Rows
theorem zF4{P:Params}{h:Heap}:∀(ns:List Int)(vs:List Value),WellAll P h vs (ns.map WData.int)->IntsAre vs ns:=by
 intro ns
 induction ns with
 |nil=>
  intro vs w;rw[List.map_nil]at w;cases w;exact .nil
 |cons n ns ih=>
  intro vs w;rw[qAj]at w;cases w with
  |cons a b=>
   cases a;exact .cons _ _ (ih _ b)
theorem zKZ{l:OpenLaw}{n:Nat}(hn:l.most=some n){P:Params}{h:Heap}{args:List WData}{vals:List Value}
  (hpre:l.row.toRowW.claim.pre args=true) (hwl:WellAll P h vals args) :
  ∃a vs ns,vals=[Value.ref a]/\args=[WData.list (ns.map WData.int)]/\h.get? a=some { cls:=.type "list",data:=.seq vs.toArray }/\IntsAre vs ns/\ns.length<=n:=by
 have hsh:WShape.hasAll [] args [.list .int]=true:=(pre_splitW hpre).1;have hc:l.pre.holds [] { args:=args }=true:=(pre_splitW hpre).2;obtain⟨d,r,rfl,h1,h2⟩:=hasAllW_cons hsh;obtain rfl:=hasAllW_nil h2;obtain⟨xs,rfl,h3⟩:=hasW_list h1;obtain⟨ns,rfl⟩:=items_int h3;have hlen:ns.length<=n:=by
  unfold OpenLaw.pre at hc;have h4:(WTm.not (.lt (.lit (.int (n:Int))) (.len (.arg 0)))).holds [] { args:=[.list (ns.map .int)] }=true:=by
   have h4:=(holds_andW hc).1;rw[hn]at h4;exact h4
  have h5:=condW_of h4 (w_not (w_lt w_lit (w_len_list (w_arg rfl))));rw[qAx]at h5;refine Nat.le_of_not_lt fun q=>?_
  have q':(n:Int)<((ns.length:Nat):Int):=by lia
  first
   |(rw[decide_eq_true q']at h5;exact absurd h5 (by decide))
   |(simp at h5;omega)
 cases hwl with
 |cons w1 w2=>
  cases w2;cases w1 with
  |list ho hall=>exact⟨_,_,ns,rfl,rfl,ho,zF4 ns _ hall,hlen⟩
theorem zL4(l:OpenLaw)(args:List WData):l.row.toRowW.claim.post args (.bool true) args=true:=
 postW_of (r:=l.row.toRowW) (X:=(true==true))
  (show WShape.has [] (.bool true) .bool=true by first|rfl|decide|simp[WShape.has,WShape.arms,WShape.armsAll])
  (show(WTm.eq .res (.lit (.bool true))).value [] { args:=args,res:=some (.bool true),after:=args }=some (.bool (true==true)) from w_eq_bool (w_res rfl) w_lit) rfl
section
variable{prog:Program}{w:World}{A:Around}{E:Value->Shared->Prop}{s:Shared}{K:Frag}
end
end Att
namespace L2
open PySem PySem.Spec PyProof.Rows
theorem zH7:∀{vs:List Value}{ns:List Int},IntsAre vs ns->Vals (ns.map V.int) vs
 |_,_,.nil=>.nil
 |_,_,.cons n t h=>.cons ⟨t,rfl⟩ (zH7 h)
noncomputable def zB2(s:Stmt):Arguments:=match s with
 |.FunctionDef _ a _ _ _ _ _ _ _ _=>a
 |_=>{ posonlyargs:=[],args:=[],vararg:=none,kwonlyargs:=[],kw_defaults:=[],kwarg:=none,defaults:=[] }
noncomputable def zAP(s:Stmt):List Stmt:=match s with
 |.FunctionDef _ _ b _ _ _ _ _ _ _=>b
 |_=>[]
noncomputable def zA8(s:Stmt):Scope:=match s with
 |.FunctionDef _ _ _ _ _ _ sc _ _ _=>sc
 |_=>{ kind:=.function,names:=[],isGenerator:=false,isCoroutine:=false }
abbrev CX0:CXT:=fun _ _ _ _ _ _=>False
abbrev E0:XK:=fun _ _ _=>False
theorem zTU{X:Cx}:zDX CX0 X E0:=fun _ _ _ _ _ _ _ h=>h.elim
structure Fun(K:qA0)(x qual:Str)(st:Stmt)(f:Addr)(fd:FuncData):Prop where
 ex:∃(oc:Value)(od:Option Addr)(kV doc pm:Value)(an:Option Addr)(cdv ct:Value)(osl:Array (Option Value)),
  fd=qAt x qual (zB2 st) (zAP st) (zA8 st) .none kV doc pm an cdv ct/\K.lookup f=some ⟨oc,od,.func fd,osl⟩/\qAy K cdv qual=true
 kp:qAe K (.ref f)=true
section
variable{P:Program}{w:World}{K:qA0}{mg:Str->Option Value}{base:Heap}
theorem Fun.ok{x qual:Str}{st:Stmt}{f:Addr}{fd:FuncData}{N ps:List Str}{k:Nat}{sp:Sp}(F:Fun K x qual st f fd)(S:FnScope N ps (zA8 st))(len:∀vs H Q E,sp vs H Q E->vs.length=ps.length)
  (hbody:∀(cdv:Value)(A:Around)(outer:List Env)(s:Shared)(H:Hp)(vs:List V)(Q:VK)(E:XK),Room k (A.deeper (envOfC qual (zA8 st) s.heap.objs.size f cdv))->sp vs H Q E ->
   ∃t,PSs (cxOf CX0 P w K mg base N qual (zA8 st) f cdv A outer s H E).nox (zAP st) t/\t { nx:=fun _ H'=>Q .non H',rt:=Q } (start N vs) H):FnOk P w K mg base CX0 (k+1) f fd ps sp:=by
 obtain⟨oc,od,kV,doc,pm,an,cdv,ct,osl,rfl,lk,hcd⟩:=F.ex;refine zSR lk hcd S len fun A outer s H vs Q E hr hsp=>?_
 obtain⟨t,h,q⟩:=hbody cdv A outer s H vs Q E hr hsp;exact⟨t,h.nox,q⟩
theorem Fun.binds{x qual:Str}{st:Stmt}{f:Addr}{fd:FuncData}{ps:List Str}(F:Fun K x qual st f fd)
  (h:∀(kV doc pm:Value)(an:Option Addr)(cdv ct:Value)(us:List Value),us.length=ps.length->bindArgs (qAt x qual (zB2 st) (zAP st) (zA8 st) .none kV doc pm an cdv ct) ⟨us,[]⟩=pure (ps.zip us)):Binds K fd ps []:=by
 obtain⟨oc,od,kV,doc,pm,an,cdv,ct,osl,rfl,lk,hcd⟩:=F.ex;exact .all (h kV doc pm an cdv ct)
theorem zCC{x qual:Str}{st:Stmt}{f:Addr}{oc:Value}{od an:Option Addr}{osl:Array (Option Value)}{kV doc pm cdv ct:Value}(l:K.lookup f=some ⟨oc,od,.func (qAt x qual (zB2 st) (zAP st) (zA8 st) .none kV doc pm an cdv ct),osl⟩)
  (c:qAy K cdv qual=true) (k:qAe K (.ref f)=true):Fun K x qual st f (qAt x qual (zB2 st) (zAP st) (zA8 st) .none kV doc pm an cdv ct):=⟨⟨oc,od,kV,doc,pm,an,cdv,ct,osl,rfl,l,c⟩,k⟩
end
section
variable{X:Cx}
theorem pv(i:Nat){x:Str}{pos:Pos}(hN:X.N[i]?=some x:=by rfl)(hv:Vis X.env.scope x:=by first|exact qFr rfl|exact qFs (qFr rfl)|exact qFs (qFs rfl))(hd:(x==("__debug__":Str))=false:=by decide)
  (hcd:(x==("__classdict__":Str))=false:=by decide):PE X (.Name x pos) (tVar i):=zOE hN hv hd hcd
end
def Same(H H':Hp):Prop:=∀b o,H b=some o->H' b=some o
theorem Same.refl(H:Hp):Same H H:=fun _ _ h=>h
theorem Same.trans{H H1 H2:Hp}(a:Same H H1)(b:Same H1 H2):Same H H2:=fun c o h=>b c o (a c o h)
theorem Same.free{H H':Hp}(e:Same H H'){l:Addr}(h:H' l=qDz):H l=qDz:=by
 cases q:H l with
 |none=>rfl
 |some o=>
  rw[e l o q]at h;cases h
theorem Same.seq{K:qA0}{H H':Hp}{a:Addr}{xs:List V}(e:Same H H')(h:SqL K H a xs):SqL K H' a xs:=by
 rcases h with(h|⟨o,h⟩)|h
 ·exact .inl (.inl (e _ _ h))
 ·exact .inl (.inr ⟨o,e _ _ h⟩)
 ·exact .inr h
section
variable{κ:Type}[DecidableEq κ]
end
end L2
namespace L2
open PySem PySem.Spec PyProof.Rows
theorem asN{a b:Nat}(h:a<b):a<b:=h
theorem asL{a b:Nat}(h:a<=b):a<=b:=h
theorem asE{a b:Nat}(h:a=b):a=b:=h
noncomputable def clos(cells:List (Str×Addr)):List (Str×NameKind)->List (Str×Addr)->List (Str×Addr)
 |[],acc=>acc
 |(n,k)::r,acc=>if k==.free then clos cells r ((n,(cells.lookup n).getD 0)::acc)else clos cells r acc
theorem zCS(cells:List (Str×Addr)):∀(names:List (Str×NameKind))(acc:List (Str×Addr)),clos cells names acc=clos cells names []++acc
 |[],_=>rfl
 |(n,k)::r,acc=>by
  unfold clos
  split
  ·rw[zCS cells r (_::acc),zCS cells r [_],qCi];rfl
  ·exact zCS cells r acc
theorem zED{cells:List (Str×Addr)}{x:Str}{c:Addr}:∀{names:List (Str×NameKind)},(x,c)∈clos cells names []->(x,NameKind.free)∈names/\c=(cells.lookup x).getD 0
 |[],h=>by simp[clos]at h
 |(n,k)::r,h=>by
  unfold clos at h
  split at h
  ·rename_i hk
   rw[zCS]at h
   rcases qBz.mp h with h|h
   ·obtain⟨h1,h2⟩:=zED h;exact⟨qAl _ h1,h2⟩
   ·have e:=qE3.mp h
    injection e with e1 e2
    subst e1;have hk':k=.free:=by simpa using hk
    subst hk';exact⟨qB2,e2⟩
  ·obtain⟨h1,h2⟩:=zED h;exact⟨qAl _ h1,h2⟩
theorem zH1{cells:List (Str×Addr)}{x:Str}:∀{names:List (Str×NameKind)},(x,NameKind.free)∈names->(x,(cells.lookup x).getD 0)∈clos cells names []
 |[],h=>by simp at h
 |(n,k)::r,h=>by
  unfold clos
  rcases qAa.mp h with e|h
  ·injection e with e1 e2
   subst e1;subst e2;rw[if_pos (by rfl),zCS];exact qAr _ (by simp)
  ·split
   ·rw[zCS];exact qCu _ (zH1 h)
   ·exact zH1 h
theorem zB7:∀(names:List (Str×NameKind))(n:Nat)(acc:List (Str×Addr)),cellsFrom n names acc=cellsFrom n names []++acc
 |[],_,_=>rfl
 |(x,k)::r,n,acc=>by
  unfold cellsFrom
  split
  ·rw[zB7 r (n+1) (_::acc),zB7 r (n+1) [_],qCi];rfl
  ·exact zB7 r n acc
theorem zBQ{x:Str}{c:Addr}:∀{names:List (Str×NameKind)}{n:Nat},(x,c)∈cellsFrom n names []->(x,NameKind.cell)∈names
 |[],_,h=>by simp[cellsFrom]at h
 |(y,k)::r,n,h=>by
  unfold cellsFrom at h
  split at h
  ·rename_i hk
   rw[zB7]at h
   rcases qBz.mp h with h|h
   ·exact qAl _ (zBQ h)
   ·have e:=qE3.mp h
    injection e with e1 e2
    subst e1;have hk':k=.cell:=by simpa using hk
    subst hk';exact qB2
  ·exact qAl _ (zBQ h)
theorem zBG{α:Type}{x:Str}{a:α}:∀{l:List (Str×α)},(l.map (·.1)).Nodup->(x,a)∈l->l.lookup x=some a
 |[],_,h=>by simp at h
 |(y,b)::r,nd,h=>by
  have nd':(y::r.map (·.1)).Nodup:=nd;obtain⟨h1,h2⟩:=qCe.mp nd'
  rcases qAa.mp h with e|hm
  ·injection e with e1 e2
   subst e1;subst e2;rw[qAu,beq_self_eq_true]
  ·have hne:(x==y)=false:=by
    rw[beq_eq_false_iff_ne]
    rintro rfl
    exact h1 (qCm.mpr ⟨(x,a),hm,rfl⟩)
   rw[qAu,hne];exact zBG h2 hm
theorem zCY{α:Type}{x:Str}:∀{l:List (Str×α)},(∀a,(x,a)∉l)->l.lookup x=none
 |[],_=>rfl
 |(y,b)::r,h=>by
  have hne:(x==y)=false:=by
   rw[beq_eq_false_iff_ne]
   rintro rfl
   exact h b qB2
  rw[qAu,hne];exact zCY fun a m=>h a (qAl _ m)
theorem zCX{α:Type}{x:Str}{a:α}:∀{l:List (Str×α)},(x,a)∈l->∃b,l.lookup x=some b
 |[],h=>by simp at h
 |(y,b)::r,h=>by
  rw[qAu];cases e:x==y with
  |true=>exact⟨b,rfl⟩
  |false=>
   rcases qAa.mp h with q|q
   ·injection q with q1 _
    subst q1;rw[beq_self_eq_true]at e;cases e
   ·exact zCX q
theorem zFV{α:Type}{x:Str}:∀(l k:List (Str×α)),(l++k).lookup x=(l.lookup x).or (k.lookup x)
 |[],k=>by simp
 |(y,b)::r,k=>by
  show qBj x ((y,b)::(r++k))=_;rw[qAu,qAu];cases x==y with
  |true=>rfl
  |false=>exact zFV r k
def zTB(sc:Scope)(env:Env):Prop:=∀x,(x,NameKind.free)∈sc.names->env.kindOf x=some .cell\/env.kindOf x=some .free
theorem zDE{sc:Scope}{env:Env}(h:∀x,(x,NameKind.free)∈sc.names->∃c,env.cells.lookup x=some c):closureFor sc env=pure (clos env.cells sc.names []):=by
 have go:∀(names:List (Str×NameKind))(acc:List (Str×Addr)),(∀x,(x,NameKind.free)∈names->∃c,env.cells.lookup x=some c) ->
   (forIn names acc fun(x:Str×NameKind)(cs:List (Str×Addr))=>(match x with|(name,kind)=>if(kind==NameKind.free)=true then(do let c <- cellOf env name;pure (qC2 ((name,c)::cs)))else pure (qC2 cs):Sem (ForInStep (List (Str×Addr)))))=pure (clos env.cells names acc):=by
  intro names
  induction names with
  |nil=>intro acc _;rfl
  |cons p r ih=>
   intro acc hn;obtain⟨n,k⟩:=p;have hr:∀x,(x,NameKind.free)∈r->∃c,env.cells.lookup x=some c:=fun x hx=>hn x (qAl _ hx)
   rw[qDp];unfold clos
   by_cases hk:(k==NameKind.free)=true
   ·have hk':k=.free:=by simpa using hk
    subst hk';obtain⟨c,hc⟩:=hn n qB2;have e:cellOf env n=pure c:=by unfold cellOf;rw[hc]
    rw[if_pos (by rfl)];simp only[if_pos (show(NameKind.free==NameKind.free)=true from rfl),e,hc,qDf,pure_bind];exact ih _ hr
   ·rw[if_neg hk];simp only[if_neg hk,pure_bind];exact ih _ hr
 unfold closureFor;have q:=go sc.names [] h
 first
  |(rw[show(forIn sc.names ([]:List (Str×Addr)) _:Sem (List (Str×Addr)))=_ from q];rfl)
  |(refine(congrArg (fun z=>z >>= pure) q).trans ?_;rfl)
  |(simp only[q];rfl)
  |exact q
def zCR(sc:Scope)(C:Addr)(env:Env):Env:=
 { scope:=relabel sc env,locals:=C,globals:=env.globals,cells:=cellsFrom (C+1) sc.names (clos env.cells sc.names []),qual:=env.qual,func:=none,code:=env.code,frame:=env.frame,builtins:=env.builtins }
theorem zD6{M:Model}{A:Around}{E:Value->Shared->Prop}{s:Shared}{sc:Scope}{env:Env}{cl:List (Str×Addr)}{Q:Env->Shared->Prop}
  (hQ:Q { scope:=sc,locals:=s.heap.objs.size,globals:=env.globals,cells:=cellsFrom (s.heap.objs.size+1) sc.names cl,qual:=env.qual,func:=none,code:=env.code,frame:=env.frame,builtins:=env.builtins }
   { s with heap:=pushCells (s.heap.push { cls:=.type "dict",data:=.dict #[] }) sc.names }) :
  wpAny M A (newFunctionEnv sc env.globals cl [] env.qual none .none (some env)) Q E s:=by
 simp only[newFunctionEnv,qE4,if_true];refine wpAny_bind (wpAny_alloc ?_);refine wpAny_bind (wpAny_layCells _ (fun name kind cells=>by cases hkc:kind==NameKind.cell<;>simp[hkc]) _ _ _ _ ?_);rw[show({ s with heap:=s.heap.push { cls:=.type "dict",data:=.dict #[] } }:Shared).heap.objs.size=s.heap.objs.size+1 from Heap.size_push ..];refine wpAny_bind ?_;rw[List.forIn_nil];exact wpAny_pure (wpAny_pure hQ)
def zC6(X:Cx)(N':List Str)(sc:Scope)(C:Addr)(s:Shared)(H:Hp)(fp:List Addr):Cx:=
 { X with N:=N',s₀:=s,H₀:=H,env:=zCR sc C X.env,outer:=X.stack,stack:=X.stack,ex:=fp,fn:=fun x=>sc.names.lookup x==some .cell,pn:=[],xe:=fun _ _=>False }
def PTs(X:Cx)(ifs:List Expr)(t:TT):Prop:=
 ∀(pins:List (Addr×Obj))(s:Shared)(σ:St)(H:Hp)(Q:Bool->Hp->Prop),Inv X pins σ H s->t σ H Q ->
  wpAny (model X.prog X.w) X.A (forIn ifs true fun c r=>if r=true then do let ok <- isTrue c X.env (eval c X.env);pure (qC2 ok)else pure (qC2 r)) (TP X pins σ Q) X.xe s
noncomputable def tYes:TT:=fun _ H Q=>Q true H
theorem zGF{X:Cx}:PTs X [] tYes:=fun _ _ _ H _ I h=>wpAny_tests_nil ⟨H,I,h⟩
structure CompNames(N N':List Str)(k:Nat)(sc:Scope)(env:Env):Prop where
 kind:sc.kind=.function
 nd:(sc.names.map (·.1)).Nodup
 len:N'.length=N.length+k
 old:∀(i:Nat)(x:Str),N'[i]?=some x->i<N.length->(x,NameKind.free)∈sc.names/\N[i]?=some x\/sc.names.lookup x=none
 free:zTB sc env
theorem zB9{sc:Scope}{env:Env}{x:Str}{k:NameKind}:∀{names:List (Str×NameKind)},
  (names.map fun(n,k)=>if(k==NameKind.free&&env.scope.kind==.function&&env.kindOf n==some .cell)then(n,NameKind.cell)else(n,k)).lookup x=some k ->
  names.lookup x=some k\/(names.lookup x=some .free/\k=.cell)
 |[],h=>by simp at h
 |(n,j)::r,h=>by
  have ih:=@zB9 sc env x k r;rw[qAj]at h;rw[qAu]
  by_cases hc:(j==NameKind.free&&env.scope.kind==.function&&env.kindOf n==some .cell)=true
  ·have h':qBj x ((n,NameKind.cell)::(r.map fun(n,k)=>if(k==NameKind.free&&env.scope.kind==.function&&env.kindOf n==some .cell)then(n,NameKind.cell)else(n,k)))=some k:=by
    rw[<- h];simp only[if_pos hc]
   rw[qAu]at h';cases e:x==n with
   |true=>
    rw[e]at h';have hk:k=.cell:=(qB5 h').symm;have hj:j=.free:=by
     simp only[qBd,beq_iff_eq]at hc;exact hc.1.1
    subst hj;exact .inr ⟨rfl,hk⟩
   |false=>
    rw[e]at h';exact ih h'
  ·have h':qBj x ((n,j)::(r.map fun(n,k)=>if(k==NameKind.free&&env.scope.kind==.function&&env.kindOf n==some .cell)then(n,NameKind.cell)else(n,k)))=some k:=by
    rw[<- h];simp only[if_neg hc]
   rw[qAu]at h';cases e:x==n with
   |true=>rw[e]at h';exact .inl h'
   |false=>rw[e]at h';exact ih h'
section
variable{X:Cx}{N':List Str}{k:Nat}{sc:Scope}{pins:List (Addr×Obj)}{σ:St}{H:Hp}{s:Shared}
theorem zKK{C:Addr}{x:Str}{c:Addr}(nd:(sc.names.map (·.1)).Nodup)(h:(zCR sc C X.env).cells.lookup x=some c) :
  ((x,c)∈cellsFrom (C+1) sc.names []/\(x,NameKind.cell)∈sc.names)\/((x,NameKind.free)∈sc.names/\c=(X.env.cells.lookup x).getD 0):=by
 have m:=mem_of_lookup h;have m':(x,c)∈cellsFrom (C+1) sc.names (clos X.env.cells sc.names []):=m;rw[zB7]at m'
 rcases qBz.mp m' with z|z
 ·exact .inl ⟨z,zBQ z⟩
 ·exact .inr (zED z)
theorem zD0{C:Addr}{x:Str}(nd:(sc.names.map (·.1)).Nodup)(h:(x,NameKind.free)∈sc.names):(zCR sc C X.env).cells.lookup x=some ((X.env.cells.lookup x).getD 0):=by
 show(cellsFrom (C+1) sc.names (clos X.env.cells sc.names [])).lookup x=_
 rw[zB7,zFV,zCY (fun a m=>?_),Option.none_or]
 ·obtain⟨b,hb⟩:=zCX (zH1 (cells:=X.env.cells) h)
  have:=(zED (mem_of_lookup hb)).2
  rw[hb,this]
 ·have e1:=zBG nd (zBQ m);rw[zBG nd h]at e1;cases e1
theorem zNF(I:Inv X pins σ H s)(hc:X.calm=true)(S:CompNames X.N N' k sc X.env){fp:List Addr}(hf:∀b∈fp,FpOk X pins H b)(hfo:∀b∈fp,∃o,s.heap.get? b=some o)
  {s4:Shared} {D C:Addr} (eD:D=s.heap.objs.size) (eC:C=s.heap.objs.size+1)
  (e4:s4={ s with heap:=pushCells ((s.heap.push { cls:=.type "list",data:=.seq #[] 0 }).push { cls:=.type "dict",data:=.dict #[] }) sc.names }) :
  Inv (zC6 X N' sc C s H fp) [(D,{ cls:=.type "list",data:=.seq #[] 0 })] (σ++qA7 k none) H s4/\∀b∈fp,FpOk (zC6 X N' sc C s H fp) [(D,{ cls:=.type "list",data:=.seq #[] 0 })] H b:=by
 subst eD eC e4
 generalize hh1:s.heap.push { cls:=.type "list",data:=.seq #[] 0 }=h1
 generalize hh2:h1.push { cls:=.type "dict",data:=.dict #[] }=h2
 have sz1:h1.objs.size=s.heap.objs.size+1:=by rw[<- hh1];exact Heap.size_push ..
 have sz2:h2.objs.size=s.heap.objs.size+2:=by rw[<- hh2,Heap.size_push,sz1]
 have k1:∀b o,s.heap.get? b=some o->h1.get? b=some o:=fun b o e=>by rw[<- hh1];exact Heap.get?_push_of_some _ e
 have k2:∀b o,h1.get? b=some o->h2.get? b=some o:=fun b o e=>by rw[<- hh2];exact Heap.get?_push_of_some _ e
 have k3:∀b o,h2.get? b=some o->(pushCells h2 sc.names).get? b=some o:=pushCells_keeps sc.names h2;have kk:∀b o,s.heap.get? b=some o->(pushCells h2 sc.names).get? b=some o:=fun b o e=>k3 b o (k2 b o (k1 b o e))
 have own:CellsOk (pushCells h2 sc.names) h2.objs.size (cellsFrom h2.objs.size sc.names []):=cellsFrom_ok sc.names h2 h2.objs.size [] ⟨fun _ _ hm=>(nomatch hm),qEd⟩ (qA6 _);have eC1:s.heap.objs.size+1+1=h2.objs.size:=by rw[sz2]
 have freeCell:∀x,(x,NameKind.free)∈sc.names->∃c,X.env.cells.lookup x=some c:=fun x hx=>I.ok.has x (S.free x hx)
 have cells:∀x c,(zCR sc (s.heap.objs.size+1) X.env).cells.lookup x=some c ->
   ((x,c)∈cellsFrom h2.objs.size sc.names []/\(x,NameKind.cell)∈sc.names/\(pushCells h2 sc.names).IsCell c none/\h2.objs.size<=c)\/((x,NameKind.free)∈sc.names/\X.env.cells.lookup x=some c):=fun x c e=>by
  rcases zKK S.nd e with⟨m,q⟩|⟨m,q⟩
  ·rw[eC1]at m;exact .inl ⟨m,q,(own.empty x c m).1,(own.empty x c m).2⟩
  ·obtain⟨c',hc'⟩:=freeCell x m;rw[hc',qDf]at q;subst q;exact .inr ⟨m,hc'⟩
 have old:∀x c,X.env.cells.lookup x=some c->c<s.heap.objs.size:=fun x c e=>by
  obtain⟨v,q⟩:=I.cell x c e;exact q.lt
 have fpl:∀b∈fp,b<s.heap.objs.size:=fun b hb=>by
  obtain⟨o,e⟩:=hfo b hb;exact Heap.lt_size e
 have hCn:H (s.heap.objs.size+1)=none:=I.hok.fresh (qC7 _);have hDn:H s.heap.objs.size=none:=I.hok.fresh (qA6 _);have nofs:∀a,s.heap.objs.size<=a->a∉frs X.stack:=fun a ha hb=>by
  rcases qAa.mp (I.stkSub a hb)with e|hb
  ·have t1:=asN I.lt;have t2:=asE e;have t3:=asL ha
   lia
  ·exact I.nofs ha hb
 have fin:∀b∈fp,b∉frs X.stack:=fun b hb z=>by
  obtain⟨f0,f1,f2,f3,f4,f5⟩:=hf b hb
  rcases qAa.mp (I.stkSub b z)with e|z
  ·exact f1 e
  ·exact f2 z
 have ok:(zC6 X N' sc (s.heap.objs.size+1) s H fp).Ok:=by
  refine⟨I.ok.mod,S.kind,I.ok.glob,I.ok.blt,qC7 _,?_,?_,?_,I.ok.hd,I.ok.frames,.inl rfl,?_,I.bs,qAm I.ok.bsz I.sz,?_,fin,I.stack,I.stkFree⟩
  ·intro x y c hx hy
   rcases cells x c hx with⟨m1,_,_,g1⟩|⟨m1,g1⟩<;>rcases cells y c hy with⟨m2,_,_,g2⟩|⟨m2,g2⟩
   ·exact name_of_addr own.apart m1 m2
   ·exact absurd (qA8 (old y c g2) (qAm (by rw[sz2];exact qDg _ _) g1)) (qBv _)
   ·exact absurd (qA8 (old x c g1) (qAm (by rw[sz2];exact qDg _ _) g2)) (qBv _)
   ·exact I.ok.inj x y c g1 g2
  ·intro x hx;have hx:(relabel sc X.env).names.lookup x=some .cell\/(relabel sc X.env).names.lookup x=some .free:=hx;have two:sc.names.lookup x=some .cell\/sc.names.lookup x=some .free:=by
    rcases hx with hx|hx
    ·rcases zB9 (sc:=sc) hx with q|⟨q,_⟩
     ·exact .inl q
     ·exact .inr q
    ·rcases zB9 (sc:=sc) hx with q|⟨_,q⟩
     ·exact .inr q
     ·cases q
   rcases two with q|q
   ·have:=qCg sc.names (s.heap.objs.size+1+1) (clos X.env.cells sc.names []) (.inl q)
    exact qC9.mp this
   ·exact⟨_,zD0 S.nd (mem_of_lookup q)⟩
  ·intro x c hx e;have hx:(sc.names.lookup x==some NameKind.cell)=true:=hx;have hx':sc.names.lookup x=some .cell:=by simpa using hx
   rcases cells x c e with⟨_,_,_,g⟩|⟨m,_⟩
   ·show s.heap.objs.size<=c
    lia
   ·rw[zBG S.nd m]at hx';cases hx'
  ·intro b hb;refine⟨?_,fun x c e z=>?_⟩
   ·exact qAn (qEe (fpl b hb))
   ·rcases cells x c e with⟨_,_,_,g⟩|⟨_,g⟩
    ·have t1:=asN (fpl b hb);have t2:=asL g;have t3:=asE z
     lia
    ·exact(hf b hb).2.2.2.2.1 x c g z
  ·intro b o e hb
   rcases(hf b hb).2.2.2.1 with z|z
   ·exact I.ok.noex b o e z
   ·exact absurd (qA8 (Heap.lt_size e) (qAm I.ok.bsz z)) (qBv _)
 have ns:(pushCells h2 sc.names).Ns (s.heap.objs.size+1) fun _=>none:=by
  have q:h2.Ns h1.objs.size fun _=>none:=by rw[<- hh2];exact Heap.Ns.new h1 (.type "dict")
  rw[sz1]at q;exact q.keeps k3
 have hD1:h1.get? s.heap.objs.size=some { cls:=.type "list",data:=.seq #[] 0 }:=by rw[<- hh1];exact Heap.get?_push_size _ rfl
 refine⟨⟨ok,rfl,I.bare,Un.kept kk,⟨_,ns,?_⟩,?_,hCn,?_,?_,I.hok.kept kk,?_⟩,?_⟩
 ·intro i x v h1 h2 h3;have hi:i<X.N.length:=by
   rw[<- I.len]
   by_cases hi:i<σ.length
   ·exact hi
   ·rw[qA9 (by lia),qBn]at h2
    split at h2<;>cases h2
  have h2':σ[i]?=some (some v):=by
   rw[qAc (by rw[I.len];exact hi)]at h2;exact h2
  have h1:N'[i]?=some x:=h1
  rcases S.old i x h1 hi with⟨m,e⟩|e
  ·obtain⟨mm,hn,hl⟩:=I.loc;have hv:Vis X.env.scope x:=(S.free x m).elim (fun z=>.inr (.inl z)) fun z=>.inr (.inr z)
   obtain⟨u,r,l⟩:=hl i x v e h2' hv;refine⟨u,r,?_⟩
   rcases l with⟨z,_⟩|⟨_,c,hc,hcell⟩
   ·rcases S.free x m with z'|z'<;>rw[z]at z'<;>cases z'
   ·refine .inr ⟨?_,c,?_,hcell.keeps kk⟩
    ·have hv3:(relabel sc X.env).names.lookup x=some .local\/(relabel sc X.env).names.lookup x=some .cell\/(relabel sc X.env).names.lookup x=some .free:=h3
     rcases hv3 with q|q|q
     ·rcases zB9 (sc:=sc) q with q|⟨_,q⟩
      ·rw[zBG S.nd m]at q;cases q
      ·cases q
     ·exact .inl q
     ·exact .inr q
    ·have q:=zD0 (X:=X) (C:=s.heap.objs.size+1) S.nd m;rw[hc,qDf]at q;exact q
  ·exfalso
   have hv3:(relabel sc X.env).names.lookup x=some .local\/(relabel sc X.env).names.lookup x=some .cell\/(relabel sc X.env).names.lookup x=some .free:=h3
   rcases hv3 with q|q|q<;>rcases zB9 (sc:=sc) q with q|⟨q,_⟩<;>rw[e]at q<;>cases q
 ·intro x c e
  rcases cells x c e with⟨_,_,g,_⟩|⟨_,g⟩
  ·exact⟨_,g⟩
  ·obtain⟨v,q⟩:=I.cell x c g;exact⟨v,q.keeps kk⟩
 ·intro x c e
  rcases cells x c e with⟨_,_,_,g⟩|⟨_,g⟩
  ·exact I.hok.fresh (by lia)
  ·exact I.freeC x c g
 ·intro p hp;have hp':p=(s.heap.objs.size,{ cls:=.type "list",data:=.seq #[] 0 }):=by
   have:p∈([]++[(s.heap.objs.size,({ cls:=.type "list",data:=.seq #[] 0 }:Obj))]:List (Addr×Obj)):=hp
   simpa using this
  subst hp';refine⟨k3 _ _ (k2 _ _ hD1),hDn,?_,nofs _ (qA6 _),fun v z=>by cases z⟩;show s.heap.objs.size≠s.heap.objs.size+1
  lia
 ·show(σ++qA7 k none).length=N'.length
  rw[qBq,qCk,I.len,S.len]
 ·intro b hb;obtain⟨f0,f1,f2,f3,f4,f5⟩:=hf b hb;refine⟨f0,(ok.exf b hb).1,fin b hb,.inl hb,fun x c e=>(ok.exf b hb).2 x c e,fun p hp=>?_⟩;have hp':p=(s.heap.objs.size,{ cls:=.type "list",data:=.seq #[] 0 }):=by
   have:p∈([]++[(s.heap.objs.size,({ cls:=.type "list",data:=.seq #[] 0 }:Obj))]:List (Addr×Obj)):=hp
   simpa using this
  subst hp';exact qC0 (fpl b hb)
end
theorem zCU{prog:Program}{w:World}{A:Around}{R:Result->Shared->Prop}{s:Shared}{elt target iter:Expr}{ifs:List Expr}{scope:Scope}{pos:Pos}{it acc:Value}{env:Env}(I:Nat->Shared->Prop)
  (turn:∀n s,I n s->wpAny (model prog w) A (pyNext it) (fun r s₁=>match r with
   |none=>R (.ok .next) s₁
   |some v=>wpAny (model prog w) A (letOwnedTupleGo target it v) (fun _ s₂'=>wpAny (model prog w) A (assign target env v) (fun _ s₂=>
     wpAny (model prog w) A (forIn ifs true fun c r=>if r=true then do let ok <- isTrue c env (eval c env);pure (qC2 ok)else pure (qC2 r)) (fun ok s₃=>
      if ok=true then wpAny (model prog w) A (eval elt env) (fun x s₄=>
       wpAny (model prog w) A (call (.builtin "list.append") [acc,x]) (fun _ s₅=>∃m,m<n/\I m s₅) (fun _ _=>False) s₄) (fun _ _=>False) s₃
      else ∃m,m<n/\I m s₃) (fun _ _=>False) s₂) (fun _ _=>False) s₂') (fun _ _=>False) s₁) (fun _ _=>False) s)
  (n:Nat) (h:I n s) :
  codeAny (model prog w) A (.compLoop (.ListComp elt [⟨target,iter,ifs,0⟩] scope pos) 0 it acc env) R s:=by
 refine codeAny_loop rfl I (fun n s hI=>?_) n h;show wpAny _ A ((compTurn (.ListComp elt [⟨target,iter,ifs,0⟩] scope pos) 0 it acc env).onRaise (fun x=>do noteFrame x env;theTreesLotGoes x)) _ _ s;refine wpAny_noted ?_;rw[compTurn_list];refine wpAny_bind (wpAny_standAt (wpAny_bind (wpAny_mono (turn n s hI) (fun r s₁ h₁=>?_) fun _ _ z=>z.elim)));cases r with
 |none=>exact wpAny_pure h₁
 |some v=>
  refine wpAny_bind (wpAny_mono h₁ (fun _ s₂' h₂'=>?_) fun _ _ z=>z.elim);refine wpAny_bind (wpAny_mono h₂' (fun _ s₂ h₂=>wpAny_bind (wpAny_mono h₂ (fun ok s₃ h₃=>?_) fun _ _ z=>z.elim)) fun _ _ z=>z.elim);cases ok with
  |false=>exact wpAny_pure ⟨rfl,h₃⟩
  |true=>
   exact wpAny_bind (wpAny_bind (wpAny_mono h₃ (fun x s₄ h₄=>wpAny_bind (wpAny_mono h₄ (fun _ s₅ h₅=>wpAny_pure (wpAny_pure ⟨rfl,h₅⟩)) fun _ _ z=>z.elim)) fun _ _ z=>z.elim))
def zO3(k:Nat)(g:TG)(tif:TT)(te:TE)(σ:St)(Q:VK)(J:It)(H1:Hp):Prop:=∃W:Nat->Nat->List V->Hp->Prop,(∃m,W 0 m [] H1)/\∀i m acc H,W i m acc H ->
 (J.stop i H/\∀D,H D=none->Q (.ref D) (upd H D (.lst acc))) \/
 (J.go i H/\acc.length<sizeLine/\∃N:List V->Hp->Prop,(∀acc' H',N acc' H'->∃m',m'<m/\W (i+1) m' acc' H')/\∀x H',J.yld i H x H'->g x (σ++qA7 k none) H' fun σ2 H2=>∃own:St,own.length=k/\σ2=σ++own/\tif σ2 H2 fun b H3=>if b=true then te σ2 H3 fun v H4=>N (acc++[v]) H4 else N acc H3)
noncomputable def zPB(wi:TI)(k:Nat)(g:TG)(tif:TT)(te:TE):TE:=fun σ H Q=>wi σ H (zO3 k g tif te σ Q)
theorem HOk.track{P:Program}{w:World}{H:Hp}{h:Heap}{a:Addr}{o:HO}(x:HOk P w H h)(hn:H a=none)(new:ObjOk P w (upd H a o) h a o):HOk P w (upd H a o) h:=fun b u e=>by
 by_cases hb:b=a
 ·subst hb;rw[zAD]at e;cases e;exact new
 ·rw[zA9 hb]at e;exact(x b u e).stay (fun c v _ q=>q) (fun c q=>by rw[zA9 (zAI q hn)];exact q) (fun c xs q=>by rw[zA9 (zAI q hn)];exact q) fun c _ _ q _=>by rw[zA9 (zAI q hn)];exact q
section
variable{X:Cx}{N':List Str}{k:Nat}{sc:Scope}{tg iter elt:Expr}{ifs:List Expr}{wi:TI}{g:TG}{tif:TT}{te:TE}{pos:Pos}
theorem zG2{pins:List (Addr×Obj)}{σ:St}{H2:Hp}{s2:Shared}{Q:VK}{RR:Value->Addr->Result->Shared->Prop}{E:Value->Shared->Prop}(hc:X.calm=true)(S:CompNames X.N N' k sc X.env)
  (hg:∀C s H fp,PG (zC6 X N' sc C s H fp) tg g) (hif:∀C s H fp,PTs (zC6 X N' sc C s H fp) ifs tif) (he:∀C s H fp,PE (zC6 X N' sc C s H fp) elt te)
  {it:Addr} {fp:List Addr} {tn:Nat->Heap->Prop} {J:It} (I2:Inv X pins σ H2 s2) (T:Turn X.prog X.w X.K tg J fp it tn) (st2:tn 0 s2.heap) (f2:∀b∈fp,FpOk X pins H2 b)
  {W:Nat->Nat->List V->Hp->Prop} {m0:Nat} (w0:W 0 m0 [] H2)
  (turn:∀i m acc H,W i m acc H->(J.stop i H/\∀D,H D=none->Q (.ref D) (upd H D (.lst acc))) \/
   (J.go i H/\acc.length<sizeLine/\∃N:List V->Hp->Prop,(∀acc' H',N acc' H'->∃m',m'<m/\W (i+1) m' acc' H')/\∀x H',J.yld i H x H'->g x (σ++qA7 k none) H' fun σ2 H2=>∃own:St,own.length=k/\σ2=σ++own/\tif σ2 H2 fun b H3=>if b=true then te σ2 H3 fun v H4=>N (acc++[v]) H4 else N acc H3))
  (hRR:∀D C s' H',D<C->s2.heap.objs.size<=D->(∃m,s'.heap.Ns C m)->H' C=none->C∉frs X.stack->Inv X pins σ H' s'->Q (.ref D) H'->RR (.ref D) C (.ok .next) s') :
  wpAny (model X.prog X.w) X.A (newList []) (fun acc s₃=>wpAny (model X.prog X.w) X.A (newFunctionEnv sc X.env.globals (clos X.env.cells sc.names []) [] X.env.qual none .none (some X.env)) (fun cenv s₄=>
   codeAny (model X.prog X.w) X.A (.compStart (.ListComp elt [⟨tg,iter,ifs,0⟩] sc pos) 0 (.ref it) acc { cenv with scope:=relabel sc X.env }) (RR acc cenv.locals) s₄) E s₃) E s2:=by
 refine wpAny_newObj_type (zD6 ?_);show codeAny _ _ (.compStart _ 0 (.ref it) (.ref s2.heap.objs.size) _) _ _;have szp:(s2.heap.push { cls:=.type "list",dict:=none,data:=.seq ([]:List Value).toArray }).objs.size=s2.heap.objs.size+1:=Heap.size_push ..;obtain⟨I4,F4⟩:=zNF (s4:={ s2 with heap:=pushCells ((s2.heap.push { cls:=.type "list",data:=.seq #[] 0 }).push { cls:=.type "dict",data:=.dict #[] }) sc.names }) I2 hc S f2 (fun b hb=>let⟨o,e,_⟩:=T.obj 0 _ st2 b hb;⟨o,e⟩) rfl rfl rfl
 generalize hC:(s2.heap.push { cls:=.type "list",dict:=none,data:=.seq ([]:List Value).toArray }).objs.size=C at *
 have eC:C=s2.heap.objs.size+1:=szp;rw[<- eC]at I4 F4
 generalize hs4:({ s2 with heap:=pushCells ((s2.heap.push { cls:=.type "list",data:=.seq #[] 0 }).push { cls:=.type "dict",data:=.dict #[] }) sc.names }:Shared)=s4 at I4 F4
 have kk:∀b o,s2.heap.get? b=some o->s4.heap.get? b=some o:=fun b o e=>by
  rw[<- hs4];exact pushCells_keeps sc.names _ b o (Heap.get?_push_of_some _ (Heap.get?_push_of_some _ e))
 have st4:tn 0 s4.heap:=T.keep 0 _ _ st2 fun b _ o e=>kk b o e
 generalize hX':zC6 X N' sc C s2 H2 fp=X' at I4 F4
 have henv:X'.env=zCR sc C X.env:=by rw[<- hX'];rfl
 have xprog:X'.prog=X.prog:=by rw[<- hX'];rfl
 have xw:X'.w=X.w:=by rw[<- hX'];rfl
 have xK:X'.K=X.K:=by rw[<- hX'];rfl
 have xcalm:X'.calm=true:=by rw[<- hX'];exact hc
 have xA:X'.A=X.A:=by rw[<- hX'];rfl
 have xpn:X'.pn=[]:=by rw[<- hX'];rfl
 have xxe:X'.xe=fun _ _=>False:=by rw[<- hX'];rfl
 have xs0:X'.s₀=s2:=by rw[<- hX'];rfl
 have xH0:X'.H₀=H2:=by rw[<- hX'];rfl
 have xfs:X'.fs=frs X.stack:=by rw[<- hX'];rfl
 have xex:X'.ex=fp:=by rw[<- hX'];rfl
 have hgX:PG X' tg g:=by rw[<- hX'];exact hg C s2 H2 fp
 have hifX:PTs X' ifs tif:=by rw[<- hX'];exact hif C s2 H2 fp
 have heX:PE X' elt te:=by rw[<- hX'];exact he C s2 H2 fp
 have locC:X'.env.locals=C:=by rw[henv];rfl
 generalize hDd:s2.heap.objs.size=D at *
 have loop:codeAny (model X.prog X.w) X.A (.compLoop (.ListComp elt [⟨tg,iter,ifs,0⟩] sc pos) 0 (.ref it) (.ref D) (zCR sc C X.env)) (RR (.ref D) C) s4:=by
  refine zCU (fun n s'=>∃i H' acc its nn,Inv X' [] (σ++qA7 k none) H' s'/\tn i s'.heap/\(∀b∈fp,H' b=none)/\H' D=none/\W i n acc H'/\acc.length<=sizeLine/\Vals acc its/\s'.heap.get? D=some { cls:=.type "list",data:=.seq its.toArray nn }) ?_ m0 ?_
  ·rintro n s5 ⟨i,H5,acc,its,nn,I5,st5,fr5,hD5,w5,hz5,rv5,hL5⟩
   have hDlt:D<C:=by rw[eC];exact qCq _
   have pinD:Inv X' [(D,{ cls:=.type "list",data:=.seq its.toArray nn })] (σ++qA7 k none) H5 s5:=I5.pins_of fun p hp=>by
    have hp':p=(D,{ cls:=.type "list",data:=.seq its.toArray nn }):=by simpa using hp
    subst hp';refine⟨hL5,hD5,?_,?_,fun v z=>by cases z⟩
    ·rw[locC];exact qAn hDlt
    ·have q:=(I4.pin (D,{ cls:=.type "list",data:=.seq #[] 0 }) (by simp)).2.2.2.1;exact q
   have fpD:∀{H':Hp}{oo:Obj},(∀b∈fp,H' b=none)->∀b∈fp,FpOk X' [(D,oo)] H' b:=fun{H' oo} hn b hb=>by
    obtain⟨f0,f1,f2,f3,f4,f5⟩:=F4 b hb;refine⟨hn b hb,f1,f2,f3,f4,fun p hp=>?_⟩;have hp':p=(D,oo):=by
     rw[xpn]at hp
     simpa using hp
    subst hp';exact f5 (D,{ cls:=.type "list",data:=.seq #[] 0 }) (by simp)
   rcases turn i n acc H5 w5 with⟨stop,q⟩|⟨go,hlt,N,hN,step⟩
   ·have dn:=T.done X' xprog xw xK xcalm i _ s5 _ H5 (fun _ _=>False) pinD (fpD fr5) st5 stop;rw[xA]at dn;refine thn dn fun r s6 z0=>?_
    obtain⟨hr,I6⟩:=z0;subst hr;show RR (.ref D) C (.ok .next) s6;have hL6:=(I6.pin (D,{ cls:=.type "list",data:=.seq its.toArray nn }) (by simp)).1;have un6:Un (frs X.stack) fp H2 H5 s2.heap s6.heap:=by
     have:=I6.base
     rw[xs0,xH0,xfs,xex]at this;exact this
    have hok6:HOk X.prog X.w H5 s6.heap:=by
     have:=I6.hok
     rw[xprog,xw]at this;exact this
    have hDno:s2.heap.get? D=none:=Heap.get?_none_of_le (by rw[hDd];exact qA6 _);have un7:Un (frs X.stack) fp H2 (upd H5 D (.lst acc)) s2.heap s6.heap:=
     ⟨un6.keep,un6.slot,fun b o e n hx=>by
       have hb:b≠D:=by rintro rfl;rw[hDno]at e;cases e
       rw[zA9 hb];exact un6.free b o e n hx,un6.there,
      fun b xs e=>by
       have e':=un6.tups b xs e;rw[zA9 (zAI e' hD5)];exact e',
      fun b o u e=>by
       have e':=un6.frzs b o u e;rw[zA9 (zAI e' hD5)];exact e',
      fun b ps e=>by
       obtain⟨more,e'⟩:=un6.tbls b ps e;exact⟨more,by rw[zA9 (zAI e' hD5)];exact e'⟩⟩
    have hok7:HOk X.prog X.w (upd H5 D (.lst acc)) s6.heap:=hok6.track hD5 ⟨hz5,its,nn,rv5,hL6⟩;have os6:s6.os=s2.os:=by have:=I6.os;rw[xs0]at this;exact this
    have I7:Inv X pins σ (upd H5 D (.lst acc)) s6:=I2.call' os6 un7 hok7 I6.bare fun b hb=>by
     obtain⟨f0,f1,f2,f3,f4,f5⟩:=f2 b hb;exact⟨f3,f1,f4,f5⟩
    obtain⟨mm,hn,_⟩:=I6.loc;rw[locC]at hn;have hC5:H5 C=none:=by have:=I6.free;rw[locC]at this;exact this
    refine hRR D C s6 (upd H5 D (.lst acc)) hDlt (qA6 _) ⟨mm,hn⟩ ?_ ?_ I7 (q D hD5)
    ·rw[zA9 (qC0 hDlt)];exact hC5
    ·intro hb
     rcases qAa.mp (I2.stkSub C hb)with e|hb
     ·have t1:=asN I2.lt;have t2:=asE e;rw[hDd]at t1;have t3:=asN hDlt
      lia
     ·exact I2.nofs (by rw[hDd];exact qBu hDlt) hb
   ·have itm:=T.item X' xprog xw xK xcalm i _ s5 _ H5 (fun _ _=>False) pinD (fpD fr5) st5 go;rw[xA]at itm;refine thn itm fun r s6 z0=>?_
    obtain⟨u,hr,h6⟩:=z0;subst hr;refine thn h6 fun _ s7 z0=>?_
    obtain⟨x,H7,I7,r7,y7,st7,fr7⟩:=z0;have I7':Inv X' ([(D,{ cls:=.type "list",data:=.seq its.toArray nn })]++zFT fp s7.heap) (σ++qA7 k none) H7 s7:=I7.pinned (fpD fr7) (T.obj _ _ st7);have asg:=hgX _ s7 _ H7 x u _ I7' r7 (step x H7 y7);rw[xprog,xw,xA,henv,xxe]at asg;refine thn asg fun _ s8 z0=>?_
    obtain⟨σ8,H8,I8,own,hown,hσ8,q8⟩:=z0;have weak:∀{pl:List (Addr×Obj)}{H':Hp}{s':Shared},Inv X' pl σ8 H' s'->Inv X' [] (σ++qA7 k none) H' s':=fun{pl H' s'} J'=>by
     have J0:Inv X' [] σ8 H' s':=J'.pins_of (fun p hp=>by simp at hp);refine J0.weak (by rw[hσ8];simp[hown]) fun j v hj=>?_
     rw[hσ8]
     by_cases hjl:j<σ.length
     ·rw[qAc hjl]at hj ⊢;exact hj
     ·rw[qA9 (by lia),qBn]at hj
      split at hj<;>cases hj
    have tst:=hifX _ s8 σ8 H8 _ I8 q8;rw[xprog,xw,xA,henv,xxe]at tst;refine thn tst fun b s9 z0=>?_
    obtain⟨H9,I9,q9⟩:=z0;have pin9:∀{σ':St}{H':Hp}{s':Shared},Inv X' ([(D,{ cls:=.type "list",data:=.seq its.toArray nn })]++zFT fp s7.heap) σ' H' s' ->
      s'.heap.get? D=some { cls:=.type "list",data:=.seq its.toArray nn }/\H' D=none/\tn (i+1) s'.heap/\(∀b∈fp,H' b=none):=fun{σ' H' s'} J'=>by
     have a1:=J'.pin (D,{ cls:=.type "list",data:=.seq its.toArray nn }) (by simp);refine⟨a1.1,a1.2.1,T.keep _ _ _ st7 fun b hb o e=>(J'.pin (b,o) (qAr _ (qAr _ (zCP hb e)))).1,fun b hb=>?_⟩;obtain⟨o,e,d⟩:=T.obj _ _ st7 b hb;exact(J'.pin (b,o) (qAr _ (qAr _ (zCP hb e)))).2.1
    cases b with
    |false=>
     rw[if_neg qAb];rw[if_neg qAb]at q9;obtain⟨m',hm,w9⟩:=hN _ _ q9;obtain⟨p1,p2,p3,p4⟩:=pin9 I9;exact⟨m',hm,i+1,H9,acc,its,nn,weak I9,p3,p4,p2,w9,hz5,rv5,p1⟩
    |true=>
     rw[if_pos rfl];rw[if_pos rfl]at q9;have ev:=heX _ s9 σ8 H9 _ I9 q9;rw[xprog,xw,xA,henv,xxe]at ev;refine thn ev fun y s10 z0=>?_
     obtain⟨v,H10,I10,r10,n10⟩:=z0;obtain⟨m',hm,w10⟩:=hN _ _ n10;obtain⟨p1,p2,p3,p4⟩:=pin9 I10;have hlen:its.length=acc.length:=rv5.length.symm;refine wpAny_list_append_plain (items:=its.toArray) ⟨nn,p1⟩ (fun h' hl' hs'=>?_) (by simp only[qAh];lia);have hDfp:D∉fp:=fun hb=>(F4 D hb).2.2.2.2.2 (D,{ cls:=.type "list",data:=.seq #[] 0 }) (by simp) rfl
     have I11:Inv X' [] (σ++qA7 k none) H10 { s10 with heap:=h' }:=by
      have J0:Inv X' [] (σ++qA7 k none) H10 s10:=weak I10;refine J0.turned (t':=s10.toks) (it:=D) (fun b o hb e=>(hs'.2 b hb).trans e) p2 ?_ (.inr ?_) (fun x c e z=>?_) (fun p hp=>?_)
      ·rw[locC];exact qAn hDlt
      ·rw[xs0,hDd];exact qA6 _
      ·obtain⟨v',q⟩:=J0.cell x c e;obtain⟨o,ho,hd⟩:=q;rw[z,p1]at ho;cases ho;cases hd
      ·rw[xpn]at hp;simp at hp
     obtain⟨n',hk⟩:=hl';have hk':h'.get? D=some { cls:=.type "list",data:=.seq (its++[y]).toArray n' }:=by rw[hk];simp
     refine⟨m',hm,i+1,H10,acc++[v],its++[y],n',I11,T.keep _ _ _ p3 fun b hb o e=>(hs'.2 b (fun z=>hDfp (z▸hb))).trans e,p4,p2,w10,?_,rv5.append (.cons r10 .nil),hk'⟩;rw[qBq,qDo]
     lia
  ·refine⟨0,H2,[],[],0,I4.pins_of (fun p hp=>by simp at hp),st4,fun b hb=>(f2 b hb).1,I2.hok.fresh (by rw[hDd];exact qA6 _),w0,qB8 _,.nil,?_⟩;exact(I4.pin (D,{ cls:=.type "list",data:=.seq #[] 0 }) (by simp)).1
 exact codeAny_compStart_list loop (T.self _ 0 _ _ _ st4 loop)
theorem zLB(hc:X.calm=true)(S:CompNames X.N N' k sc X.env)(hi:PI X tg iter wi)
  (hg:∀C s H fp,PG (zC6 X N' sc C s H fp) tg g) (hif:∀C s H fp,PTs (zC6 X N' sc C s H fp) ifs tif) (he:∀C s H fp,PE (zC6 X N' sc C s H fp) elt te)
  (hs:∀x,foldedSetIterable iter X.env x=pure x:=by intro _;rfl):PE X (.ListComp elt [⟨tg,iter,ifs,0⟩] sc pos) (zPB wi k g tif te):=by
 intro pins s σ H Q I h;rw[eval_ListComp];have hfree:∀x,(x,NameKind.free)∈sc.names->∃c,X.env.cells.lookup x=some c:=fun x hx=>I.ok.has x (S.free x hx)
 refine wpAny_comprehension_free (use:=none) rfl hs (zDE hfree) S.kind (fun x hx hl=>?_) ?_
 ·obtain⟨n,kd⟩:=x;dsimp only at hl ⊢;subst hl;exact zBG S.nd hx
 ·refine thn (hi pins s σ H _ I h) fun v s1 h1=>thn h1 fun itv s2 h2=>?_
  obtain⟨it,fp,tn,J,H2,e,I2,T,st2,f2,W,⟨m0,w0⟩,turn⟩:=h2;subst e;refine zG2 (RR:=fun acc C=>compPost (model X.prog X.w) X.A X.xe none (EP X pins σ Q) acc C) hc S hg hif he I2 T st2 f2 w0 turn ?_;intro D C s' H' hDC hD hn hCn hCf I' q;obtain⟨m,hn⟩:=hn;refine⟨m,hn,fun h' hs'=>⟨.ref D,H',?_,rfl,q⟩⟩;have hCb:s2.heap.objs.size<=C:=qBu (qE5 hD hDC);refine I'.turned (t':=s'.toks) (it:=C) (fun b o hb e=>(hs'.2 b hb).trans e) hCn ?_ (.inr (qAm I2.sz hCb)) (fun x c e z=>?_) (fun p hp z=>?_)
  ·exact qC0 (qA8 I2.lt hCb)
  ·obtain⟨v,q⟩:=I2.cell x c e;exact absurd z (qAn (qA8 q.lt hCb))
  ·exact absurd z (qAn (qA8 (Heap.lt_size (I2.pin p hp).1) hCb))
theorem zFS{i:Nat}{x:Str}{pos' spos:Pos}(hN:X.N.Nodup)(hi':X.N[i]?=some x)(hx:Loc X.env.scope x)(hc:X.calm=true)(S:CompNames X.N N' k sc X.env)(hi:PI X tg iter wi)
  (hg:∀C s H fp,PG (zC6 X N' sc C s H fp) tg g) (hif:∀C s H fp,PTs (zC6 X N' sc C s H fp) ifs tif) (he:∀C s H fp,PE (zC6 X N' sc C s H fp) elt te)
  (hsw:swapsWith (.ListComp elt [⟨tg,iter,ifs,0⟩] sc pos) (some (.Name x pos')) spos.line X.env=pure true:=by rfl)
  (hs:∀x,foldedSetIterable iter X.env x=pure x:=by intro _;rfl) (hf:X.fn x=true\/X.env.scope.names.lookup x=some .local:=by first|exact .inl rfl|exact .inr rfl|assumption) :
  PS X (.Assign [.Name x pos'] (.ListComp elt [⟨tg,iter,ifs,0⟩] sc pos) spos) (tAsg (zPB wi k g tif te) (zGU i)):=by
 intro pins s σ H Dn I h;rw[exec_Assign_Name_used _ _ _ _ hsw];refine wpAny_bind (wpAny_standAt (wpAny_bind ?_));show wpAny _ X.A (do let _ <- comprehension (.ListComp elt [⟨tg,iter,ifs,0⟩] sc pos) sc X.env _ (newList []) false (eval iter X.env) (some (assign (.Name x pos') X.env))) _ _ s;have hfree:∀x,(x,NameKind.free)∈sc.names->∃c,X.env.cells.lookup x=some c:=fun x hx=>I.ok.has x (S.free x hx)
 refine wpAny_bind (wpAny_mono (wpAny_comprehension_free (use:=some (assign (.Name x pos') X.env)) (Q:=fun _ s'=>SP X pins Dn .next s') rfl hs (zDE hfree) S.kind (fun x hx hl=>?_) ?_)
  (fun _ s' hq=>wpAny_pure (wpAny_pure hq)) fun _ _ e=>e)
 ·obtain⟨n,kd⟩:=x;dsimp only at hl ⊢;subst hl;exact zBG S.nd hx
 ·refine thn (hi pins s σ H _ I h) fun v s1 h1=>thn h1 fun itv s2 h2=>?_
  obtain⟨it,fp,tn,J,H2,e,I2,T,st2,f2,W,⟨m0,w0⟩,turn⟩:=h2;subst e;refine zG2 (Q:=fun v H'=>zGU i v σ H' Dn.nx) (RR:=fun acc C=>compPost (model X.prog X.w) X.A X.xe (some (assign (.Name x pos') X.env)) (fun _ s'=>SP X pins Dn .next s') acc C) hc S hg hif he I2 T st2 f2 w0 turn ?_;intro D C s' H' hDC hD hn hCn hCf I' q;obtain⟨m,hn⟩:=hn;show wpAny _ _ (assign (.Name x pos') X.env (.ref D)) _ _ _;have hCb:s2.heap.objs.size<=C:=qBu (qE5 hD hDC);have hCL:C≠X.env.locals:=qC0 (qA8 I2.lt hCb);have hCc:∀x c,X.env.cells.lookup x=some c->c≠C:=fun x c e z=>by
   obtain⟨v,q⟩:=I2.cell x c e;exact absurd z (qAn (qA8 q.lt hCb))
  refine wpAny_assign_Name (zHB (v:=.ref D) I' hN hi' hx rfl (fun s'' I'' ⟨a,sb,ha⟩=>?_) hf);have hCa:C≠a:=by
   rcases ha with e|e
   ·rw[e];exact hCL
   ·exact fun z=>hCc x a e z.symm
  refine⟨m,hn.sameBut sb hCa,fun h' hs'=>⟨_,H',?_,q⟩⟩;refine I''.turned (t':=s''.toks) (it:=C) (fun b o hb e=>(hs'.2 b hb).trans e) hCn hCL (.inr (qAm I2.sz hCb)) hCc (fun p hp z=>?_);exact absurd z (qAn (qA8 (Heap.lt_size (I2.pin p hp).1) hCb))
theorem zDM{lo:Int}{n:Nat}{σ:St}{H:Hp}{Q:VK}(Pv:Nat->List V->Hp->Prop)(h0:Pv 0 [] H)(hz:∀i acc H,i<n->Pv i acc H->acc.length<sizeLine)
  (hs:∀i acc H,i<n->Pv i acc H->g (.int (lo+i)) (σ++qA7 k none) H fun σ2 H2=>∃own:St,own.length=k/\σ2=σ++own/\tif σ2 H2 fun b H3=>if b=true then te σ2 H3 fun v H4=>Pv (i+1) (acc++[v]) H4 else Pv (i+1) acc H3)
  (hd:∀acc H,Pv n acc H->∀D,H D=none->Q (.ref D) (upd H D (.lst acc))) :
  zO3 k g tif te σ Q (Itr lo n) H:=by
 refine⟨fun i m acc H=>m=n-i/\i<=n/\Pv i acc H,⟨n,by simp,qB8 _,h0⟩,?_⟩
 rintro i m acc H ⟨rfl,hi,p⟩
 by_cases hlt:i<n
 ·refine .inr ⟨hlt,hz i acc H hlt p,Pv (i+1),fun acc' H' p'=>⟨n-(i+1),by lia,rfl,hlt,p'⟩,fun x H' y=>?_⟩;obtain⟨e,y⟩:=y;subst e y;exact hs i acc _ hlt p
 ·have e:i=n:=by lia
  subst e;exact .inl ⟨qA6 _,hd acc H p⟩
def zKV(g:TG)(tb:TS)(D:Ends)(σ:St)(J:It)(H1:Hp):Prop:=∃W:Nat->Nat->St->Hp->Prop,(∃m,W 0 m σ H1)/\∀i m σ H,W i m σ H ->
 (J.stop i H/\D.nx σ H)\/(J.go i H/\∃N:St->Hp->Prop,(∀σ' H',N σ' H'->∃m',m'<m/\W (i+1) m' σ' H')/\∀x H',J.yld i H x H'->g x σ H' fun σ2 H2=>tb { D with nx:=N,ct:=N,bk:=D.nx } σ2 H2)
theorem zBS{body:List Stmt}{tb:TS}(hp:PassesOwn (model X.prog X.w) X.A X.env X.xe)(hc:X.calm=true)(hi:PI X tg iter wi)(hg:PG X tg g)(hb:PSs X body tb)
  (hs:∀x,foldedSetIterable iter X.env x=pure x:=by intro _;rfl):PS X (.For tg iter body [] pos) (fun D σ H=>wi σ H (zKV g tb D σ)):=zRR hp hc hi hg hb hs
end
end L2
namespace L2
open PySem PySem.Spec PyProof.Rows
inductive Dat where
 |non|bl (b:Bool)|int (i:Int)|str (x:Str)|lst (xs:List Dat)|tup (xs:List Dat)
mutual
def Dat.dep:Dat->Nat
 |.lst xs=>Dat.depL xs+1
 |.tup xs=>Dat.depL xs+1
 |_=>0
def Dat.depL:List Dat->Nat
 |[]=>0
 |x::r=>max x.dep (Dat.depL r)
end
mutual
def Dat.eq:Dat->Dat->Bool
 |.non,.non=>true
 |.bl a,.bl b=>a==b
 |.bl a,.int b=>(if a then 1 else 0)==b
 |.int a,.bl b=>a==(if b then 1 else 0)
 |.int a,.int b=>a==b
 |.str a,.str b=>a==b
 |.lst xs,.lst ys=>Dat.eqL xs ys
 |.tup xs,.tup ys=>Dat.eqL xs ys
 |_,_=>false
def Dat.eqL:List Dat->List Dat->Bool
 |[],[]=>true
 |x::r,y::q=>Dat.eq x y&&Dat.eqL r q
 |_,_=>false
end
mutual
def Rep(H:Hp):Dat->V->Prop
 |.non,v=>v=.non
 |.bl b,v=>v=.bl b
 |.int i,v=>v=.int i
 |.str x,v=>v=.str x
 |.lst ds,v=>∃a xs,v=.ref a/\H a=some (.lst xs)/\RepL H ds xs
 |.tup ds,v=>∃a xs,v=.ref a/\H a=some (.tup xs)/\RepL H ds xs
def RepL(H:Hp):List Dat->List V->Prop
 |[],xs=>xs=[]
 |d::r,xs=>∃x q,xs=x::q/\Rep H d x/\RepL H r q
end
mutual
theorem Rep.mono{H H':Hp}(s:Same H H'):∀{d:Dat}{v:V},Rep H d v->Rep H' d v
 |.non,_,h=>h
 |.bl _,_,h=>h
 |.int _,_,h=>h
 |.str _,_,h=>h
 |.lst _,_,h=>by obtain⟨a,xs,e,e',r⟩:=h;exact⟨a,xs,e,s _ _ e',RepL.mono s r⟩
 |.tup _,_,h=>by obtain⟨a,xs,e,e',r⟩:=h;exact⟨a,xs,e,s _ _ e',RepL.mono s r⟩
theorem RepL.mono{H H':Hp}(s:Same H H'):∀{ds:List Dat}{xs:List V},RepL H ds xs->RepL H' ds xs
 |[],_,h=>h
 |_::_,_,h=>by obtain⟨x,q,e,r,t⟩:=h;exact⟨x,q,e,Rep.mono s r,RepL.mono s t⟩
end
mutual
theorem Rep.inj{H:Hp}:∀{d e:Dat}{v:V},Rep H d v->Rep H e v->d=e
 |.non,e,v,h,h'=>by cases h;cases e<;>first|rfl|(cases h';done)|(obtain⟨a,xs,z,_⟩:=h';cases z)
 |.bl b,e,v,h,h'=>by cases h;cases e<;>first|(cases h';rfl)|(cases h';done)|(obtain⟨a,xs,z,_⟩:=h';cases z)
 |.int b,e,v,h,h'=>by cases h;cases e<;>first|(cases h';rfl)|(cases h';done)|(obtain⟨a,xs,z,_⟩:=h';cases z)
 |.str b,e,v,h,h'=>by cases h;cases e<;>first|(cases h';rfl)|(cases h';done)|(obtain⟨a,xs,z,_⟩:=h';cases z)
 |.lst ds,e,v,h,h'=>by
  obtain⟨a,xs,rfl,ha,q⟩:=h;cases e with
  |lst es=>
   obtain⟨b,ys,z,hb,q'⟩:=h';cases z;rw[ha]at hb;cases hb;rw[RepL.inj q q']
  |tup es=>
   obtain⟨b,ys,z,hb,q'⟩:=h';cases z;rw[ha]at hb;cases hb
  |_=>cases h'
 |.tup ds,e,v,h,h'=>by
  obtain⟨a,xs,rfl,ha,q⟩:=h;cases e with
  |tup es=>
   obtain⟨b,ys,z,hb,q'⟩:=h';cases z;rw[ha]at hb;cases hb;rw[RepL.inj q q']
  |lst es=>
   obtain⟨b,ys,z,hb,q'⟩:=h';cases z;rw[ha]at hb;cases hb
  |_=>cases h'
theorem RepL.inj{H:Hp}:∀{ds es:List Dat}{xs:List V},RepL H ds xs->RepL H es xs->ds=es
 |[],[],_,_,_=>rfl
 |[],_::_,_,h,h'=>by cases h;obtain⟨x,q,e,_⟩:=h';cases e
 |_::_,[],_,h,h'=>by cases h';obtain⟨x,q,e,_⟩:=h;cases e
 |d::r,e::t,_,h,h'=>by
  obtain⟨x,q,rfl,r1,t1⟩:=h;obtain⟨x',q',z,r2,t2⟩:=h';cases z;rw[Rep.inj r1 r2,RepL.inj t1 t2]
end
mutual
theorem Dat.eq_refl:∀d:Dat,Dat.eq d d=true
 |.non=>by simp[Dat.eq]
 |.bl _=>by simp[Dat.eq]
 |.int _=>by simp[Dat.eq]
 |.str _=>by simp[Dat.eq]
 |.lst xs=>by rw[Dat.eq];exact Dat.eqL_refl xs
 |.tup xs=>by rw[Dat.eq];exact Dat.eqL_refl xs
theorem Dat.eqL_refl:∀ds:List Dat,Dat.eqL ds ds=true
 |[]=>by simp[Dat.eqL]
 |d::r=>by rw[Dat.eqL,Dat.eq_refl d,Dat.eqL_refl r];rfl
end
theorem RepL.length{H:Hp}:∀{ds:List Dat}{xs:List V},RepL H ds xs->xs.length=ds.length
 |[],_,h=>by cases h;rfl
 |_::_,_,h=>by obtain⟨x,q,e,r,t⟩:=h;subst e;simp[RepL.length t]
theorem Dat.eqL_len:∀{xs ys:List Dat},xs.length≠ys.length->Dat.eqL xs ys=false
 |[],[],h=>absurd rfl h
 |[],_::_,_=>by simp[Dat.eqL]
 |_::_,[],_=>by simp[Dat.eqL]
 |x::r,y::q,h=>by
  rw[Dat.eqL,Dat.eqL_len (fun e=>h (by simp[e])),qCj]
theorem Dat.eqL_all:∀{xs ys:List Dat},xs.length=ys.length->∀(e:Nat->Bool),(∀j (h1:j<xs.length) (h2:j<ys.length),e j=Dat.eq xs[j] ys[j])->(qAg xs.length).all e=Dat.eqL xs ys
 |[],[],_,_,_=>by simp[Dat.eqL]
 |[],_::_,h,_,_=>by simp at h
 |_::_,[],h,_,_=>by simp at h
 |x::r,y::q,h,e,he=>by
  have hl:r.length=q.length:=by simpa using h
  rw[qAv,qDl,qDb,Dat.eqL,he 0 (by simp) (by simp)]
  have:=Dat.eqL_all (xs:=r) (ys:=q) hl (fun j=>e (j+1)) (fun j h1 h2=>by
   rw[he (j+1) (by simpa using h1) (by simpa using h2)];simp)
  rw[<- this,List.all_map];rfl
theorem RepL.get{H:Hp}:∀{ds:List Dat}{xs:List V}{i:Nat}{x:V},RepL H ds xs->xs[i]?=some x->∃d,ds[i]?=some d/\Rep H d x
 |[],_,_,_,h,e=>by cases h;simp at e
 |d::_,_,0,_,h,e=>by obtain⟨x,q,e1,r,t⟩:=h;subst e1;simp at e;subst e;exact⟨d,rfl,r⟩
 |_::_,_,i+1,_,h,e=>by
  obtain⟨x,q,e1,r,t⟩:=h;subst e1;obtain⟨d',h1,h2⟩:=RepL.get (i:=i) t (by simpa using e);exact⟨d',by simpa using h1,h2⟩
theorem Dat.depL_mem{d:Dat}:∀{ds:List Dat},d∈ds->d.dep<=Dat.depL ds
 |_::_,h=>by
  rw[Dat.depL]
  rcases qAa.mp h with rfl|h
  ·exact qEv _ _
  ·exact qAm (Dat.depL_mem h) (Nat.le_max_right _ _)
section
variable{P:Program}{w:World}{H:Hp}
theorem zCL(A:Around):A.in1.units=A.units+1:=rfl
theorem zAS{s:Shared}{a:Addr}{xs:List V}(ok:HOk P w H s.heap)(h:H a=some (.lst xs)):∃its:List Value,Vals xs its/\s.heap.IsList a its.toArray:=by
 obtain⟨_,its,n,r,e⟩:=ok a _ h;exact⟨its,r,⟨_,e,rfl,n,rfl⟩⟩
theorem zB5{s:Shared}{a:Addr}{xs:List V}(ok:HOk P w H s.heap)(h:H a=some (.tup xs)):∃its:List Value,Vals xs its/\s.heap.IsTuple a its.toArray:=by
 obtain⟨_,its,r,e⟩:=ok a _ h;exact⟨its,r,e⟩
theorem Rep.flat{d:Dat}{v:V}(h:Rep H d v)(hf:d.dep=0):zDL v=true:=by
 cases d with
 |non=>cases h;rfl
 |bl _=>cases h;rfl
 |int _=>cases h;rfl
 |str _=>cases h;rfl
 |lst _=>simp[Dat.dep]at hf
 |tup _=>simp[Dat.dep]at hf
theorem Rep.flatEq{d e:Dat}{v u:V}(h:Rep H d v)(h':Rep H e u)(hf:d.dep=0)(hf':e.dep=0):eqV v u=Dat.eq d e:=by
 cases d<;>cases e<;>first
  |(simp[Dat.dep]at hf;done)
  |(simp[Dat.dep]at hf';done)
  |(cases h;cases h';simp[eqV,Dat.eq];done)
theorem zNR:∀(n:Nat){d e:Dat}{v u:V}{x y:Value}{A:Around}{s:Shared},d.dep<=n->HOk P w H s.heap->Rep H d v->Rep H e u->RelV v x->RelV u y->A.units+n<cLine->SeqAt.EqAt A s x y (Dat.eq d e):=by
 intro n
 induction n with
 |zero=>
  intro d e v u x y A s hd ok h1 h2 r1 r2 hu;have f1:=h1.flat (by lia)
  by_cases he:e.dep=0
  ·have f2:=h2.flat he
   have:=zOT (A:=A) (s:=s) r1 r2 f1 f2
   rw[h1.flatEq h2 (by lia) he]at this;exact this
  ·have hu':A.units<cLine:=by lia
   cases e with
   |lst ys=>
    obtain⟨a,xs,rfl,ha,_⟩:=h2;obtain⟨its,_,hl⟩:=zAS ok ha;cases r2;cases d with
    |non=>cases h1;cases r1;exact SeqAt.EqAt.none_list hl hu'
    |bl b=>cases h1;cases r1;exact SeqAt.EqAt.bool_list b hl hu'
    |int i=>cases h1;obtain⟨t,rfl⟩:=r1;exact SeqAt.EqAt.int_list i t hl hu'
    |str z=>cases h1;obtain⟨t,rfl⟩:=r1;exact SeqAt.EqAt.str_list z t hl hu'
    |lst _=>simp[Dat.dep]at hd
    |tup _=>simp[Dat.dep]at hd
   |tup ys=>
    obtain⟨a,xs,rfl,ha,_⟩:=h2;obtain⟨its,_,hl⟩:=zB5 ok ha;cases r2;cases d with
    |non=>cases h1;cases r1;exact SeqAt.EqAt.none_tuple hl hu'
    |bl b=>cases h1;cases r1;exact SeqAt.EqAt.bool_tuple b hl hu'
    |int i=>cases h1;obtain⟨t,rfl⟩:=r1;exact SeqAt.EqAt.int_tuple i t hl hu'
    |str z=>cases h1;obtain⟨t,rfl⟩:=r1;exact SeqAt.EqAt.str_tuple z t hl hu'
    |lst _=>simp[Dat.dep]at hd
    |tup _=>simp[Dat.dep]at hd
   |_=>simp[Dat.dep]at he
 |succ n ih=>
  intro d e v u x y A s hd ok h1 h2 r1 r2 hu
  by_cases hd0:d.dep<=n
  ·exact ih hd0 ok h1 h2 r1 r2 (by lia)
  have hu':A.units<cLine:=by lia
  have pairs:∀{ds es:List Dat}{xs ys:List V}{its its2:List Value},Dat.depL ds<=n->RepL H ds xs->RepL H es ys->Vals xs its->Vals ys its2->∀j (h1:j<its.toArray.size) (h2:j<its2.toArray.size),
    SeqAt.EqAt A.in1 s its.toArray[j] its2.toArray[j] (Dat.eq (ds.getD j .non) (es.getD j .non)):=by
   intro ds es xs ys its its2 hdl q1 q2 v1 v2 j j1 j2;have l1:j<xs.length:=by have:=v1.length;simp at j1;lia
   have l2:j<ys.length:=by have:=v2.length;simp at j2;lia
   obtain⟨d',e1,p1⟩:=q1.get (i:=j) (x:=xs[j]) (by simp[l1]);obtain⟨e',e2,p2⟩:=q2.get (i:=j) (x:=ys[j]) (by simp[l2]);obtain⟨w1,g1,z1⟩:=v1.get (i:=j) (x:=xs[j]) (by simp[l1]);obtain⟨w2,g2,z2⟩:=v2.get (i:=j) (x:=ys[j]) (by simp[l2]);have k1:its.toArray[j]=w1:=by
    obtain⟨_,k⟩:=qA2.mp g1
    simpa using k
   have k2:its2.toArray[j]=w2:=by
    obtain⟨_,k⟩:=qA2.mp g2
    simpa using k
   rw[k1,k2,qA5,qA5,e1,e2];exact ih (qAm (Dat.depL_mem (qBb e1)) hdl) ok p1 p2 z1 z2 (by rw[zCL];lia)
  cases d with
  |lst ds=>
   have hdl:Dat.depL ds<=n:=by rw[Dat.dep]at hd;lia
   obtain⟨a,xs,rfl,ha,q1⟩:=h1;obtain⟨its,v1,hl1⟩:=zAS ok ha;cases r1;cases e with
   |non=>cases h2;cases r2;exact SeqAt.EqAt.list_none hl1 hu'
   |bl b=>cases h2;cases r2;exact SeqAt.EqAt.list_bool b hl1 hu'
   |int i=>cases h2;obtain⟨t,rfl⟩:=r2;exact SeqAt.EqAt.list_int i t hl1 hu'
   |str z=>cases h2;obtain⟨t,rfl⟩:=r2;exact SeqAt.EqAt.list_str z t hl1 hu'
   |tup es=>
    obtain⟨b,ys,rfl,hb,q2⟩:=h2;obtain⟨its2,v2,hl2⟩:=zB5 ok hb;cases r2;exact SeqAt.EqAt.of_refs (zN6 ha hb (fun z=>nomatch z)) (SeqAt.RcAt.list_tuple hl1 hl2 hu')
   |lst es=>
    obtain⟨b,ys,rfl,hb,q2⟩:=h2;obtain⟨its2,v2,hl2⟩:=zAS ok hb;cases r2;have len1:its.toArray.size=ds.length:=by have:=v1.length;have:=q1.length;simp;lia
    have len2:its2.toArray.size=es.length:=by have:=v2.length;have:=q2.length;simp;lia
    show SeqAt.EqAt A s (.ref a) (.ref b) (Dat.eqL ds es)
    by_cases hne:a=b
    ·
     subst hne;rw[ha]at hb;cases hb;have same:Dat.eqL ds es=true:=by
      rw[RepL.inj q1 q2];exact Dat.eqL_refl _
     rw[same];exact SeqAt.EqAt.same _
    ·refine SeqAt.EqAt.of_refs hne ?_
     by_cases hs:ds.length=es.length
     ·have:=SeqAt.RcAt.lists (A:=A) (s:=s) hl1 hl2 (by rw[len1,len2,hs]) hu' (pairs hdl q1 q2 v1 v2)
      rw[len1,Dat.eqL_all hs _ (fun j h1 h2=>by rw[qA5,qA5];simp[h1,h2])]at this;exact this
     ·rw[Dat.eqL_len hs];exact SeqAt.RcAt.lists_lengths hl1 hl2 (by rw[len1,len2];simpa using hs) hu'
  |tup ds=>
   have hdl:Dat.depL ds<=n:=by rw[Dat.dep]at hd;lia
   obtain⟨a,xs,rfl,ha,q1⟩:=h1;obtain⟨its,v1,hl1⟩:=zB5 ok ha;cases r1;cases e with
   |non=>cases h2;cases r2;exact SeqAt.EqAt.tuple_none hl1 hu'
   |bl b=>cases h2;cases r2;exact SeqAt.EqAt.tuple_bool b hl1 hu'
   |int i=>cases h2;obtain⟨t,rfl⟩:=r2;exact SeqAt.EqAt.tuple_int i t hl1 hu'
   |str z=>cases h2;obtain⟨t,rfl⟩:=r2;exact SeqAt.EqAt.tuple_str z t hl1 hu'
   |lst es=>
    obtain⟨b,ys,rfl,hb,q2⟩:=h2;obtain⟨its2,v2,hl2⟩:=zAS ok hb;cases r2;exact SeqAt.EqAt.of_refs (zN6 ha hb (fun z=>nomatch z)) (SeqAt.RcAt.tuple_list hl1 hl2 hu')
   |tup es=>
    obtain⟨b,ys,rfl,hb,q2⟩:=h2;obtain⟨its2,v2,hl2⟩:=zB5 ok hb;cases r2;have len1:its.toArray.size=ds.length:=by have:=v1.length;have:=q1.length;simp;lia
    have len2:its2.toArray.size=es.length:=by have:=v2.length;have:=q2.length;simp;lia
    show SeqAt.EqAt A s (.ref a) (.ref b) (Dat.eqL ds es)
    by_cases hne:a=b
    ·subst hne;rw[ha]at hb;cases hb;have same:Dat.eqL ds es=true:=by
      rw[RepL.inj q1 q2];exact Dat.eqL_refl _
     rw[same];exact SeqAt.EqAt.same _
    ·refine SeqAt.EqAt.of_refs hne ?_
     have:=SeqAt.RcAt.tuples (A:=A) (s:=s) hl1 hl2 hu' (pairs hdl q1 q2 v1 v2)
     by_cases hs:ds.length=es.length
     ·rw[len1,len2,<- hs,qEl,beq_self_eq_true,qDd,Dat.eqL_all hs _ (fun j h1 h2=>by rw[qA5,qA5];simp[h1,h2])]at this;exact this
     ·rw[len1,len2,show(ds.length==es.length)=false by simpa using hs,qCj]at this;rw[Dat.eqL_len hs];exact this
  |_=>simp[Dat.dep]at hd0
theorem zEA{n:Nat}{A:Around}{s:Shared}(ok:HOk P w H s.heap){ds es:List Dat}{xs ys:List V}{its its2:List Value}(hdl:Dat.depL ds<=n)(hu:A.units+n<cLine)(q1:RepL H ds xs)(q2:RepL H es ys)(v1:Vals xs its)(v2:Vals ys its2) :
  ∀j (h1:j<its.toArray.size) (h2:j<its2.toArray.size),SeqAt.EqAt A s its.toArray[j] its2.toArray[j] (Dat.eq (ds.getD j .non) (es.getD j .non)):=by
 intro j j1 j2;have l1:j<xs.length:=by have:=v1.length;simp at j1;lia
 have l2:j<ys.length:=by have:=v2.length;simp at j2;lia
 obtain⟨d',e1,p1⟩:=q1.get (i:=j) (x:=xs[j]) (by simp[l1]);obtain⟨e',e2,p2⟩:=q2.get (i:=j) (x:=ys[j]) (by simp[l2]);obtain⟨w1,g1,z1⟩:=v1.get (i:=j) (x:=xs[j]) (by simp[l1]);obtain⟨w2,g2,z2⟩:=v2.get (i:=j) (x:=ys[j]) (by simp[l2]);have k1:its.toArray[j]=w1:=by
  obtain⟨_,k⟩:=qA2.mp g1
  simpa using k
 have k2:its2.toArray[j]=w2:=by
  obtain⟨_,k⟩:=qA2.mp g2
  simpa using k
 rw[k1,k2,qA5,qA5,e1,e2];exact zNR n (qAm (Dat.depL_mem (qBb e1)) hdl) ok p1 p2 z1 z2 hu
theorem zMW(n:Nat){d e:Dat}{v u:V}{x y:Value}{A:Around}{s:Shared}(hd:d.dep<=n)(ok:HOk P w H s.heap)(h1:Rep H d v)(h2:Rep H e u)(r1:RelV v x)(r2:RelV u y)(hu:A.units+n<cLine):SeqAt.RcAt A s x y (Dat.eq d e):=by
 have hu':A.units<cLine:=by lia
 cases d with
 |non=>
  cases h1;cases r1;cases e with
  |non=>
   cases h2;cases r2;exact SeqAt.RcAt.none_none
  |bl b=>
   cases h2;cases r2;exact SeqAt.RcAt.none_bool b
  |int b=>
   cases h2;obtain⟨t2,rfl⟩:=r2;exact SeqAt.RcAt.none_int b t2
  |str b=>
   cases h2;obtain⟨t2,rfl⟩:=r2;exact SeqAt.RcAt.none_str b t2
  |lst es=>
   obtain⟨p2,ys,rfl,hb,q2⟩:=h2;obtain⟨its2,v2,hl2⟩:=zAS ok hb;cases r2;exact SeqAt.RcAt.none_list hl2 hu'
  |tup es=>
   obtain⟨p2,ys,rfl,hb,q2⟩:=h2;obtain⟨its2,v2,hl2⟩:=zB5 ok hb;cases r2;exact SeqAt.RcAt.none_tuple hl2 hu'
 |bl a=>
  cases h1;cases r1;cases e with
  |non=>
   cases h2;cases r2;exact SeqAt.RcAt.bool_none a
  |bl b=>
   cases h2;cases r2;exact SeqAt.RcAt.bool_bool a b
  |int b=>
   cases h2;obtain⟨t2,rfl⟩:=r2;exact SeqAt.RcAt.bool_int a b t2
  |str b=>
   cases h2;obtain⟨t2,rfl⟩:=r2;exact SeqAt.RcAt.bool_str a b t2
  |lst es=>
   obtain⟨p2,ys,rfl,hb,q2⟩:=h2;obtain⟨its2,v2,hl2⟩:=zAS ok hb;cases r2;exact SeqAt.RcAt.bool_list a hl2 hu'
  |tup es=>
   obtain⟨p2,ys,rfl,hb,q2⟩:=h2;obtain⟨its2,v2,hl2⟩:=zB5 ok hb;cases r2;exact SeqAt.RcAt.bool_tuple a hl2 hu'
 |int a=>
  cases h1;obtain⟨t1,rfl⟩:=r1;cases e with
  |non=>
   cases h2;cases r2;exact SeqAt.RcAt.int_none a t1
  |bl b=>
   cases h2;cases r2;exact SeqAt.RcAt.int_bool a t1 b
  |int b=>
   cases h2;obtain⟨t2,rfl⟩:=r2;exact SeqAt.RcAt.int_int a t1 b t2
  |str b=>
   cases h2;obtain⟨t2,rfl⟩:=r2;exact SeqAt.RcAt.int_str a t1 b t2
  |lst es=>
   obtain⟨p2,ys,rfl,hb,q2⟩:=h2;obtain⟨its2,v2,hl2⟩:=zAS ok hb;cases r2;exact SeqAt.RcAt.int_list a t1 hl2 hu'
  |tup es=>
   obtain⟨p2,ys,rfl,hb,q2⟩:=h2;obtain⟨its2,v2,hl2⟩:=zB5 ok hb;cases r2;exact SeqAt.RcAt.int_tuple a t1 hl2 hu'
 |str a=>
  cases h1;obtain⟨t1,rfl⟩:=r1;cases e with
  |non=>
   cases h2;cases r2;exact SeqAt.RcAt.str_none a t1
  |bl b=>
   cases h2;cases r2;exact SeqAt.RcAt.str_bool a t1 b
  |int b=>
   cases h2;obtain⟨t2,rfl⟩:=r2;exact SeqAt.RcAt.str_int a t1 b t2
  |str b=>
   cases h2;obtain⟨t2,rfl⟩:=r2;exact SeqAt.RcAt.str_str a t1 b t2
  |lst es=>
   obtain⟨p2,ys,rfl,hb,q2⟩:=h2;obtain⟨its2,v2,hl2⟩:=zAS ok hb;cases r2;exact SeqAt.RcAt.str_list a t1 hl2 hu'
  |tup es=>
   obtain⟨p2,ys,rfl,hb,q2⟩:=h2;obtain⟨its2,v2,hl2⟩:=zB5 ok hb;cases r2;exact SeqAt.RcAt.str_tuple a t1 hl2 hu'
 |lst ds=>
  have hdl:Dat.depL ds+1<=n:=by rw[Dat.dep]at hd;exact hd
  obtain⟨p,xs,rfl,ha,q1⟩:=h1;obtain⟨its,v1,hl1⟩:=zAS ok ha;cases r1;cases e with
  |non=>
   cases h2;cases r2;exact SeqAt.RcAt.list_none hl1 hu'
  |bl b=>
   cases h2;cases r2;exact SeqAt.RcAt.list_bool b hl1 hu'
  |int b=>
   cases h2;obtain⟨t2,rfl⟩:=r2;exact SeqAt.RcAt.list_int b t2 hl1 hu'
  |str b=>
   cases h2;obtain⟨t2,rfl⟩:=r2;exact SeqAt.RcAt.list_str b t2 hl1 hu'
  |lst es=>
   obtain⟨p2,ys,rfl,hb,q2⟩:=h2;obtain⟨its2,v2,hl2⟩:=zAS ok hb;cases r2;have len1:its.toArray.size=ds.length:=by have:=v1.length;have:=q1.length;simp;lia
   have len2:its2.toArray.size=es.length:=by have:=v2.length;have:=q2.length;simp;lia
   show SeqAt.RcAt A s (.ref p) (.ref p2) (Dat.eqL ds es)
   by_cases hs:ds.length=es.length
   ·have:=SeqAt.RcAt.lists (A:=A) (s:=s) hl1 hl2 (by rw[len1,len2,hs]) hu' (zEA ok (by lia) (by rw[zCL];lia:A.in1.units+(n-1)<cLine) q1 q2 v1 v2)
    rw[len1,Dat.eqL_all hs _ (fun j h1 h2=>by rw[qA5,qA5];simp[h1,h2])]at this;exact this
   ·rw[Dat.eqL_len hs];exact SeqAt.RcAt.lists_lengths hl1 hl2 (by rw[len1,len2];simpa using hs) hu'
  |tup es=>
   obtain⟨p2,ys,rfl,hb,q2⟩:=h2;obtain⟨its2,v2,hl2⟩:=zB5 ok hb;cases r2;exact SeqAt.RcAt.list_tuple hl1 hl2 hu'
 |tup ds=>
  have hdl:Dat.depL ds+1<=n:=by rw[Dat.dep]at hd;exact hd
  obtain⟨p,xs,rfl,ha,q1⟩:=h1;obtain⟨its,v1,hl1⟩:=zB5 ok ha;cases r1;cases e with
  |non=>
   cases h2;cases r2;exact SeqAt.RcAt.tuple_none hl1 hu'
  |bl b=>
   cases h2;cases r2;exact SeqAt.RcAt.tuple_bool b hl1 hu'
  |int b=>
   cases h2;obtain⟨t2,rfl⟩:=r2;exact SeqAt.RcAt.tuple_int b t2 hl1 hu'
  |str b=>
   cases h2;obtain⟨t2,rfl⟩:=r2;exact SeqAt.RcAt.tuple_str b t2 hl1 hu'
  |lst es=>
   obtain⟨p2,ys,rfl,hb,q2⟩:=h2;obtain⟨its2,v2,hl2⟩:=zAS ok hb;cases r2;exact SeqAt.RcAt.tuple_list hl1 hl2 hu'
  |tup es=>
   obtain⟨p2,ys,rfl,hb,q2⟩:=h2;obtain⟨its2,v2,hl2⟩:=zB5 ok hb;cases r2;have len1:its.toArray.size=ds.length:=by have:=v1.length;have:=q1.length;simp;lia
   have len2:its2.toArray.size=es.length:=by have:=v2.length;have:=q2.length;simp;lia
   show SeqAt.RcAt A s (.ref p) (.ref p2) (Dat.eqL ds es)
   have:=SeqAt.RcAt.tuples (A:=A) (s:=s) hl1 hl2 hu' (zEA ok (by lia) (by rw[zCL];lia:A.in1.units+(n-1)<cLine) q1 q2 v1 v2)
   by_cases hs:ds.length=es.length
   ·rw[len1,len2,<- hs,qEl,beq_self_eq_true,qDd,Dat.eqL_all hs _ (fun j h1 h2=>by rw[qA5,qA5];simp[h1,h2])]at this;exact this
   ·rw[len1,len2,show(ds.length==es.length)=false by simpa using hs,qCj]at this;rw[Dat.eqL_len hs];exact this
theorem zKA(n:Nat){d e:Dat}{v u:V}{x y:Value}{A:Around}{s:Shared}(hd:d.dep<=n)(ok:HOk P w H s.heap)(h1:Rep H d v)(h2:Rep H e u)(r1:RelV v x)(r2:RelV u y)(hu:A.units+n<cLine):SeqAt.RcNeAt A s x y (!Dat.eq d e):=by
 have hu':A.units<cLine:=by lia
 cases d with
 |non=>
  cases h1;cases r1;cases e with
  |non=>
   cases h2;cases r2;exact SeqAt.RcNeAt.none_none
  |bl b=>
   cases h2;cases r2;exact SeqAt.RcNeAt.none_bool b
  |int b=>
   cases h2;obtain⟨t2,rfl⟩:=r2;exact SeqAt.RcNeAt.none_int b t2
  |str b=>
   cases h2;obtain⟨t2,rfl⟩:=r2;exact SeqAt.RcNeAt.none_str b t2
  |lst es=>
   obtain⟨p2,ys,rfl,hb,q2⟩:=h2;obtain⟨its2,v2,hl2⟩:=zAS ok hb;cases r2;exact SeqAt.RcNeAt.none_list hl2 hu'
  |tup es=>
   obtain⟨p2,ys,rfl,hb,q2⟩:=h2;obtain⟨its2,v2,hl2⟩:=zB5 ok hb;cases r2;exact SeqAt.RcNeAt.none_tuple hl2 hu'
 |bl a=>
  cases h1;cases r1;cases e with
  |non=>
   cases h2;cases r2;exact SeqAt.RcNeAt.bool_none a
  |bl b=>
   cases h2;cases r2;exact SeqAt.RcNeAt.bool_bool a b
  |int b=>
   cases h2;obtain⟨t2,rfl⟩:=r2;exact SeqAt.RcNeAt.bool_int a b t2
  |str b=>
   cases h2;obtain⟨t2,rfl⟩:=r2;exact SeqAt.RcNeAt.bool_str a b t2
  |lst es=>
   obtain⟨p2,ys,rfl,hb,q2⟩:=h2;obtain⟨its2,v2,hl2⟩:=zAS ok hb;cases r2;exact SeqAt.RcNeAt.bool_list a hl2 hu'
  |tup es=>
   obtain⟨p2,ys,rfl,hb,q2⟩:=h2;obtain⟨its2,v2,hl2⟩:=zB5 ok hb;cases r2;exact SeqAt.RcNeAt.bool_tuple a hl2 hu'
 |int a=>
  cases h1;obtain⟨t1,rfl⟩:=r1;cases e with
  |non=>
   cases h2;cases r2;exact SeqAt.RcNeAt.int_none a t1
  |bl b=>
   cases h2;cases r2;exact SeqAt.RcNeAt.int_bool a t1 b
  |int b=>
   cases h2;obtain⟨t2,rfl⟩:=r2;exact SeqAt.RcNeAt.int_int a t1 b t2
  |str b=>
   cases h2;obtain⟨t2,rfl⟩:=r2;exact SeqAt.RcNeAt.int_str a t1 b t2
  |lst es=>
   obtain⟨p2,ys,rfl,hb,q2⟩:=h2;obtain⟨its2,v2,hl2⟩:=zAS ok hb;cases r2;exact SeqAt.RcNeAt.int_list a t1 hl2 hu'
  |tup es=>
   obtain⟨p2,ys,rfl,hb,q2⟩:=h2;obtain⟨its2,v2,hl2⟩:=zB5 ok hb;cases r2;exact SeqAt.RcNeAt.int_tuple a t1 hl2 hu'
 |str a=>
  cases h1;obtain⟨t1,rfl⟩:=r1;cases e with
  |non=>
   cases h2;cases r2;exact SeqAt.RcNeAt.str_none a t1
  |bl b=>
   cases h2;cases r2;exact SeqAt.RcNeAt.str_bool a t1 b
  |int b=>
   cases h2;obtain⟨t2,rfl⟩:=r2;exact SeqAt.RcNeAt.str_int a t1 b t2
  |str b=>
   cases h2;obtain⟨t2,rfl⟩:=r2;exact SeqAt.RcNeAt.str_str a t1 b t2
  |lst es=>
   obtain⟨p2,ys,rfl,hb,q2⟩:=h2;obtain⟨its2,v2,hl2⟩:=zAS ok hb;cases r2;exact SeqAt.RcNeAt.str_list a t1 hl2 hu'
  |tup es=>
   obtain⟨p2,ys,rfl,hb,q2⟩:=h2;obtain⟨its2,v2,hl2⟩:=zB5 ok hb;cases r2;exact SeqAt.RcNeAt.str_tuple a t1 hl2 hu'
 |lst ds=>
  have hdl:Dat.depL ds+1<=n:=by rw[Dat.dep]at hd;exact hd
  obtain⟨p,xs,rfl,ha,q1⟩:=h1;obtain⟨its,v1,hl1⟩:=zAS ok ha;cases r1;cases e with
  |non=>
   cases h2;cases r2;exact SeqAt.RcNeAt.list_none hl1 hu'
  |bl b=>
   cases h2;cases r2;exact SeqAt.RcNeAt.list_bool b hl1 hu'
  |int b=>
   cases h2;obtain⟨t2,rfl⟩:=r2;exact SeqAt.RcNeAt.list_int b t2 hl1 hu'
  |str b=>
   cases h2;obtain⟨t2,rfl⟩:=r2;exact SeqAt.RcNeAt.list_str b t2 hl1 hu'
  |lst es=>
   obtain⟨p2,ys,rfl,hb,q2⟩:=h2;obtain⟨its2,v2,hl2⟩:=zAS ok hb;cases r2;have len1:its.toArray.size=ds.length:=by have:=v1.length;have:=q1.length;simp;lia
   have len2:its2.toArray.size=es.length:=by have:=v2.length;have:=q2.length;simp;lia
   show SeqAt.RcNeAt A s (.ref p) (.ref p2) (!Dat.eqL ds es)
   by_cases hs:ds.length=es.length
   ·have:=SeqAt.RcNeAt.lists (A:=A) (s:=s) hl1 hl2 (by rw[len1,len2,hs]) hu' (zEA ok (by lia) (by rw[zCL];lia:A.in1.units+(n-1)<cLine) q1 q2 v1 v2)
    rw[len1,Dat.eqL_all hs _ (fun j h1 h2=>by rw[qA5,qA5];simp[h1,h2])]at this;exact this
   ·rw[Dat.eqL_len hs];exact SeqAt.RcNeAt.lists_lengths hl1 hl2 (by rw[len1,len2];simpa using hs) hu'
  |tup es=>
   obtain⟨p2,ys,rfl,hb,q2⟩:=h2;obtain⟨its2,v2,hl2⟩:=zB5 ok hb;cases r2;exact SeqAt.RcNeAt.list_tuple hl1 hl2 hu'
 |tup ds=>
  have hdl:Dat.depL ds+1<=n:=by rw[Dat.dep]at hd;exact hd
  obtain⟨p,xs,rfl,ha,q1⟩:=h1;obtain⟨its,v1,hl1⟩:=zB5 ok ha;cases r1;cases e with
  |non=>
   cases h2;cases r2;exact SeqAt.RcNeAt.tuple_none hl1 hu'
  |bl b=>
   cases h2;cases r2;exact SeqAt.RcNeAt.tuple_bool b hl1 hu'
  |int b=>
   cases h2;obtain⟨t2,rfl⟩:=r2;exact SeqAt.RcNeAt.tuple_int b t2 hl1 hu'
  |str b=>
   cases h2;obtain⟨t2,rfl⟩:=r2;exact SeqAt.RcNeAt.tuple_str b t2 hl1 hu'
  |lst es=>
   obtain⟨p2,ys,rfl,hb,q2⟩:=h2;obtain⟨its2,v2,hl2⟩:=zAS ok hb;cases r2;exact SeqAt.RcNeAt.tuple_list hl1 hl2 hu'
  |tup es=>
   obtain⟨p2,ys,rfl,hb,q2⟩:=h2;obtain⟨its2,v2,hl2⟩:=zB5 ok hb;cases r2;have len1:its.toArray.size=ds.length:=by have:=v1.length;have:=q1.length;simp;lia
   have len2:its2.toArray.size=es.length:=by have:=v2.length;have:=q2.length;simp;lia
   show SeqAt.RcNeAt A s (.ref p) (.ref p2) (!Dat.eqL ds es)
   have:=SeqAt.RcNeAt.tuples (A:=A) (s:=s) hl1 hl2 hu' (zEA ok (by lia) (by rw[zCL];lia:A.in1.units+(n-1)<cLine) q1 q2 v1 v2)
   by_cases hs:ds.length=es.length
   ·rw[len1,len2,<- hs,qEl,beq_self_eq_true,qDd,Dat.eqL_all hs _ (fun j h1 h2=>by rw[qA5,qA5];simp[h1,h2])]at this;exact this
   ·rw[len1,len2,show(ds.length==es.length)=false by simpa using hs,qCj]at this;rw[Dat.eqL_len hs];exact this
end
section
variable{X:Cx}
noncomputable def rEqD:R2:=fun x y H Q=>∃d e,Rep H d x/\Rep H e y/\d.dep<=40/\Q (.bl (Dat.eq d e)) H
noncomputable def rNeD:R2:=fun x y H Q=>∃d e,Rep H d x/\Rep H e y/\d.dep<=40/\Q (.bl (!Dat.eq d e)) H
theorem zS3(hu:X.A.units+64<cLine):OpR X (compareOp .Eq) rEqD:=by
 intro pins s σ H x y v u Q I rx ry h;obtain⟨d,e,h1,h2,hd,q⟩:=h;exact zMW 40 hd I.hok h1 h2 rx ry (by lia) _ _ _ _ ⟨.bl _,H,I,rfl,q⟩
theorem zS1(hu:X.A.units+64<cLine):OpR X (compareOp .NotEq) rNeD:=by
 intro pins s σ H x y v u Q I rx ry h;obtain⟨d,e,h1,h2,hd,q⟩:=h;exact zKA 40 hd I.hok h1 h2 rx ry (by lia) _ _ _ _ ⟨.bl _,H,I,rfl,q⟩
noncomputable def zEK(H:Hp):V->Option String
 |.non=>some "NoneType"
 |.bl _=>some "bool"
 |.int _=>some "int"
 |.str _=>some "str"
 |.ref a=>match H a with
  |some (.lst _)=>some "list"
  |some (.tup _)=>some "tuple"
  |some (.dK _)=>some "dict"
  |_=>none
 |_=>none
noncomputable def zQ4(T n:String):Bool:=T==n||(T == "bool" && n == "int")
theorem zIS:zD5 X (.builtin "isinstance") (fun vs H Q=>∃x n T,vs=[x,.ty n]/\zEK H x=some T/\n∈["int","bool","str","list","tuple","dict"]/\Q (.bl (zQ4 T n)) H):=by
 intro pins s σ H vs us Q I r h;obtain⟨x,n,T,rfl,ht,hn,q⟩:=h;obtain⟨u,w',rfl,rx,rn⟩:=zMM r
 cases(show w'=Value.type n from rn)
 have key:∃t,TyOf X.K H x t/\t=.type T:=by
  cases x with
  |non=>cases ht;exact⟨_,.non,rfl⟩
  |bl b=>cases ht;exact⟨_,.bl b,rfl⟩
  |int b=>cases ht;exact⟨_,.int b,rfl⟩
  |str b=>cases ht;exact⟨_,.str b,rfl⟩
  |ref a=>
   unfold zEK at ht;dsimp only at ht;cases e:H a with
   |none=>rw[e]at ht;cases ht
   |some o=>
    rw[e]at ht;cases o with
    |lst xs=>cases ht;exact⟨_,.lst e,rfl⟩
    |tup xs=>cases ht;exact⟨_,.tup e,rfl⟩
    |dK xs=>cases ht;exact⟨_,.dK e,rfl⟩
    |_=>cases ht
  |_=>cases ht
 obtain⟨t,ty,rfl⟩:=key;have hT:T∈["NoneType","bool","int","str","list","tuple","dict"]:=by
  cases x with
  |non=>cases ht;decide
  |bl b=>cases ht;decide
  |int b=>cases ht;decide
  |str b=>cases ht;decide
  |ref a=>
   unfold zEK at ht;dsimp only at ht;cases e:H a with
   |none=>rw[e]at ht;cases ht
   |some o=>
    rw[e]at ht;cases o with
    |lst xs=>cases ht;decide
    |tup xs=>cases ht;decide
    |dK xs=>cases ht;decide
    |_=>cases ht
  |_=>cases ht
 have e:qB6 X.K (.type T) (.type n)=some (zQ4 T n):=by
  simp only[qAa,List.mem_nil_iff,or_false]at hT hn
  rcases hT with rfl|rfl|rfl|rfl|rfl|rfl|rfl<;>rcases hn with rfl|rfl|rfl|rfl|rfl|rfl<;>rfl
 exact zLX I rx ty e fun tk=>⟨.bl _,H,I.tok tk,rfl,q⟩
noncomputable def zGM(lo:Int)(n:Nat):List V:=(qAg n).map fun i=>.int (lo+(i:Nat))
theorem zEG:∀{xs:List V}{its:List Value},xs.length=its.length->(∀(j:Nat)(x:V)(v:Value),xs[j]?=some x->its[j]?=some v->RelV x v)->Vals xs its
 |[],[],_,_=>.nil
 |[],_::_,h,_=>by simp at h
 |_::_,[],h,_=>by simp at h
 |x::xs,v::its,h,g=>.cons (g 0 x v rfl rfl) (zEG (by simpa using h) fun j y u e1 e2=>g (j+1) y u (by simpa using e1) (by simpa using e2))
theorem zKP{lo:Int}{n:Nat}{its:List Value}(hl:its.length=n)(h:∀(j:Nat) (v:Value),its[j]?=some v->∃t,v=Value.int (lo+(j:Int)*1) t):Vals (zGM lo n) its:=by
 refine zEG (by simp[zGM,hl]) fun j x v e1 e2=>?_
 unfold zGM at e1;rw[qAi]at e1;cases e:(qAg n)[j]? with
 |none=>rw[e]at e1;cases e1
 |some i=>
  rw[e]at e1;cases e1;have hi:i=j:=by
   obtain⟨h1,h2⟩:=qA2.mp e;rw[qD3]at h2;exact h2.symm
  subst hi;obtain⟨t,ht⟩:=h i v e2;exact⟨t,by rw[ht,qFw]⟩
theorem zH2(hc:X.calm=true):zD5 X (.type "list") (fun vs H Q=>∃p lo hi,vs=[.ref p]/\H p=some (.rng lo hi)/\(-(2 ^ 62)<=lo/\lo<2 ^ 62/\-(2 ^ 62)<=hi/\hi<2 ^ 62)/\hi-lo<=1000000/\∀l,H l=none->Q (.ref l) (upd H l (.lst (zGM lo (hi-lo).toNat)))):=by
 intro pins s σ H vs us Q I r h;obtain⟨p,lo,hi,rfl,hp,⟨b1,b2,b3,b4⟩,hz,q⟩:=h;obtain⟨u,rfl,rx⟩:=zK3 r;cases rx;obtain⟨t,u,v,e⟩:=(show ObjOk X.prog X.w H s.heap p (.rng lo hi) from I.hok p _ hp)
 have hn:Builtin.Range.rangeSize lo hi 1=(((hi-lo).toNat:Nat):Int):=by rw[rangeSize_one];split<;>lia
 refine call_list_range (n:=(hi-lo).toNat) (I.ok.hd hc) e (small_one b1 b2 b3 b4) hn (by lia) fun h' tk acc' c' hk hS hacc=>?_
 have rv:Vals (zGM lo (hi-lo).toNat) acc'.toList:=zKP (by simpa using hacc.1) fun j v hj=>hacc.2 j v (by simpa using hj)
 refine⟨.ref _,_,I.laid (o:=.lst (zGM lo (hi-lo).toNat)) hk (qA6 _) ⟨?_,acc'.toList,c',rv,by simpa using hS⟩,rfl,q _ I.fresh⟩;have hl:(zGM lo (hi-lo).toNat).length=(hi-lo).toNat:=by simp[zGM]
 rw[hl,sizeLine_eq]
 lia
end
end L2
namespace L2
open PySem PySem.Spec PyProof.Rows
section
variable{X:Cx}
def zRP:R2:=fun x y H Q=>match x,y with
 |.int i,.int j=>Q (.int (i+j)) H
 |.str i,.str j=>i.length+j.length<=sizeLine/\Q (.str (i++j)) H
 |.ref l,.ref b=>∃xs zs,H l=some (.lst xs)/\H b=some (.lst zs)/\xs.length+zs.length<=sizeLine/\∀p,H p=none->Q (.ref p) (upd H p (.lst (xs++zs)))
 |_,_=>False
theorem zDF:OpR X (binaryOp .Add) zRP:=by
 intro pins s σ H x y v u Q I rx ry h;cases x<;>cases y<;>first
  |exact zS5 pins s σ H _ _ v u Q I rx ry ⟨_,_,rfl,rfl,h⟩
  |exact zKB pins s σ H _ _ v u Q I rx ry ⟨_,_,rfl,rfl,h.1,h.2⟩
  |(obtain⟨xs,zs,h1,h2,h3,h4⟩:=h;exact zS4 pins s σ H _ _ v u Q I rx ry ⟨_,_,xs,zs,rfl,rfl,h1,h2,h3,h4⟩)
  |exact qA4 h
noncomputable def rMulU:R2:=fun x y H Q=>match x,y with
 |.int i,.int j=>CMul i j/\Q (.int (i*j)) H
 |_,_=>False
noncomputable def zRI:R2:=fun x y H Q=>match x,y with
 |.int i,.int j=>Q (.int (i-j)) H
 |_,_=>False
theorem zTF:OpR X (binaryOp .Sub) zRI:=by
 intro pins s σ H x y v u Q I rx ry h;cases x<;>cases y<;>first
  |exact zRZ pins s σ H _ _ v u Q I rx ry ⟨_,_,rfl,rfl,h⟩
  |exact qA4 h
noncomputable def zRM:R2:=fun x y H Q=>match x,y with
 |.int i,.int j=>0<j/\Q (.int (i%j)) H
 |_,_=>False
theorem zEI:OpR X (binaryOp .Mod) zRM:=by
 intro pins s σ H x y v u Q I rx ry h;cases x<;>cases y<;>first
  |exact zS2 pins s σ H _ _ v u Q I rx ry ⟨_,_,rfl,rfl,h.1,h.2⟩
  |exact qA4 h
def zRK:V->Hp->VK->Prop:=fun x H Q=>match x with
 |.int i=>Q (.int (-i)) H
 |_=>False
theorem zTH:UnR X (unaryOp .USub) zRK:=by
 intro pins s σ H x v Q I rx h;cases x<;>first
  |exact zQZ pins s σ H _ v Q I rx ⟨_,rfl,h⟩
  |exact qA4 h
noncomputable def zPK(p:Int->Int->Bool):R2:=fun x y H Q=>match x,y with
 |.int i,.int j=>Q (.bl (p i j)) H
 |_,_=>False
theorem u_lt:OpR X (compareOp .Lt) (zPK fun i j=>decide (i<j)):=by
 intro pins s σ H x y v u Q I rx ry h;cases x<;>cases y<;>first
  |exact zTW pins s σ H _ _ v u Q I rx ry ⟨_,_,rfl,rfl,h⟩
  |exact qA4 h
theorem u_gt:OpR X (compareOp .Gt) (zPK fun i j=>decide (j<i)):=by
 intro pins s σ H x y v u Q I rx ry h;cases x<;>cases y<;>first
  |exact zTX pins s σ H _ _ v u Q I rx ry ⟨_,_,rfl,rfl,h⟩
  |exact qA4 h
def rEqU:R2:=fun x y H Q=>match x,y with
 |.int i,.int j=>Q (.bl (decide (i=j))) H
 |.str i,.str j=>Q (.bl (decide (i=j))) H
 |.bl i,.bl j=>Q (.bl (decide (i=j))) H
 |x,y=>rEqD x y H Q
def rNeU:R2:=fun x y H Q=>match x,y with
 |.int i,.int j=>Q (.bl (!decide (i=j))) H
 |.str i,.str j=>Q (.bl (!decide (i=j))) H
 |.bl i,.bl j=>Q (.bl (!decide (i=j))) H
 |x,y=>rNeD x y H Q
theorem u_eq(hu:X.A.units+64<cLine):OpR X (compareOp .Eq) rEqU:=by
 intro pins s σ H x y v u Q I rx ry h;cases x<;>cases y<;>first
  |(refine zTY pins s σ H _ _ v u Q I rx ry ⟨rfl,?_⟩;have h':=h;simp only[rEqU]at h';simpa using h')
  |exact zS3 hu pins s σ H _ _ v u Q I rx ry h
theorem u_ne(hu:X.A.units+64<cLine):OpR X (compareOp .NotEq) rNeU:=by
 intro pins s σ H x y v u Q I rx ry h;cases x<;>cases y<;>first
  |(refine zTV pins s σ H _ _ v u Q I rx ry ⟨rfl,?_⟩;have h':=h;simp only[rNeU]at h';simpa using h')
  |exact zS1 hu pins s σ H _ _ v u Q I rx ry h
def rIxU(K:qA0):R2:=fun x y H Q=>match x,y with
 |.str z,.int i=>∃c,z.length<=sizeLine/\atI z.cps.toList i=some c/\Q (.str ⟨#[c]⟩) H
 |.ref p,.int i=>∃xs v,(SqL K H p xs\/SqT K H p xs)/\atI xs i=some v/\Q v H
 |_,_=>False
theorem u_ix:IxR X (rIxU X.K):=by
 intro value slice pins s σ H x y v u Q I rx ry h hs;cases x<;>cases y<;>first
  |(obtain⟨c,h1,h2,h3⟩:=h;exact zSJ value slice pins s σ H _ _ v u Q I rx ry ⟨_,_,c,rfl,rfl,h1,h2,h3⟩ hs)
  |(obtain⟨xs,w,h1|h1,h2,h3⟩:=h
    ·exact zQ2 value slice pins s σ H _ _ v u Q I rx ry ⟨_,xs,_,w,rfl,rfl,h1,h2,h3⟩ hs
    ·exact zSH value slice pins s σ H _ _ v u Q I rx ry ⟨_,xs,_,w,rfl,rfl,h1,h2,h3⟩ hs)
  |exact qA4 h
def zPI(K:qA0):List V->Hp->VK->Prop:=fun vs H Q=>match vs with
 |[.str z]=>z.length<=sizeLine/\Q (.int z.length) H
 |[.ref p]=>∃xs,(SqL K H p xs\/SqT K H p xs)/\Q (.int xs.length) H
 |_=>False
theorem zU3:zD5 X (.builtin "len") (zPI X.K):=by
 intro pins s σ H vs us Q I r h;cases vs with
 |nil=>exact qA4 h
 |cons hd1 tl1=>
  cases hd1 with
  |str z=>
   cases tl1 with
   |nil=>
    exact zHZ pins s σ H _ us Q I r ⟨z,rfl,h.1,h.2⟩
   |cons _ _=>exact qA4 h
  |ref p=>
   cases tl1 with
   |nil=>
    obtain⟨xs,h1,h2⟩:=h;exact zI0 pins s σ H _ us Q I r ⟨p,xs,rfl,h1,h2⟩
   |cons _ _=>exact qA4 h
  |_=>exact qA4 h
def zL2(K:qA0):List V->Hp->VK->Prop:=fun vs H Q=>match vs with
 |[.ref p]=>(∃xs,(SqL K H p xs\/SqT K H p xs)/\∀l,H l=none->Q (.ref l) (upd H l (.lst xs))) \/
   ∃lo hi,H p=some (.rng lo hi)/\(-(2 ^ 62)<=lo/\lo<2 ^ 62/\-(2 ^ 62)<=hi/\hi<2 ^ 62)/\hi-lo<=1000000/\∀l,H l=none->Q (.ref l) (upd H l (.lst (zGM lo (hi-lo).toNat)))
 |_=>False
theorem zSF(hc:X.calm=true):zD5 X (.type "list") (zL2 X.K):=by
 intro pins s σ H vs us Q I r h;cases vs with
 |nil=>exact qA4 h
 |cons hd1 tl1=>
  cases hd1 with
  |ref p=>
   cases tl1 with
   |nil=>
    rcases h with⟨xs,h1,h2⟩|⟨lo,hi,h1,h2,h3,h4⟩
    ·exact zHY pins s σ H _ us Q I r ⟨p,xs,rfl,h1,h2⟩
    ·exact zH2 hc pins s σ H _ us Q I r ⟨p,lo,hi,rfl,h1,h2,h3,h4⟩
   |cons _ _=>exact qA4 h
  |_=>exact qA4 h
def zRN:List V->Hp->VK->Prop:=fun vs H Q=>match vs with
 |[x,.ty n]=>∃T,zEK H x=some T/\n∈["int","bool","str","list","tuple","dict"]/\Q (.bl (zQ4 T n)) H
 |_=>False
theorem zBW:zD5 X (.builtin "isinstance") zRN:=by
 intro pins s σ H vs us Q I r h;cases vs with
 |nil=>exact qA4 h
 |cons x tl1=>
  cases tl1 with
  |nil=>exact qA4 h
  |cons hd2 tl2=>
   cases hd2 with
   |ty n=>
    cases tl2 with
    |nil=>
     obtain⟨T,h1,h2,h3⟩:=h;exact zIS pins s σ H _ us Q I r ⟨x,n,T,rfl,h1,h2,h3⟩
    |cons _ _=>exact qA4 h
   |_=>exact qA4 h
end
noncomputable def zHV(N N':List Str)(k:Nat)(sc esc:Scope):Bool:=
 (sc.kind==.function)&&decide ((sc.names.map (·.1)).Nodup)&&(N'.length==N.length+k) &&
 ((qAg N.length).all fun i=>match N'[i]? with
  |none=>true
  |some x=>(sc.names.lookup x==none)||(sc.names.any (fun p=>p.1==x&&p.2==.free)&&N[i]?==some x)) &&
 (sc.names.all fun p=>p.2 != .free||esc.names.lookup p.1==some .cell||esc.names.lookup p.1==some .free)
theorem cn{X:Cx}{sc:Scope}(N':List Str)(k:Nat)(h:zHV X.N N' k sc X.env.scope=true):CompNames X.N N' k sc X.env:=by
 unfold zHV at h;simp only[qBd,decide_eq_true_eq,beq_iff_eq]at h;obtain⟨⟨⟨⟨h1,h2⟩,h3⟩,h4⟩,h5⟩:=h;refine⟨h1,h2,h3,fun i x e hi=>?_,fun x hx=>?_⟩
 ·have q:=qDh.mp h4 i (qF2.mpr hi);rw[e]at q;simp only[qEw,qBd,beq_iff_eq,List.any_eq_true]at q
  rcases q with q|⟨⟨p,hp,e1,e2⟩,e3⟩
  ·exact .inr q
  ·obtain⟨y,kk⟩:=p;dsimp only at e1 e2;subst e1;subst e2;exact .inl ⟨hp,e3⟩
 ·have q:=qDh.mp h5 _ hx;simp only[qEw,bne_iff_ne,ne_eq,not_true_eq_false,false_or,beq_iff_eq]at q;exact q
theorem PE.imp{X:Cx}{e:Expr}{t t':TE}(h:PE X e t)(i:∀σ H Q,t' σ H Q->t σ H Q):PE X e t':=fun pins s σ H Q I q=>h pins s σ H Q I (i σ H Q q)
noncomputable def vM(i:Nat):TE:=fun σ H Q=>match σ[i]? with
 |some (some v)=>Q v H
 |_=>False
theorem pn{X:Cx}(i:Nat){x:Str}{pos:Pos}(hN:X.N[i]?=some x:=by rfl)(hv:Vis X.env.scope x:=by first|exact qFr rfl|exact qFs (qFr rfl)|exact qFs (qFs rfl))(hd:(x==("__debug__":Str))=false:=by decide)
  (hcd:(x==("__classdict__":Str))=false:=by decide):PE X (.Name x pos) (vM i):=(zOE hN hv hd hcd).imp fun σ H Q h=>by
 unfold vM at h;cases e:σ[i]? with
 |none=>rw[e]at h;exact qA4 h
 |some w=>
  rw[e]at h;cases w with
  |none=>exact qA4 h
  |some v=>exact⟨v,e,h⟩
noncomputable def bM(t:TE):TT:=fun σ H Q=>t σ H fun x H'=>match x with
 |.bl k=>Q k H'
 |.int i=>Q (i != 0) H'
 |.non=>Q false H'
 |_=>False
section
variable{X:Cx}{a b c:Expr}{ta tb tc:TE}{tA tB:TT}{rest:List Expr}{pos:Pos}
theorem zR3{K:qA0}{x:V}{H:Hp}{Q:Bool->Hp->Prop}(h:match x with | .bl k=>Q k H | .int i=>Q (i != 0) H | .non=>Q false H|_=>False):∃k,TruV K x H k/\Q k H:=by
 cases x with
 |bl k=>exact⟨k,rfl,h⟩
 |int i=>exact⟨_,rfl,h⟩
 |non=>exact⟨_,rfl,h⟩
 |_=>exact qA4 h
theorem pt_m(ha:PE X a ta)(he:∀whole,isTrue a X.env whole=(do let v <- whole;standAt a.pos;holding [v] (truthy v)):=by intro _;rfl):PT X a (bM ta):=by
 intro pins s σ H Q I h;refine isTrue_plain (thn (ha pins s σ H _ I h) fun v s1 z0=>?_) (he _);obtain⟨x,H1,I1,r1,q1⟩:=z0;exact thn (zR2 pins s1 σ H1 x v Q I1 r1 (zR3 q1)) fun _ _ q=>q
theorem zDZ{op:CmpOp}{r:R2}(ho:OpR X (compareOp op) r)(ha:PE X a ta)(hb:PE X b tb)(hm:behindInMarks op b=false):PT X (.Compare a [op] [b] pos) (fun σ H Q=>ta σ H fun x H1=>tb σ H1 fun y H2=>r x y H2 fun z H3=>match z with | .bl k=>Q k H3|_=>False):=by
 intro pins s σ H Q I h;refine wpAny_isTrue_Compare1 (thn (ha pins s σ H _ I h) fun v s1 ⟨x,H1,I1,r1,q1⟩=>thn (hb pins s1 σ H1 _ I1 q1) fun u s2 ⟨y,H2,I2,r2,q2⟩=>
  thn (ho pins s2 σ H2 x y v u _ I2 r1 r2 q2) fun d s3 ⟨z,H3,I3,r3,q3⟩=>?_) hm
 cases z with
 |bl k=>cases r3;exact wpAny_truthy_bool ⟨H3,I3,q3⟩
 |_=>exact qA4 q3
def setM:V->V->V->Hp->(Hp->Prop)->Prop:=fun o i v H Q=>match o,i with
 |.ref p,.int k=>∃xs j,H p=some (.lst xs)/\ixN xs.length k=some j/\Q (upd H p (.lst (xs.set j v)))
 |_,_=>False
theorem zR0:PSet X setM:=by
 intro pins s σ H o i v ov iv u Q I ro ri rv h;cases o<;>cases i<;>first
  |(obtain⟨xs,j,h1,h2,h3⟩:=h;exact zMS pins s σ H _ _ v ov iv u Q I ro ri rv ⟨_,xs,_,j,rfl,rfl,h1,h2,h3⟩)
  |exact qA4 h
def appM:V->List V->Hp->VK->Prop:=fun x vs H Q=>match x,vs with
 |.ref l,[y]=>∃xs,H l=some (.lst xs)/\xs.length<sizeLine/\Q .non (upd H l (.lst (xs++[y])))
 |_,_=>False
theorem zII:MtR X "list.append" appM:=by
 intro pins s σ H x vs v us Q I rx rv h;cases x with
 |ref l=>
  cases vs with
  |nil=>exact qA4 h
  |cons y t=>
   cases t with
   |nil=>
    obtain⟨xs,h1,h2,h3⟩:=h;exact zLL pins s σ H _ _ v us Q I rx rv ⟨l,xs,y,rfl,rfl,h1,h2,h3⟩
   |cons _ _=>exact qA4 h
 |_=>exact qA4 h
end
theorem pt_w{X:Cx}{e:Expr}{t:TT}(h:PW X e t):PT X e t:=h.pt
def Has(P:Program)(w:World)(K:qA0)(mg:Str->Option Value)(base:Heap)(x:Str)(k:Nat)(ps:List Str)(sp:Sp):Prop:=
 ∃f fd,FnOk P w K mg base CX0 k f fd ps sp/\mg x=some (.ref f)/\qAe K (.ref f)=true/\Binds K fd ps []
def Def(K:qA0)(mg:Str->Option Value)(x:Str)(st:Stmt):Prop:=∃f fd,Fun K x x st f fd/\mg x=some (.ref f)
section
variable{X:Cx}{x:Str}{j k:Nat}{ps:List Str}{sp:Sp}{e:Expr}{es:List Expr}{t:TA}{p pos:Pos}
theorem zFK(h:Has X.prog X.w X.K X.mg X.base x j ps sp)(hjk:j<=k)(hr:Room k X.A)(hg:Gl X x)(ha:PA X (e::es) t)(hdb:(x==("__debug__":Str))=false:=by decide)
  (he:starEach (e::es) X.env=(false,eval e X.env)::starEach es X.env:=by rfl) (hpl:(backTo pos (starEach es X.env)).any (·.1)=false:=by rfl):PE X (.Call (.Name x p) (e::es) [] pos) (zID sp [] E0 t):=by
 obtain⟨f,fd,G,m,kp,b⟩:=h;exact zLD G (hr.mono hjk) hg m kp b .nil zTU ha hdb he hpl
end
section
variable{P:Program}{w:World}{K:qA0}{mg:Str->Option Value}{base:Heap}
theorem Def.ok{x:Str}{st:Stmt}{N ps:List Str}{k:Nat}{sp:Sp}(D:Def K mg x st)(S:FnScope N ps (zA8 st))
  (hb:∀(kV doc pm:Value)(an:Option Addr)(cdv ct:Value)(us:List Value),us.length=ps.length->bindArgs (qAt x x (zB2 st) (zAP st) (zA8 st) .none kV doc pm an cdv ct) ⟨us,[]⟩=pure (ps.zip us))
  (len:∀vs H Q E,sp vs H Q E->vs.length=ps.length)
  (hbody:∀(f:Addr)(cdv:Value)(A:Around)(outer:List Env)(s:Shared)(H:Hp)(vs:List V)(Q:VK)(E:XK),Room k (A.deeper (envOfC x (zA8 st) s.heap.objs.size f cdv))->sp vs H Q E ->
   ∃t,PSs (cxOf CX0 P w K mg base N x (zA8 st) f cdv A outer s H E).nox (zAP st) t/\t { nx:=fun _ H'=>Q .non H',rt:=Q } (start N vs) H):Has P w K mg base x (k+1) ps sp:=by
 obtain⟨f,fd,F,m⟩:=D;exact⟨f,fd,F.ok S len (fun cdv A outer s H vs Q E hr h=>hbody f cdv A outer s H vs Q E hr h),m,F.kp,F.binds hb⟩
end
end L2
namespace L2
open PySem PySem.Spec PyProof.Rows
section
variable{X:Cx}{pins:List (Addr×Obj)}{σ:St}{H:Hp}{s:Shared}
theorem Inv.turnedNew{h':Heap}{t':Nat}{fp:List Addr}{a:Addr}{o:HO}(I:Inv X pins σ H s)(hf:∀b∈fp,FpOk X pins H b)(k:∀b u,b∉fp->s.heap.get? b=some u->h'.get? b=some u)
  (hp:s.heap.objs.size<=a) (new:ObjOk X.prog X.w (upd H a o) h' a o):Inv X pins σ (upd H a o) { s with heap:=h',toks:=t' }:=by
 have hn:H a=none:=I.hok.fresh hp;have ne:∀b u,s.heap.get? b=some u->b≠a:=fun b u e=>qAn (qA8 (Heap.lt_size e) hp)
 have nfp:∀b u,H b=some u->b∉fp:=fun b u e z=>by rw[(hf b z).1]at e;cases e
 refine I.step (g':=s.gens) (d':=s.drawn) (ch:=fp) (fun b hb=>⟨(hf b hb).2.2.2.1,(hf b hb).2.1,(hf b hb).2.2.2.2.1,(hf b hb).2.2.2.2.2⟩) (fun b u _ _ hc e _=>k b u hc e) (fun b u _ _ hc e _=>⟨u.slots,k b u hc e⟩)
  (fun b u _ e n=>by rw[zA9 (ne b u e)];exact n) (fun b u hc e=>⟨u,k b u hc e⟩) (fun b xs e=>by rw[zA9 (zAI e hn)];exact e) (fun b u xs e=>by rw[zA9 (zAI e hn)];exact e)
  (fun b ps e=>⟨#[],by rw[zA9 (zAI e hn),e];simp⟩) (fun m hm=>?_) (fun b u e=>?_) I.bare
 ·obtain⟨u,es,ep,ho,r⟩:=hm;exact⟨u,es,ep,k _ u (fun z=>(hf _ z).2.1 rfl) ho,r⟩
 ·by_cases hb:b=a
  ·subst hb;rw[zAD]at e;cases e;exact new
  ·rw[zA9 hb]at e;refine(I.hok b u e).stay (fun c v hc q=>k c v ?_ q) (fun c q=>by rw[zA9 (zAI q hn)];exact q) (fun c xs q=>by rw[zA9 (zAI q hn)];exact q) fun c _ _ q _=>by rw[zA9 (zAI q hn)];exact q
   rcases hc with z|z
   ·rw[z];exact nfp b u e
   ·exact nfp c _ z
theorem Inv.turnedL{h':Heap}{t':Nat}{fp:List Addr}(I:Inv X pins σ H s)(hf:∀b∈fp,FpOk X pins H b)(k:∀b u,b∉fp->s.heap.get? b=some u->h'.get? b=some u):Inv X pins σ H { s with heap:=h',toks:=t' }:=by
 have nfp:∀b u,H b=some u->b∉fp:=fun b u e z=>by rw[(hf b z).1]at e;cases e
 refine I.step (g':=s.gens) (d':=s.drawn) (ch:=fp) (fun b hb=>⟨(hf b hb).2.2.2.1,(hf b hb).2.1,(hf b hb).2.2.2.2.1,(hf b hb).2.2.2.2.2⟩) (fun b u _ _ hc e _=>k b u hc e) (fun b u _ _ hc e _=>⟨u.slots,k b u hc e⟩)
  (fun b u _ e n=>n) (fun b u hc e=>⟨u,k b u hc e⟩) (fun b xs e=>e) (fun b u xs e=>e)
  (fun b ps e=>⟨#[],by rw[e];simp⟩) (fun m hm=>?_) (fun b u e=>?_) I.bare
 ·obtain⟨u,es,ep,ho,r⟩:=hm;exact⟨u,es,ep,k _ u (fun z=>(hf _ z).2.1 rfl) ho,r⟩
 ·refine(I.hok b u e).stay (fun c v hc q=>k c v ?_ q) (fun c q=>q) (fun c xs q=>q) fun c _ _ q _=>q
  rcases hc with z|z
  ·rw[z];exact nfp b u e
  ·exact nfp c _ z
def Ite(K:qA0)(a:Addr):It:=
 ⟨fun i H=>∃xs x,SqL K H a xs/\xs[i]?=some x,fun i H x H'=>∃T y,x=.ref T/\H T=none/\H'=upd H T (.tup [.int i,y])/\∀xs,SqL K H a xs->xs[i]?=some y,fun i H=>∃xs,SqL K H a xs/\xs.length<=i⟩
def iEnum(K:qA0)(tl:TA):TI:=fun σ H R=>tl σ H fun vs H1=>match vs with
 |[.ref a]=>(∃xs,SqL K H1 a xs)/\R (Ite K a) H1
 |_=>False
end
section
variable{X:Cx}{K:qA0}
theorem zDV(hK:X.K=K:=by rfl):zD5 X (.builtin "len") (zPI K):=hK▸zU3
theorem zLT(hc:X.calm=true)(hK:X.K=K:=by rfl):zD5 X (.type "list") (zL2 K):=hK▸zSF hc
theorem zCF(hK:X.K=K:=by rfl):IxR X (rIxU K):=hK▸u_ix
theorem zPO{es:List Expr}{k:Nat}{t:TGs}{n:Nat}{pos:Pos}(hc:X.calm=true)(h:PGs X es t)
  (hn:(assignEach es X.env).length=n:=by rfl) (hst:(assignEach es X.env).findIdx? (·.1)=none:=by rfl) (hK:X.K=K:=by rfl):PG X (.Tuple es k pos) (gTup K n t):=hK▸zRT hc h hn hst
noncomputable def tML(r:V->List V->Hp->VK->Prop)(to:TE)(t:TA):TE:=fun σ H Q=>to σ H fun x H1=>match x with
 |.ref p=>∃xs,H1 p=some (.lst xs)/\t σ H1 fun vs H2=>r x vs H2 Q
 |_=>False
variable{o e:Expr}{es:List Expr}{to:TE}{t:TA}{name:Str}{apos cpos:Pos}{T id:String}{r:V->List V->Hp->VK->Prop}
theorem zPQ(pa:PlainAttrs "list")(slot:Slot "list" name id)(hty:typeOf (.builtin id)=pure (.type "method_descriptor"))(hm:MtR X id r)(ho:PE X o to)(ha:PA X (e::es) t)
  (hbase:attributeBase o name X.env (eval o X.env)=eval o X.env:=by rfl)
  (hfew:((backTo cpos (starEach (e::es) X.env)).all (fun x=>!x.1)&&(backToKw cpos (keywordEach [] X.env)).all (fun x=>x.1.isSome)
   && decide ((e::es).length+([]:List Keyword).length+(if([]:List Keyword).isEmpty then 0 else 1)<30))=true:=by rfl)
  (hline:(apos.endLine==cpos.line)=true:=by rfl) (hs:starEach (e::es) X.env=(false,eval e X.env)::starEach es X.env:=by rfl) (hplain:(backTo cpos (starEach es X.env)).any (·.1)=false:=by rfl) :
  PE X (.Call (.Attribute o name apos) (e::es) [] cpos) (tML r to t):=by
 intro pins s σ H Q I h;refine wpAny_Call_method_late hbase hfew hline rfl (thn (ho pins s σ H _ I h) fun v s1 z0=>?_);obtain⟨x,H1,I1,r1,q1⟩:=z0;cases x with
 |ref p=>?_
 |_=>exact qA4 q1
 obtain⟨xs,hx,q1⟩:=q1;obtain⟨h1,h2⟩:=zKR (T:="list") I1 r1 (.inl ⟨rfl,xs,SqL.of hx⟩);refine⟨"list",id,pa,slot,hty,h1,h2,?_⟩;have hA:=ha cpos pins s1 σ H1 _ I1 q1;rw[hs]at hA ⊢;refine Calls.callWith_builtin (by show(false||(backTo cpos (starEach es X.env)).any (·.1))=false;rw[hplain]<;>rfl) (Calls.evalArgs_plain ?_);exact thn hA fun us s2 ⟨vs,H2,I2,r2,q2⟩=>hm pins s2 σ H2 (.ref p) vs v us Q I2 r1 r2 q2
end
end L2
namespace L2
open PySem PySem.Spec PyProof.Rows
theorem same_new{H:Hp}{p:Addr}(h:H p=none)(o:HO):Same H (upd H p o):=fun b u q=>by rw[zA9 (zAI q h)];exact q
theorem Same.upd{H H':Hp}{p:Addr}(s:Same H H')(h:H p=none)(o:HO):Same H (upd H' p o):=fun b u q=>by rw[zA9 (zAI q h)];exact s b u q
theorem zC3{H:Hp}:∀(ns:List Int),RepL H (ns.map Dat.int) (ns.map V.int)
 |[]=>rfl
 |n::r=>⟨.int n,r.map V.int,rfl,rfl,zC3 r⟩
theorem zF9:∀(ns:List Int),Dat.depL (ns.map Dat.int)=0
 |[]=>rfl
 |n::r=>by
  rw[qAj,Dat.depL,zF9 r];rfl
theorem zEB:∀(ns ms:List Int),Dat.eqL (ns.map Dat.int) (ms.map Dat.int)=decide (ns=ms)
 |[],[]=>by simp[Dat.eqL]
 |[],_::_=>by simp[Dat.eqL]
 |_::_,[]=>by simp[Dat.eqL]
 |n::r,m::q=>by
  rw[qAj,qAj,Dat.eqL,zEB r q,Dat.eq]
  by_cases h:n=m
  ·subst h;simp
  ·simp[h]
theorem big{n:Nat}(h:n<=100000):n<sizeLine:=by rw[sizeLine_eq];lia
end L2
namespace L2
open PySem PySem.Spec PyProof.Rows
section
variable{X:Cx}
def rInU(K:qA0)(neg:Bool):R2:=fun x y H Q=>match y with
 |.ref p=>∃xs,(SqL K H p xs\/SqT K H p xs)/\zDL x=true/\xs.all zDL=true/\Q (.bl (if neg then !inV x xs else inV x xs)) H
 |.str j=>match x with
  |.str i=>Q (.bl (if neg then !(!(Builtin.Str.occurrences j i 0 j.length 1).isEmpty)else !(Builtin.Str.occurrences j i 0 j.length 1).isEmpty)) H
  |_=>False
 |_=>False
theorem zP7{K:qA0}(hK:X.K=K:=by rfl):OpR X (compareOp .NotIn) (rInU K true):=by
 subst hK;intro pins s σ H x y v u Q I rx ry h;cases y with
 |ref p=>
  obtain⟨xs,h1,h2,h3,h4⟩:=h;exact zHL pins s σ H _ _ v u Q I rx ry ⟨p,xs,rfl,h1,h2,h3,h4⟩
 |str j=>
  cases x with
  |str i=>exact zHK pins s σ H _ _ v u Q I rx ry ⟨i,j,rfl,rfl,h⟩
  |_=>exact qA4 h
 |_=>exact qA4 h
end
end L2
namespace Mi
open PySem
noncomputable section
inductive Sv where
 |i (n:Int)|s (x:Str)
inductive Sw where
 |non|bl (b:Bool)|int (i:Int)|str (x:Str)
inductive Dt where
 |non|bl (b:Bool)|int (i:Int)|str (x:Str)|lst (xs:List Dt)|tup (xs:List Dt)|scr (ns:List Int)|exc (c f:Str) (d:Dt)|ins (c:Str) (fs:List (Str×Sv))|dct (kvs:List (Sum Int Str×Sw))|fn (x:Str) (d:Dt)
mutual
def Dt.dep:Dt->Nat
 |.lst xs=>Dt.depL xs+1
 |.tup xs=>Dt.depL xs+1
 |.scr _=>1000
 |.exc _ _ _=>1000
 |.fn _ _=>1000
 |.ins _ _=>1000
 |.dct _=>1000
 |_=>0
def Dt.depL:List Dt->Nat
 |[]=>0
 |x::r=>max x.dep (Dt.depL r)
end
mutual
def Dt.eq:Dt->Dt->Bool
 |.non,.non=>true
 |.bl a,.bl b=>a==b
 |.bl a,.int b=>(if a then 1 else 0)==b
 |.int a,.bl b=>a==(if b then 1 else 0)
 |.int a,.int b=>a==b
 |.str a,.str b=>a==b
 |.lst xs,.lst ys=>Dt.eqL xs ys
 |.tup xs,.tup ys=>Dt.eqL xs ys
 |_,_=>false
def Dt.eqL:List Dt->List Dt->Bool
 |[],[]=>true
 |x::r,y::q=>Dt.eq x y&&Dt.eqL r q
 |_,_=>false
end
structure Xn where
 cls:Str
 f:Str
 d:Dt
abbrev R(α:Type):=Option (Except Xn α)
noncomputable def okR{α:Type}(a:α):R α:=some (.ok a)
noncomputable def zA3{α β:Type}(x:R α)(f:α->R β):R β:=match x with
 |none=>none
 |some (.error e)=>some (.error e)
 |some (.ok a)=>f a
def optR{α:Type}(o:Option α):R α:=match o with
 |none=>none
 |some a=>okR a
@[simp] theorem zA0{α β:Type}(a:α)(f:α->R β):zA3 (okR a) f=f a:=rfl
@[simp] theorem zA6{α β:Type}(f:α->R β):zA3 none f=none:=rfl
@[simp] theorem zAC{α β:Type}(e:Xn)(f:α->R β):zA3 (some (.error e)) f=some (.error e):=rfl
@[simp] theorem zAA{α:Type}(a:α):optR (some a)=okR a:=rfl
@[simp] theorem zAB{α:Type}:optR (none:Option α)=none:=rfl
abbrev Rh:=List (Option Dt)
abbrev Sl:=Dt×Nat
abbrev Ro:=List (Option Sl)
abbrev EM:=Rh->R Dt
abbrev TM:=Rh->R Bool
abbrev AM:=Rh->R (List Dt)
abbrev FM:=List Dt->R Dt
noncomputable def ixA(n:Nat)(i:Int):Option Nat:=if 0<=i then(if i<n then some i.toNat else none)else if -(n:Int)<=i then some (i+n).toNat else none
def itA{α:Type}(xs:List α)(i:Int):Option α:=(ixA xs.length i).bind fun j=>xs[j]?
noncomputable def addD:Dt->Dt->Option Dt
 |.int i,.int j=>some (.int (i+j))
 |.str i,.str j=>@ite _ (i.length+j.length<=100000) (qA1 _) (some (.str (i++j))) none
 |.lst xs,.lst ys=>@ite _ (xs.length+ys.length<=100000) (qA1 _) (some (.lst (xs++ys))) none
 |_,_=>none
noncomputable def subD:Dt->Dt->Option Dt
 |.int i,.int j=>some (.int (i-j))
 |_,_=>none
noncomputable def mulD:Dt->Dt->Option Dt
 |.int i,.int j=>@ite _ (((-18446744073709551616<i/\i<18446744073709551616)\/(-18446744073709551616<j/\j<18446744073709551616))\/i.natAbs.log2+j.natAbs.log2<=67108864) (qA1 _) (some (.int (i*j))) none
 |_,_=>none
noncomputable def divD:Dt->Dt->Option Dt
 |.int i,.int j=>@ite _ (0<j/\j<1000000000000000000000000) (qA1 _) (some (.int (i/j))) none
 |_,_=>none
noncomputable def modD:Dt->Dt->Option Dt
 |.int i,.int j=>if 0<j then some (.int (i%j))else none
 |_,_=>none
noncomputable def powD:Dt->Dt->Option Dt
 |.int i,.int j=>@ite _ (0<=j/\j<=1000000/\i.natAbs<18446744073709551616) (qA1 _) (some (.int (i ^ j.toNat))) none
 |_,_=>none
noncomputable def negD:Dt->Option Dt
 |.int i=>some (.int (-i))
 |_=>none
noncomputable def cmpD(p:Int->Int->Bool):Dt->Dt->Option Dt
 |.int i,.int j=>some (.bl (p i j))
 |_,_=>none
noncomputable def eqD(x y:Dt):Option Dt:=if x.dep<=40/\y.dep<=40 then some (.bl (Dt.eq x y))else none
noncomputable def neD(x y:Dt):Option Dt:=if x.dep<=40/\y.dep<=40 then some (.bl (!Dt.eq x y))else none
noncomputable def zCZ:Dt->Bool
 |.non=>true
 |_=>false
def isD(x y:Dt):Option Dt:=match y with
 |.non=>some (.bl (zCZ x))
 |_=>none
noncomputable def zU4(x y:Dt):Option Dt:=match y with
 |.non=>some (.bl (!zCZ x))
 |_=>none
def ixD:Dt->Dt->Option Dt
 |.lst xs,.int i=>itA xs i
 |.tup xs,.int i=>itA xs i
 |.scr ns,.int i=>(itA ns i).map .int
 |.str z,.int i=>@ite _ (z.length<=100000) (qA1 _) ((itA z.cps.toList i).map fun c=>.str ⟨#[c]⟩) none
 |_,_=>none
noncomputable def lenD:List Dt->Option Dt
 |[.lst xs]=>some (.int xs.length)
 |[.tup xs]=>some (.int xs.length)
 |[.scr ns]=>some (.int ns.length)
 |[.str z]=>@ite _ (z.length<=100000) (qA1 _) (some (.int z.length)) none
 |_=>none
noncomputable def listD:List Dt->Option Dt
 |[.lst xs]=>some (.lst xs)
 |[.tup xs]=>some (.lst xs)
 |[.scr ns]=>some (.lst (ns.map .int))
 |_=>none
noncomputable def nums(lo:Int)(n:Nat):List Dt:=(qAg n).map fun i:Nat=>.int (lo+(i:Int))
noncomputable def tyD:Dt->String
 |.non=>"NoneType"
 |.bl _=>"bool"
 |.int _=>"int"
 |.str _=>"str"
 |.lst _=>"list"
 |.tup _=>"tuple"
 |.scr _=>""
 |.exc _ _ _=>""
 |.fn _ _=>""
 |.ins _ _=>""
 |.dct _=>""
def isiD(n:String)(x:Dt):Option Dt:=if tyD x = "" then none else some (.bl (tyD x==n||(tyD x == "bool" && n == "int")))
noncomputable def zT8:List Dt->Option (List Bool)
 |[]=>some []
 |.bl b::r=>(zT8 r).map (b::·)
 |_::_=>none
noncomputable def maxD:List Dt->Option Dt
 |[.int i,.int j]=>some (.int (if j>i then j else i))
 |_=>none
noncomputable def minD:List Dt->Option Dt
 |[.int i,.int j]=>some (.int (if j<i then j else i))
 |_=>none
noncomputable def absD:List Dt->Option Dt
 |[.int i]=>some (.int (if i<0 then -i else i))
 |_=>none
noncomputable def hasD(x:Dt)(ys:List Dt):Option Bool:=if x.dep=0/\Dt.depL ys=0 then some (ys.any fun y=>Dt.eq y x)else none
def inD(ng:Bool)(x y:Dt):Option Dt:=match y with
 |.lst ys=>(hasD x ys).map fun b=>.bl (if ng=true then !b else b)
 |.tup ys=>(hasD x ys).map fun b=>.bl (if ng=true then !b else b)
 |.str z=>match x with
  |.str y=>match y.cps.toList with
   |[c]=>some (.bl (if ng=true then !decide (c∈z.cps.toList)else decide (c∈z.cps.toList)))
   |_=>none
  |_=>none
 |_=>none
noncomputable def cutIx(n d:Nat):Option Int->Nat
 |none=>d
 |some v=>if v<0 then(v+(n:Int)).toNat else min v.toNat n
def cutA{α:Type}(xs:List α)(lo hi:Option Int):List α:=(xs.drop (cutIx xs.length 0 lo)).take (cutIx xs.length xs.length hi-cutIx xs.length 0 lo)
def slD:Dt->Option Int->Option Int->Option Dt
 |.lst xs,lo,hi=>some (.lst (cutA xs lo hi))
 |.str z,lo,hi=>@ite _ (z.length<=100000) (qA1 _) (some (.str ⟨(cutA z.cps.toList lo hi).toArray⟩)) none
 |_,_,_=>none
abbrev OM:=Rh->R (Option Int)
def oNo:OM:=fun _=>okR none
def oE(e:Rh->R Dt):OM:=fun ρ=>zA3 (e ρ) fun d=>match d with
 |.int i=>okR (some i)
 |_=>none
def eSl(a:Rh->R Dt)(lo hi:OM):Rh->R Dt:=fun ρ=>zA3 (a ρ) fun x=>zA3 (lo ρ) fun l=>zA3 (hi ρ) fun h=>optR (slD x l h)
noncomputable def posC(c:Nat):List Nat->Option Nat
 |[]=>none
 |x::r=>if x=c then some 0 else(posC c r).map (·+1)
def findD(x:Dt)(ys:List Dt):Option Dt:=match x,ys with
 |.str z,[.str y]=>match y.cps.toList with
  |[c]=>some (.int (match posC c z.cps.toList with|some i=>(i:Int)|none=>-1))
  |_=>none
 |_,_=>none
noncomputable def zT4(x:Dt)(ys:List Dt):Option Dt:=match x,ys with
 |.str z,[.str y]=>match y.cps.toList with
  |[c]=>some (.int (z.cps.toList.count c:Nat))
  |_=>none
 |_,_=>none
noncomputable def strsD:List Dt->Option (List Str)
 |[]=>some []
 |.str z::r=>(strsD r).map (z::·)
 |_::_=>none
def joinD(x:Dt)(ys:List Dt):Option Dt:=match x,ys with
 |.str z,[.lst ds]=>match strsD ds with
  |some zs=>@ite _ ((zs.map (·.length)).sum+zs.length*z.length<=100000) (qA1 _) (some (.str (Str.join z zs))) none
  |none=>none
 |_,_=>none
noncomputable def zJS:Dt->Bool
 |.str _=>true
 |_=>false
def eMt(f:Dt->List Dt->Option Dt)(a:Rh->R Dt)(am:Rh->R (List Dt)):Rh->R Dt:=fun ρ=>zA3 (a ρ) fun x=>if zJS x=true then zA3 (am ρ) fun xs=>optR (f x xs)else none
noncomputable def signsD(z:Str):List Dt:=z.cps.toList.map fun c=>.str ⟨#[c]⟩
def eC(d:Dt):EM:=fun _=>okR d
def eV(i:Nat):EM:=fun ρ=>match ρ[i]? with
 |some (some d)=>okR d
 |_=>none
def eB(f:Dt->Dt->Option Dt)(a b:EM):EM:=fun ρ=>zA3 (a ρ) fun x=>zA3 (b ρ) fun y=>optR (f x y)
def eU(f:Dt->Option Dt)(a:EM):EM:=fun ρ=>zA3 (a ρ) fun x=>optR (f x)
def eAnd(a b:EM):EM:=fun ρ=>zA3 (a ρ) fun x=>match x with
 |.bl k=>if k=true then b ρ else okR (.bl false)
 |_=>none
def eOr(a b:EM):EM:=fun ρ=>zA3 (a ρ) fun x=>match x with
 |.bl k=>if k=true then okR (.bl true)else b ρ
 |_=>none
def eNot(a:EM):EM:=fun ρ=>zA3 (a ρ) fun x=>match x with
 |.bl k=>okR (.bl (!k))
 |_=>none
def zSU(p q:Dt->Dt->Option Dt)(a b c:EM):EM:=fun ρ=>zA3 (a ρ) fun x=>zA3 (b ρ) fun y=>zA3 (optR (p x y)) fun z=>match z with
 |.bl k=>if k=true then zA3 (c ρ) fun w=>optR (q y w)else okR (.bl false)
 |_=>none
def eIf(c:TM)(a b:EM):EM:=fun ρ=>zA3 (c ρ) fun k=>if k=true then a ρ else b ρ
def aNil:AM:=fun _=>okR []
def aCons(e:EM)(r:AM):AM:=fun ρ=>zA3 (e ρ) fun x=>zA3 (r ρ) fun xs=>okR (x::xs)
def eLst(a:AM):EM:=fun ρ=>zA3 (a ρ) fun xs=>@ite _ (xs.length<=100000) (qA1 _) (okR (.lst xs)) none
def eTup(a:AM):EM:=fun ρ=>zA3 (a ρ) fun xs=>@ite _ (xs.length<=100000) (qA1 _) (okR (.tup xs)) none
def eCall(f:FM)(a:AM):EM:=fun ρ=>zA3 (a ρ) f
def eBi(f:List Dt->Option Dt)(a:AM):EM:=fun ρ=>zA3 (a ρ) fun xs=>optR (f xs)
def eIsi(n:String)(a:EM):EM:=fun ρ=>zA3 (a ρ) fun x=>optR (isiD n x)
def tB(a:EM):TM:=fun ρ=>zA3 (a ρ) fun x=>match x with
 |.bl k=>okR k
 |_=>none
def tM(a:EM):TM:=fun ρ=>zA3 (a ρ) fun x=>match x with
 |.bl k=>okR k
 |.int i=>okR (i != 0)
 |.non=>okR false
 |_=>none
def tAn(a b:TM):TM:=fun ρ=>zA3 (a ρ) fun k=>if k=true then b ρ else okR false
def tOr(a b:TM):TM:=fun ρ=>zA3 (a ρ) fun k=>if k=true then okR true else b ρ
def tNo(a:TM):TM:=fun ρ=>zA3 (a ρ) fun k=>okR (!k)
def tYes:TM:=fun _=>okR true
abbrev IM:=Rh->R (List Dt)
def iSq(e:EM):IM:=fun ρ=>zA3 (e ρ) fun d=>match d with
 |.lst xs=>okR xs
 |.tup xs=>okR xs
 |.scr ns=>okR (ns.map .int)
 |.str z=>okR (signsD z)
 |_=>none
def iR1(e:AM):IM:=fun ρ=>zA3 (e ρ) fun vs=>match vs with
 |[.int j]=>@ite _ (-4611686018427387904<=j/\j<4611686018427387904) (qA1 _) (okR (nums 0 j.toNat)) none
 |_=>none
noncomputable def zQB(n:Nat):List Dt->List Dt
 |[]=>[]
 |x::r=>.tup [.int n,x]::zQB (n+1) r
def iEn(e:AM):IM:=fun ρ=>zA3 (e ρ) fun vs=>match vs with
 |[.lst xs]=>okR (zQB 0 xs)
 |_=>none
noncomputable def zipD:List Dt->List Dt->List Dt
 |x::r,y::q=>.tup [x,y]::zipD r q
 |_,_=>[]
def iZi(e:AM):IM:=fun ρ=>zA3 (e ρ) fun vs=>match vs with
 |[.lst xs,.lst ys]=>okR (zipD xs ys)
 |_=>none
inductive Tg where
 |one (i:Nat)
 |tup (is:List Nat)
noncomputable def zAR:Tg->Dt->Option (List (Nat×Dt))
 |.one i,d=>some [(i,d)]
 |.tup is,.tup ds=>if ds.length=is.length then some (is.zip ds)else none
 |.tup _,_=>none
noncomputable def Tg.idx:Tg->List Nat
 |.one i=>[i]
 |.tup is=>is
noncomputable def zAQ:Rh->List (Nat×Dt)->Rh
 |ρ,[]=>ρ
 |ρ,(i,d)::r=>zAQ (ρ.set i (some d)) r
noncomputable def zAU:Ro->List (Nat×Dt)->Ro
 |ρ,[]=>ρ
 |ρ,(i,d)::r=>zAU (ρ.set i (some (d,0))) r
def compGo(ρ:Rh)(k:Nat)(tg:Tg)(c:TM)(e:EM):List Dt->List Dt->R (List Dt)
 |[],acc=>okR acc
 |d::ds,acc=>match zAR tg d with
  |none=>none
  |some bs=>zA3 (c (zAQ (ρ++qA7 k none) bs)) fun b=>if b=true then zA3 (e (zAQ (ρ++qA7 k none) bs)) fun x=>compGo ρ k tg c e ds (acc++[x])else compGo ρ k tg c e ds acc
def eComp(it:IM)(k:Nat)(tg:Tg)(c:TM)(e:EM):EM:=fun ρ=>zA3 (it ρ) fun ds=>@ite _ (ds.length<=100000/\(tg.idx.all fun i=>decide (ρ.length<=i))=true) (qA1 _) (zA3 (compGo ρ k tg c e ds []) fun es=>okR (.lst es)) none
inductive Out where
 |nx (ρ:Ro)|rt (d:Dt)|bk (ρ:Ro)|ct (ρ:Ro)
abbrev SM:=Ro->R Out
noncomputable def full(ρ:Ro):Rh:=ρ.map fun o=>o.map Prod.fst
noncomputable def frz(ρ:Ro):Rh:=ρ.map fun o=>match o with
 |some (d,n)=>if n=0\/d.dep=0 then some d else none
 |none=>none
noncomputable def frz1(i:Nat)(ρ:Ro):Ro:=match ρ[i]? with
 |some (some (d,_))=>ρ.set i (some (d,0))
 |_=>ρ
def frzAt:List Nat->Ro->Ro
 |[],ρ=>ρ
 |i::r,ρ=>frzAt r (frz1 i ρ)
def sNil:SM:=fun ρ=>okR (.nx ρ)
def sSeq(a b:SM):SM:=fun ρ=>zA3 (a ρ) fun o=>match o with
 |.nx ρ'=>b ρ'
 |o=>okR o
noncomputable def zR7:SM:=fun _=>none
def zR8:SM:=fun ρ=>okR (.bk ρ)
def zTO:SM:=fun ρ=>okR (.ct ρ)
def sIf(c:TM)(a b:SM):SM:=fun ρ=>zA3 (c (full ρ)) fun k=>if k=true then a ρ else b ρ
def zTM(e:EM):SM:=fun ρ=>zA3 (e (full ρ)) fun _=>okR (.nx ρ)
def sSet(i n:Nat)(vs:List Nat)(e:EM):SM:=fun ρ=>zA3 (e (full ρ)) fun d=>
 if d.dep<=n then okR (.nx (ρ.set i (some (d,n))))else zA3 (e (frz (frzAt vs ρ))) fun d'=>okR (.nx ((frzAt vs ρ).set i (some (d',n))))
def sRet(L n:Nat)(vs:List Nat)(e:EM):SM:=fun ρ=>zA3 (e (full ρ)) fun d=>
 if d.dep<=n/\d.dep<=L then okR (.rt d)else if n=L then zA3 (e (frz (frzAt vs ρ))) fun d'=>okR (.rt d')else none
def zTK:SM:=fun _=>okR (.rt .non)
def sRetV(L i:Nat):SM:=fun ρ=>match ρ[i]? with
 |some (some (d,k))=>if k=L\/L=0\/(d.dep<=k/\d.dep<=L/\k<1000)then okR (.rt d)else none
 |_=>none
def sApp(i n:Nat)(e:EM):SM:=fun ρ=>match ρ[i]? with
 |some (some (.lst ds,k+1))=>zA3 (e (full ρ)) fun d=>@ite _ (ds.length<=100000/\d.dep<=n/\d.dep<=k) (qA1 _) (okR (.nx (ρ.set i (some (.lst (ds++[d]),k+1))))) none
 |_=>none
def sItem2(i n:Nat)(e0 e1 e2:EM):SM:=fun ρ=>zA3 (e2 (full ρ)) fun d=>match ρ[i]? with
 |some (some (.lst rs,k+2))=>zA3 (e0 (full ρ)) fun y=>match y with
  |.int y=>match ixA rs.length y with
   |some p=>match rs[p]? with
    |some (.lst ds)=>zA3 (e1 (full ρ)) fun z=>match z with
     |.int z=>match ixA ds.length z with
      |some q=>if d.dep<=n/\d.dep<=k then okR (.nx (ρ.set i (some (.lst (rs.set p (.lst (ds.set q d))),k+2))))else none
      |none=>none
     |_=>none
    |_=>none
   |none=>none
  |_=>none
 |_=>none
def forGo(tg:Tg)(b:SM):List Dt->SM
 |[],ρ=>okR (.nx ρ)
 |d::ds,ρ=>match zAR tg d with
  |none=>none
  |some bs=>zA3 (b (zAU ρ bs)) fun o=>match o with
   |.nx ρ'=>forGo tg b ds ρ'
   |.ct ρ'=>forGo tg b ds ρ'
   |.bk ρ'=>okR (.nx ρ')
   |.rt d=>okR (.rt d)
def sFor(vs:List Nat)(it:IM)(tg:Tg)(b:SM):SM:=fun ρ=>zA3 (it (frz (frzAt vs ρ))) fun ds=>forGo tg b ds (frzAt vs ρ)
def sForR(it:IM)(i:Nat)(b:SM):SM:=fun ρ=>zA3 (it (full ρ)) fun ds=>forGo (.one i) b ds ρ
def whGo(c:TM)(b:SM):Nat->SM
 |0,_=>none
 |m+1,ρ=>zA3 (c (full ρ)) fun k=>if k=true then zA3 (b ρ) fun o=>match o with
   |.nx ρ'=>whGo c b m ρ'
   |.ct ρ'=>whGo c b m ρ'
   |.bk ρ'=>okR (.nx ρ')
   |.rt d=>okR (.rt d)
  else okR (.nx ρ)
noncomputable def WNs:{ n:Nat // n=1000000 }:=Classical.choice ⟨⟨1000000,rfl⟩⟩
noncomputable def WN:Nat:=WNs.val
def zO8(c:TM)(b:SM):SM:=fun ρ=>whGo c b WN ρ
noncomputable def startO(n:Nat)(ds:List Dt):Ro:=ds.map (fun d=>some (d,0))++qA7 (n-ds.length) none
def endF:Out->R Dt
 |.nx _=>okR .non
 |.rt d=>okR d
 |_=>none
def runF(P n:Nat)(b:SM):FM:=fun ds=>if ds.length=P then zA3 (b (startO n ds)) endF else none
end
end Mi
namespace L2
open PySem PySem.Spec PyProof.Rows
theorem zOY(n d:Nat)(o:Option Int)(hd:d<=n):HT.sIx n d o<=n:=by
 cases o with
 |none=>exact hd
 |some v=>
  show(if v<0 then(v+(n:Int)).toNat else min v.toNat n)<=n
  split<;>lia
theorem zKH(lo hi:Option Int)(n:Nat):Builtin.Str.strSliceIndices lo hi 1 n=(qAg (HT.sIx n n hi-HT.sIx n 0 lo)).map fun k=>HT.sIx n 0 lo+k:=by
 unfold Builtin.Str.strSliceIndices sliceRange;have c1:∀(o:Option Int)(d:Nat),(match o with|none=>(d:Int)|some i=>(if(1:Int)>0 then max 0 (min (if i<0 then i+(n:Int)else i) n)else max (-1) (min (if i<0 then i+(n:Int)else i) (n-1))))=((HT.sIx n d o:Nat):Int):=by
  intro o d;cases o with
  |none=>rfl
  |some v=>
   show _=(((if v<0 then(v+(n:Int)).toNat else min v.toNat n:Nat)):Int)
   dsimp only;rw[if_pos (by decide)]
   split<;>lia
 dsimp only;rw[if_pos (show(1:Int)>0 by decide),if_pos (show(1:Int)>0 by decide),if_pos (show(1:Int)>0 by decide)];have e1:=c1 lo 0;have e2:=c1 hi n;rw[show((0:Nat):Int)=0 by rfl]at e1;have h1:∀a b:Int,a=((HT.sIx n 0 lo:Nat):Int)->b=((HT.sIx n n hi:Nat):Int)->(qAg ((if a<b then(b-a+1-1)/1 else 0).toNat)).map (fun k:Nat=>(a+1*(k:Int)).toNat)=(qAg (HT.sIx n n hi-HT.sIx n 0 lo)).map fun k=>HT.sIx n 0 lo+k:=by
  intro a b ha hb;subst ha hb;have e:(if((HT.sIx n 0 lo:Nat):Int)<((HT.sIx n n hi:Nat):Int)then(((HT.sIx n n hi:Nat):Int)-((HT.sIx n 0 lo:Nat):Int)+1-1)/1 else 0).toNat=HT.sIx n n hi-HT.sIx n 0 lo:=by
   split
   ·rw[Int.ediv_one];lia
   ·lia
  rw[e];refine qE0 fun k _=>?_
  lia
 exact h1 _ _ e1 e2
theorem zL6:∀(xs:List Nat)(a k:Nat),a+k<=xs.length->((qAg k).map fun j=>a+j).filterMap (xs[·]?)=(xs.drop a).take k:=by
 intro xs a k h
 induction k with
 |zero=>simp
 |succ k ih=>
  rw[qDq,qBt,List.filterMap_append,ih (by lia),List.take_add_one]
  congr 1
  have:a+k<xs.length:=by lia
  simp[List.getElem?_drop,this]
theorem zMR(z:Str)(lo hi:Option Int):Txt.slice z lo hi=⟨(Mi.cutA z.cps.toList lo hi).toArray⟩:=by
 obtain⟨⟨xs⟩⟩:=z;have hl:(⟨⟨xs⟩⟩:Str).length=xs.length:=rfl;unfold Txt.slice;rw[zKH,hl];have e0:∀o d,Mi.cutIx xs.length d o=HT.sIx xs.length d o:=fun o d=>by cases o<;>rfl
 have hb:=zOY xs.length xs.length hi (qA6 _);have ha:=zOY xs.length 0 lo (qB8 _);have hc:Mi.cutA xs lo hi=(xs.drop (HT.sIx xs.length 0 lo)).take (HT.sIx xs.length xs.length hi-HT.sIx xs.length 0 lo):=by
  unfold Mi.cutA;rw[e0,e0]
 show _=(⟨(Mi.cutA xs lo hi).toArray⟩:Str)
 rw[hc]
 split
 ·rename_i h
  have h':HT.sIx xs.length xs.length hi-HT.sIx xs.length 0 lo=xs.length:=by simpa using h
  have a0:HT.sIx xs.length 0 lo=0:=by lia
  rw[h',a0,qD5,qDi]
 ·by_cases hle:HT.sIx xs.length 0 lo<=HT.sIx xs.length xs.length hi
  ·have:=zL6 xs (HT.sIx xs.length 0 lo) (HT.sIx xs.length xs.length hi-HT.sIx xs.length 0 lo) (by lia)
   rw[<- this];simp
  ·rw[show HT.sIx xs.length xs.length hi-HT.sIx xs.length 0 lo=0 by lia];simp
section
variable{X:Cx}
def rSlU(K:qA0):V->Option Int->Option Int->Hp->VK->Prop:=fun x lo hi H Q=>match x with
 |.str z=>z.length<=sizeLine/\Q (.str ⟨(Mi.cutA z.cps.toList lo hi).toArray⟩) H
 |.ref a=>∃xs,SqL K H a xs/\∀p,H p=none->Q (.ref p) (upd H p (.lst (cutV xs lo hi)))
 |_=>False
theorem zLE{v:Value}{o:Option Int}(h:IsPart v o):∃l:Option (Int×Tok),v=partValue l/\l.map (·.1)=o:=by
 cases h with
 |none=>exact⟨none,rfl,rfl⟩
 |int i t=>exact⟨some (i,t),rfl,rfl⟩
theorem u_sl{K:qA0}(hK:X.K=K:=by rfl):SlR X (rSlU K):=by
 subst hK;intro pins s σ H x v vl vu lo hi sl Q I rx hs pl pu h;cases x with
 |ref a=>
  obtain⟨xs,h1,h2⟩:=h;exact zPC pins s σ H _ v vl vu lo hi sl Q I rx hs pl pu ⟨a,xs,rfl,h1,h2⟩
 |str z=>
  obtain⟨hz,q⟩:=h;obtain⟨t,rfl⟩:=rx;obtain⟨l,rfl,el⟩:=zLE pl;obtain⟨u,rfl,eu⟩:=zLE pu;obtain⟨o,g1,g2,g3⟩:=hs;refine⟨"str",_,F.slot_str_getitem.lookup,typeIs_str _ _ _,wpAny_getItem_str_slice (l:=l) (u:=u) (st:=none) ⟨o,g1,g2,g3⟩ rfl ?_⟩;have hp:(if((1:Int)==1&&(Builtin.Str.strSliceIndices lo hi 1 z.length).length==z.length)=true then Made.val (.str z t)else Made.str ⟨((Builtin.Str.strSliceIndices lo hi 1 z.length).filterMap (z.cps[·]?)).toArray⟩).post (EP X pins σ Q) s:=by
   refine post_val_or_str ⟨qAm (Txt.slice_le z lo hi) hz,fun t' k=>?_⟩;refine⟨.str (Txt.slice z lo hi),H,I.tok _,⟨_,rfl⟩,?_⟩;rw[zMR];exact q
  unfold sliceMade slicePicked;rw[el,eu];exact hp
 |_=>exact qA4 h
end
noncomputable def Its(z:Str):It:=⟨fun i _=>i<z.cps.size,fun i H x H'=>H'=H/\∃c,z.cps[i]?=some c/\x=.str ⟨#[c]⟩,fun i _=>z.cps.size<=i⟩
theorem zMP{P:Program}{w:World}{K:qA0}{tg:Expr}(z:Str)(t:Tok)(it:Addr)(ty:String)(hty:ty=strIterType z):Turn P w K tg (Its z) [it] it (fun i h=>h.IsStrIter it ty z t i) where
 mem:=by simp
 obj:=fun i h st b hb=>by
  have e:b=it:=by simpa using hb
  subst e;obtain⟨o,e,c,d⟩:=st;exact⟨o,e,fun v z=>by rw[d]at z;cases z⟩
 keep:=fun i h h' st k=>by obtain⟨o,ho,r⟩:=st;exact⟨o,k it (by simp) o ho,r⟩
 item:=by
  intro X hP hw hK hc i pins s σ H E I hf st hg;subst hP hw hK;have hi:i<z.cps.size:=hg;have hx:z.cps[i]?=some z.cps[i]:=Array.getElem?_eq_getElem hi;obtain⟨f0,f1,f2,f3,f4,f5⟩:=hf it (by simp);have fin:∀h',h'.IsStrIter it ty z t (i+1)->Heap.SameBut it s.heap h'->∃u,some (Value.str ⟨#[z.cps[i]]⟩ s.toks)=some u/\wpAny (model X.prog X.w) X.A (letOwnedTupleGo tg (.ref it) u) (fun _ s2=>∃x H',Inv X pins σ H' s2/\RelV x u/\(Its z).yld i H x H'/\s2.heap.IsStrIter it ty z t (i+1)/\∀b∈[it],H' b=none) E { s with heap:=h',toks:=s.toks+1 }:=by
   intro h' st' sb;have I1:Inv X pins σ H { s with heap:=h',toks:=s.toks+1 }:=I.turned (t':=s.toks+1) (fun b o hb e=>(sb.2 b hb).trans e) f0 f1 f3 f4 f5;obtain⟨o,e,c,d⟩:=id st';refine⟨_,rfl,zNL (s:={ s with heap:=h',toks:=s.toks+1 }) e c d ?_ ⟨.str ⟨#[z.cps[i]]⟩,H,I1,⟨_,rfl⟩,⟨rfl,_,hx,rfl⟩,st',fun b hb=>(hf b hb).1⟩⟩;rw[hty];unfold strIterType;split<;>decide
  cases ha:z.cps.all (· < 128)
  ·have e:ty = "str_iterator":=by rw[hty];unfold strIterType;rw[ha];rfl
   subst e;exact wpAny_pyNext_wide_item st hx fun h' a b=>fin h' a b
  ·have e:ty = "str_ascii_iterator":=by rw[hty];unfold strIterType;rw[ha];rfl
   subst e;exact wpAny_pyNext_ascii_item st hx fun h' a b=>fin h' a b
 done:=by
  intro X hP hw hK hc i pins s σ H E I hf st hg;subst hP hw hK;have hx:z.cps[i]?=none:=Array.getElem?_eq_none hg;obtain⟨f0,f1,f2,f3,f4,f5⟩:=hf it (by simp);have fin:∀h',Heap.ExtBut it s.heap h'->(none:Option Value)=none/\Inv X pins σ H { s with heap:=h' }:=fun h' eb=>⟨rfl,I.turned (t':=s.toks) (fun b o hb e=>eb b o hb e) f0 f1 f3 f4 f5⟩
  cases ha:z.cps.all (· < 128)
  ·have e:ty = "str_iterator":=by rw[hty];unfold strIterType;rw[ha];rfl
   subst e;exact wpAny_pyNext_wide_end (I.ok.hd hc) st hx fun h' a=>fin h' a
  ·have e:ty = "str_ascii_iterator":=by rw[hty];unfold strIterType;rw[ha];rfl
   subst e;exact wpAny_pyNext_ascii_end (I.ok.hd hc) st hx fun h' a=>fin h' a
 self:=fun A i s Q E st h=>by
  cases ha:z.cps.all (· < 128)
  ·have e:ty = "str_iterator":=by rw[hty];unfold strIterType;rw[ha];rfl
   subst e;exact wpAny_pyIter_striter_wide st h
  ·have e:ty = "str_ascii_iterator":=by rw[hty];unfold strIterType;rw[ha];rfl
   subst e;exact wpAny_pyIter_striter_ascii st h
section
variable{X:Cx}
def iAny(K:qA0)(tl:TE):TI:=fun σ H R=>tl σ H fun x H1=>match x with
 |.ref a=>(∃xs,SqL K H1 a xs)/\R (Itl K a) H1\/(∃xs,SqT K H1 a xs)/\R (Itt K a) H1
 |.str z=>R (Its z) H1
 |_=>False
theorem zER{K:qA0}{tg l:Expr}{tl:TE}(hl:PE X l tl)(hK:X.K=K:=by rfl):PI X tg l (iAny K tl):=by
 subst hK;intro pins s σ H R I h;refine thn (hl pins s σ H _ I h) fun v s1 z0=>?_
 obtain⟨x,H1,I1,r1,q1⟩:=z0;cases x with
 |ref a=>
  cases r1
  rcases q1 with⟨⟨xs,hq⟩,q⟩|⟨⟨xs,hq⟩,q⟩
  ·obtain⟨its,rv,p,hz⟩:=I1.list hq;refine wpAny_pyIter_list p.isList ?_;refine⟨s1.heap.objs.size,[s1.heap.objs.size],_,_,H1,rfl,I1.kept (t':=s1.toks) fun b o e=>Heap.get?_push_of_some _ e,zKS a _,⟨_,Heap.get?_push_size _ rfl,rfl,rfl⟩,fun b hb=>?_,q⟩;have e:b=s1.heap.objs.size:=by simpa using hb
   subst e;exact I1.fpOk (qA6 _) (I1.hok.fresh (qA6 _))
  ·obtain⟨its,rv,p,hz⟩:=I1.tuple hq;refine wpAny_pyIter_tuple (show s1.heap.IsTuple a its.toArray from p) ?_;refine⟨s1.heap.objs.size,[s1.heap.objs.size],_,_,H1,rfl,I1.kept (t':=s1.toks) fun b o e=>Heap.get?_push_of_some _ e,zK5 a _,⟨_,Heap.get?_push_size _ rfl,rfl,rfl⟩,fun b hb=>?_,q⟩;have e:b=s1.heap.objs.size:=by simpa using hb
   subst e;exact I1.fpOk (qA6 _) (I1.hok.fresh (qA6 _))
 |str z=>
  obtain⟨t,rfl⟩:=r1;refine wpAny_pyIter_strU ?_;refine⟨s1.heap.objs.size,[s1.heap.objs.size],_,_,H1,rfl,I1.kept (t':=s1.toks) fun b o e=>Heap.get?_push_of_some _ e,zMP z t _ _ rfl,⟨_,Heap.get?_push_size _ rfl,rfl,rfl⟩,fun b hb=>?_,q1⟩;have e:b=s1.heap.objs.size:=by simpa using hb
  subst e;exact I1.fpOk (qA6 _) (I1.hok.fresh (qA6 _))
 |_=>exact qA4 q1
def zSS:V->List V->Hp->VK->Prop:=fun x vs H Q=>match x,vs with
 |.str z,[.str y]=>Q (.int (Txt.find z y)) H
 |_,_=>False
theorem zN8:MtR X "str.find" zSS:=by
 intro pins s σ H x vs v us Q I rx rv h;cases x with
 |str z=>
  cases vs with
  |nil=>exact qA4 h
  |cons y t=>
   cases y with
   |str y=>
    cases t with
    |nil=>
     obtain⟨t,rfl⟩:=rx;obtain⟨u,rfl,ru⟩:=zK3 rv;obtain⟨t2,rfl⟩:=ru;exact SC.find ⟨.int _,H,I.tok _,⟨_,rfl⟩,h⟩
    |cons _ _=>exact qA4 h
   |_=>exact qA4 h
 |_=>exact qA4 h
theorem zHA:∀{ys:List Str}{us:List Value},Vals (ys.map V.str) us->StrsAre us ys
 |[],_,.nil=>.nil
 |y::ys,_,.cons r t=>by obtain⟨k,rfl⟩:=r;exact .cons y k (zHA t)
def zSG:V->List V->Hp->VK->Prop:=fun x vs H Q=>match x,vs with
 |.str z,[.ref a]=>∃ys:List Str,H a=some (.lst (ys.map V.str))/\(ys.map (·.length)).sum+ys.length*z.length<=16777216/\Q (.str (Str.join z ys)) H
 |_,_=>False
theorem zN7:MtR X "str.join" zSG:=by
 intro pins s σ H x vs v us Q I rx rv h;cases x with
 |str z=>
  cases vs with
  |nil=>exact qA4 h
  |cons hd1 tl1=>
   cases hd1 with
   |ref a=>
    cases tl1 with
    |nil=>
     obtain⟨t,rfl⟩:=rx;obtain⟨u,rfl,ru⟩:=zK3 rv;cases ru;obtain⟨ys,h1,h2,h3⟩:=h;obtain⟨its,rv,hl⟩:=zAS I.hok h1;exact join_list hl (by simpa using zHA rv) h2 fun t' k=>⟨.str (Str.join z ys),H,I.tok _,⟨t',by rw[eq_of_beq (join_closes (ys:=ys) (rfl:z=z))]⟩,h3⟩
    |cons _ _=>exact qA4 h
   |_=>exact qA4 h
 |_=>exact qA4 h
end
theorem zIE(z:Str)(c i:Nat):(i+1<=z.length/\Builtin.Str.subAt z ⟨#[c]⟩ i=true)↔z.cps.toList[i]?=some c:=by
 obtain⟨⟨xs⟩⟩:=z;unfold Builtin.Str.subAt
 show(i+1<=xs.length/\((⟨xs⟩:Array Nat).extract i (i+1)==#[c])=true)↔xs[i]?=some c
 constructor
 ·rintro⟨h1,h2⟩
  have h3:=congrArg qEk (eq_of_beq h2);simp at h3;have hlt:i<xs.length:=by lia
  rw[qAq hlt];have h4:(List.take 1 (List.drop i xs))=[c]:=by
   have:=h3
   simpa[qD6]using this
  rw[qBg hlt,List.take_succ_cons]at h4;exact congrArg some (List.cons.inj h4).1
 ·intro h;have hlt:i<xs.length:=(qA2.mp h).1;have he:xs[i]=c:=(qA2.mp h).2;refine⟨by lia,?_⟩
  have:(⟨xs⟩:Array Nat).extract i (i+1)=#[c]:=by
   apply Array.toList_inj.mp
   simp[qD6];rw[qBg hlt];simp[he]
  rw[this];simp
theorem zGH(c:Nat):∀(xs:List Nat),(Mi.posC c xs=none/\∀i:Nat,xs[i]?≠some c)\/∃i:Nat,Mi.posC c xs=some i/\xs[i]?=some c/\∀j:Nat,j<i->xs[j]?≠some c
 |[]=>.inl ⟨rfl,fun i=>by simp⟩
 |x::r=>by
  rw[Mi.posC]
  by_cases h:x=c
  ·rw[if_pos h];exact .inr ⟨0,rfl,by simp[h],fun j hj=>by lia⟩
  ·rw[if_neg h]
   rcases zGH c r with⟨h1,h2⟩|⟨i,h1,h2,h3⟩
   ·rw[h1];refine .inl ⟨rfl,fun i=>?_⟩;cases i with
    |zero=>simpa using h
    |succ i=>simpa using h2 i
   ·rw[h1];refine .inr ⟨i+1,rfl,by simpa using h2,fun j hj=>?_⟩;cases j with
    |zero=>simpa using h
    |succ j=>simpa using h3 j (by lia)
theorem zHN(z y:Str)(hi:Nat):∀(l:List Nat)(free:Nat),(∀i∈l,free<=i)->l.Pairwise (· < ·) ->
  ((forIn l ((#[]:Array Nat),free) (StrLaws.occBody z y hi 1)).run.fst.toList=[]/\∀i∈l,¬(i+y.length<=hi/\Builtin.Str.subAt z y i=true)) \/
  ∃i,i∈l/\(forIn l ((#[]:Array Nat),free) (StrLaws.occBody z y hi 1)).run.fst.toList=[i]/\(i+y.length<=hi/\Builtin.Str.subAt z y i=true)/\∀j∈l,j<i->¬(j+y.length<=hi/\Builtin.Str.subAt z y j=true)
 |[],free,_,_=>.inl ⟨by simp,fun i h=>by simp at h⟩
 |a::l,free,hf,hp=>by
  rw[qDp];unfold StrLaws.occBody;have ha:free<=a:=hf a qB2;have hp':=List.pairwise_cons.mp hp
  by_cases hc:a+y.length<=hi/\Builtin.Str.subAt z y a=true
  ·have c1:(((#[]:Array Nat),free).fst.size<1/\((#[]:Array Nat),free).snd<=a)/\a+y.length<=hi:=⟨⟨by simp,ha⟩,hc.1⟩
   rw[if_pos ⟨c1,hc.2⟩];refine .inr ⟨a,qB2,?_,hc,fun j hj hlt=>?_⟩
   ·have stay:∀(l:List Nat)(st:Array Nat×Nat),st.fst.size=1->(forIn l st (StrLaws.occBody z y hi 1)).run.fst=st.fst:=by
     intro l
     induction l with
     |nil=>intro st _;rfl
     |cons b l ih=>
      intro st hs;rw[qDp];unfold StrLaws.occBody;rw[if_neg (by rw[hs];intro h;lia)];exact ih (st.fst,st.snd) hs
    have:=stay l (#[a],a+y.length) rfl
    show(forIn l (#[a],a+y.length) (StrLaws.occBody z y hi 1)).run.fst.toList=[a]
    rw[this]
   ·rcases qAa.mp hj with rfl|hm
    ·lia
    ·have:=hp'.1 j hm;lia
  ·have c2:¬(((((#[]:Array Nat),free).fst.size<1/\((#[]:Array Nat),free).snd<=a)/\a+y.length<=hi)/\Builtin.Str.subAt z y a=true):=fun h=>hc ⟨h.1.2,h.2⟩
   rw[if_neg c2]
   rcases zHN z y hi l free (fun i hi'=>hf i (qAl _ hi')) hp'.2 with⟨h1,h2⟩|⟨i,h1,h2,h3,h4⟩
   ·refine .inl ⟨h1,fun i hi'=>?_⟩
    rcases qAa.mp hi' with rfl|hm
    ·exact hc
    ·exact h2 i hm
   ·refine .inr ⟨i,qAl _ h1,h2,h3,fun j hj hlt=>?_⟩
    rcases qAa.mp hj with rfl|hm
    ·exact hc
    ·exact h4 j hm hlt
theorem zPX(z:Str)(c:Nat):Builtin.Str.occurrences z ⟨#[c]⟩ 0 z.length 1=(match Mi.posC c z.cps.toList with|some i=>[i]|none=>[]):=by
 rw[StrLaws.occ_eq];have hlen:(⟨#[c]⟩:Str).length=1:=rfl;have hzl:z.length=z.cps.toList.length:=by simp[Str.length]
 have hm:∀i,i<z.length->i∈qFx 0 (z.length+1-0):=fun i hi=>by simp[List.mem_range'];lia
 rcases zHN z ⟨#[c]⟩ z.length (qFx 0 (z.length+1-0)) 0 (fun _ _=>qB8 _) (List.pairwise_lt_range' (s:=0) (n:=z.length+1-0) (step:=1) (by decide))with⟨h1,h2⟩|⟨i,h1,h2,h3,h4⟩
 ·rw[h1]
  rcases zGH c z.cps.toList with⟨g1,_⟩|⟨j,g1,g2,_⟩
  ·rw[g1]
  ·exact absurd ((zIE z c j).mpr g2) (h2 j (hm j (by rw[hzl];exact(qA2.mp g2).1)))
 ·rw[h2];have hi:=(zIE z c i).mp h3
  rcases zGH c z.cps.toList with⟨_,g2⟩|⟨j,g1,g2,g3⟩
  ·exact absurd hi (g2 i)
  ·rw[g1];have hj:j<z.length:=by rw[hzl];exact(qA2.mp g2).1
   rcases Nat.lt_trichotomy i j with q|q|q
   ·exact absurd hi (g3 i q)
   ·rw[q]
   ·exact absurd ((zIE z c j).mpr g2) (h4 j (hm j hj) q)
theorem zNQ(z:Str)(c:Nat):Txt.find z ⟨#[c]⟩=(match Mi.posC c z.cps.toList with|some i=>(i:Int)|none=>-1):=by
 unfold Txt.find;rw[zPX];cases Mi.posC c z.cps.toList<;>rfl
end L2
namespace L2
open PySem PySem.Spec PyProof.Rows
def Itz(K:qA0)(a b:Addr):It:=
 ⟨fun i H=>∃xs ys x y,SqL K H a xs/\SqL K H b ys/\xs[i]?=some x/\ys[i]?=some y,fun i H v H'=>∃T x y,v=.ref T/\H T=none/\H'=upd H T (.tup [x,y])/\(∀xs,SqL K H a xs->xs[i]?=some x)/\∀ys,SqL K H b ys->ys[i]?=some y,
  fun i H=>∃xs ys,SqL K H a xs/\SqL K H b ys/\(xs.length<=i\/ys.length<=i)⟩
theorem zMO{P:Program}{w:World}{K:qA0}{ts:List Expr}{kk:Nat}{tp:Pos}{a b z TI TO i1 i2:Addr}(D:ZipApart z TI TO i1 i2 a b) :
  Turn P w K (.Tuple ts kk tp) (Itz K a b) [z,TI,TO,i1,i2] z (fun i h=>IsZip h z TI TO .none/\IsPair h TI (.ref i1) (.ref i2)/\(∃x y,IsPair h TO x y)/\h.IsListIter i1 a i/\h.IsListIter i2 b i) where
 mem:=by simp
 obj:=fun i h st c hc=>by
  obtain⟨hz,hTI,⟨x,y,hTO⟩,h1,h2⟩:=st;have five:c=z\/c=TI\/c=TO\/c=i1\/c=i2:=by simpa using hc
  rcases five with e|e|e|e|e<;>subst e
  ·exact⟨_,hz,fun v q=>by cases q⟩
  ·exact⟨_,hTI,fun v q=>by cases q⟩
  ·exact⟨_,hTO,fun v q=>by cases q⟩
  ·obtain⟨o,e,_,d⟩:=h1;exact⟨o,e,fun v q=>by rw[d]at q;cases q⟩
  ·obtain⟨o,e,_,d⟩:=h2;exact⟨o,e,fun v q=>by rw[d]at q;cases q⟩
 keep:=fun i h h' st k=>by
  obtain⟨hz,hTI,⟨x,y,hTO⟩,h1,h2⟩:=st;exact⟨k z (by simp) _ hz,k TI (by simp) _ hTI,⟨x,y,k TO (by simp) _ hTO⟩,h1.at fun o e=>k i1 (by simp) o e,h2.at fun o e=>k i2 (by simp) o e⟩
 item:=by
  intro X hP hw hK hc i pins s σ H E I hf st hg;subst hP hw hK;obtain⟨xs,ys,x,y,hq1,hq2,hx,hy⟩:=hg;obtain⟨its1,rv1,p1,hz1⟩:=I.list hq1;obtain⟨its2,rv2,p2,hz2⟩:=I.list hq2;obtain⟨u1,hu1,ru1⟩:=rv1.get hx;obtain⟨u2,hu2,ru2⟩:=rv2.get hy;obtain⟨hz,hTI,⟨a0,b0,hTO⟩,h1,h2⟩:=st;refine wpAny_pyNext_zip_item D hz hTI hTO h1 h2 p1.isList p2.isList (x:=u1) (y:=u2) (by simpa using hu1) (by simpa using hu2) fun h' g1 g2 g3 g4 g5 g6 g7=>?_
  refine⟨_,rfl,wpAny_letOwnedTupleGo_zip g1 fun h'' hz'' hs''=>?_⟩;have lt:∀{c:Addr}{o:Obj},s.heap.get? c=some o->c<s.heap.objs.size:=fun e=>Heap.lt_size e
  have hzs:=lt hz;have hTz:s.heap.objs.size≠z:=qC0 hzs;have kk':∀c u,c∉[z,TI,TO,i1,i2]->s.heap.get? c=some u->h''.get? c=some u:=fun c u hc q=>by
   have c1:c≠z:=fun e=>hc (by simp[e])
   exact(hs''.2 c c1).trans (g7 c u c1 (fun e=>hc (by simp[e])) (fun e=>hc (by simp[e])) (fun e=>hc (by simp[e])) q)
  have hT'':=(hs''.2 _ hTz).trans g5;refine⟨.ref s.heap.objs.size,_,I.turnedNew (t':=s.toks) (o:=.tup [x,y]) hf kk' (qA6 _) ⟨by show 2<=sizeLine;decide,[u1,u2],.cons ru1 (.cons ru2 .nil),⟨_,hT'',rfl,_,rfl⟩⟩,rfl,
   ⟨_,x,y,rfl,I.fresh,rfl,fun zs hy=>by rw[I.list_inj hy hq1];exact hx,fun zs hy'=>by rw[I.list_inj hy' hq2];exact hy⟩,
   ⟨hz'',(hs''.2 _ D.TIz).trans (g7 TI _ D.TIz D.TITO D.TIi1 D.TIi2 hTI),⟨_,_,(hs''.2 _ D.TOz).trans g2⟩,g3.at fun o e=>(hs''.2 _ D.i1z).trans e,g4.at fun o e=>(hs''.2 _ D.i2z).trans e⟩,fun c hc=>?_⟩
  have hcs:c<s.heap.objs.size:=by
   have five:c=z\/c=TI\/c=TO\/c=i1\/c=i2:=by simpa using hc
   rcases five with e|e|e|e|e<;>subst e
   ·exact hzs
   ·exact lt hTI
   ·exact lt hTO
   ·obtain⟨o,e,_⟩:=h1;exact lt e
   ·obtain⟨o,e,_⟩:=h2;exact lt e
  rw[zA9 (qAn hcs)];exact(hf c hc).1
 done:=by
  intro X hP hw hK hc i pins s σ H E I hf st hg;subst hP hw hK;obtain⟨xs,ys,hq1,hq2,hle⟩:=hg;obtain⟨its1,rv1,p1,hz1⟩:=I.list hq1;obtain⟨its2,rv2,p2,hz2⟩:=I.list hq2;have l1:=rv1.length;have l2:=rv2.length;obtain⟨hz,hTI,⟨a0,b0,hTO⟩,h1,h2⟩:=st;refine wpAny_pyNext_zip_end (I.ok.hd hc) D hz hTI hTO h1 h2 p1.isList p2.isList ?_ fun h' hk=>⟨rfl,I.turnedL (t':=s.toks) hf fun c u hc q=>hk c u (fun e=>hc (by simp[e])) (fun e=>hc (by simp[e])) (fun e=>hc (by simp[e])) (fun e=>hc (by simp[e])) q⟩
  rcases hle with q|q
  ·exact .inl (by simp;lia)
  ·exact .inr (by simp;lia)
 self:=fun _ _ _ _ _ st h=>wpAny_pyIter_zip st.1 h
section
variable{X:Cx}{K:qA0}
def iZip(K:qA0)(tl:TA):TI:=fun σ H R=>tl σ H fun vs H1=>match vs with
 |[.ref a,.ref b]=>(∃xs,SqL K H1 a xs)/\(∃ys,SqL K H1 b ys)/\R (Itz K a b) H1
 |_=>False
theorem zRS{ts:List Expr}{kk:Nat}{tp p pos:Pos}{a b:Expr}{ta:TA}(hg:Gl X "zip")(hm:X.mg "zip" = none)(ha:PA X [a,b] ta)(hs:starEach [a,b] X.env=(false,eval a X.env)::starEach [b] X.env:=by rfl)(hpl:(backTo pos (starEach [b] X.env)).any (·.1)=false:=by rfl)(hK:X.K=K:=by rfl) :
  PI X (.Tuple ts kk tp) (.Call (.Name "zip" p) [a,b] [] pos) (iZip K ta):=by
 subst hK;intro pins s σ H R I h;refine Call_ (zFW I hg hm boot_zip (qC1 (thn (ha pos pins s σ H _ I h) fun us s1 z0=>?_) hs hpl));obtain⟨vs,H1,I1,r1,q1⟩:=z0;cases vs with
 |nil=>exact qA4 q1
 |cons hd1 tl1=>
  cases hd1 with
  |ref l1=>
   cases tl1 with
   |nil=>exact qA4 q1
   |cons hd2 tl2=>
    cases hd2 with
    |ref l2=>
     cases tl2 with
     |nil=>
      obtain⟨⟨xs,hq1⟩,⟨ys,hq2⟩,q⟩:=q1;obtain⟨u1,u2,rfl,rx,ry⟩:=zMM r1;cases rx;cases ry;obtain⟨its1,rv1,p1,hz1⟩:=I1.list hq1;obtain⟨its2,rv2,p2,hz2⟩:=I1.list hq2;have lt1:l1<s1.heap.objs.size:=by obtain⟨o,ho,_⟩:=p1.isList;exact Heap.lt_size ho
      have lt2:l2<s1.heap.objs.size:=by obtain⟨o,ho,_⟩:=p2.isList;exact Heap.lt_size ho
      refine call_zip_2 p1.isList p2.isList fun h' hz hTI hTO h1 h2 hsz hk=>?_
      refine wpAny_pyIter_zip hz ?_;refine⟨s1.heap.objs.size+4,[s1.heap.objs.size+4,s1.heap.objs.size+2,s1.heap.objs.size+3,s1.heap.objs.size,s1.heap.objs.size+1],_,_,H1,rfl,I1.kept (t':=s1.toks) hk,zMO (zipApart_new lt1 lt2),⟨hz,hTI,⟨_,_,hTO⟩,h1,h2⟩,fun c hc=>?_,q⟩;have hc':s1.heap.objs.size<=c:=by
       have five:c=s1.heap.objs.size+4\/c=s1.heap.objs.size+2\/c=s1.heap.objs.size+3\/c=s1.heap.objs.size\/c=s1.heap.objs.size+1:=by simpa using hc
       rcases five with e|e|e|e|e<;>rw[e]<;>first|exact qA6 _|exact qDg _ _
      exact I1.fpOk hc' (I1.hok.fresh hc')
     |cons _ _=>exact qA4 q1
    |_=>exact qA4 q1
  |_=>exact qA4 q1
end
end L2
namespace L2
open PySem PySem.Spec PyProof.Rows
def XO(e:Addr)(C:Value)(d:Option Addr)(h:Heap):Prop:=∃oe vs,h.get? e=some oe/\oe.cls=C/\oe.dict=d/\oe.data=.fields vs/\1<vs.size
abbrev xo(e:Addr)(C:Value)(d:Option Addr):HO:=.ext (XO e C d)
def Fl(n:Nat)(e:Addr)(C:Value)(d:Option Addr)(mk:Value)(H:Hp)(h:Heap):Prop:=
 ∃oe vs T oT ts,h.get? e=some oe/\oe.cls=C/\oe.dict=d/\oe.data=.fields vs/\vs[1]?=some (.ref T)/\n<=T/\T≠e/\H T=none/\h.get? T=some oT/\oT.data=.fields ts/\ts[3]?=some mk
def Fly(n:Nat)(e:Addr)(C:Value)(d:Option Addr)(H:Hp)(h:Heap):Prop:=
 H e=some (xo e C d)/\((∃oe vs,h.get? e=some oe/\oe.cls=C/\oe.dict=d/\oe.data=.fields vs/\vs[1]?=some .none)\/Fl n e C d .none H h)
def Held(n:Nat)(e:Addr)(C:Value)(d:Option Addr)(L:Addr)(H:Hp)(h:Heap):Prop:=H e=some (xo e C d)/\Fl n e C d (rawInt L) H h
theorem Fly.mono{n n':Nat}{e:Addr}{C:Value}{d:Option Addr}{H:Hp}{h:Heap}(x:Fly n e C d H h)(hn:n'<=n):Fly n' e C d H h:=by
 obtain⟨a,b|⟨oe,vs,T,oT,ts,h1,h2,h3,h4,h5,h6,h7⟩⟩:=x
 ·exact⟨a,.inl b⟩
 ·exact⟨a,.inr ⟨oe,vs,T,oT,ts,h1,h2,h3,h4,h5,qAm hn h6,h7⟩⟩
structure Nt(n:Nat)(fs ch:List Addr)(e:Addr)(H:Hp)(h h':Heap):Prop where
 keep:∀b o,h.get? b=some o->b≠e->b∉fs->b∉ch->h'.get? b=some o
 slot:∀b o,h.get? b=some o->b≠e->b∉ch->∃sl,h'.get? b=some { o with slots:=sl }
 there:∀b o,h.get? b=some o->∃o',h'.get? b=some o'
 old:∀b∈ch,n<=b/\H b=none/\∃o vs,h.get? b=some o/\o.data=.fields vs
section
variable{M:Model}{A:Around}{E:Value->Shared->Prop}{s:Shared}{n:Nat}{e L:Addr}{C:Value}{d:Option Addr}{H:Hp}{base:Heap}{env:Env}{outer:List Env}
theorem zOU{oe:Obj}{vs:Array Value}{head:Value}{hadNext:Bool}{Q:Unit->Shared->Prop}
  (hfr:A.frames=some (env::outer)) (hl:s.heap.FunFrames base (env::outer)) (hf:env.frame=some L)
  (he:s.heap.get? e=some oe) (hc:oe.cls=C) (hdi:oe.dict=d) (hd:oe.data=.fields vs) (hsz:1<vs.size) (hn:n<=s.heap.objs.size) (hH:∀b,s.heap.objs.size<=b->H b=none)
  (h:∀h',(∀b o,s.heap.get? b=some o->b≠e->b∉frs (env::outer)->h'.get? b=some o)->(∀b o,s.heap.get? b=some o->b≠e->∃sl,h'.get? b=some { o with slots:=sl }) ->
   (∃o',h'.get? e=some o')->Fl n e C d (rawInt L) H h'->Q () { s with heap:=h' }) :
  wpAny M A (do let a <- frameOf env;let pl <- entryPlaceOf L hadNext;let b <- EntryCells.newEntry head a .none (rawInt L) .none pl;setField (.ref e) 1 b) Q E s:=by
 have hene:e∉(env::outer).filterMap (·.frame):=fun hm=>by
  obtain⟨_,o,ho,hnf⟩:=hl.mem hm;rw[he]at ho;injection ho with ho;subst ho;exact hnf vs hd
 refine wpAny_bind (wpAny_frameOf_fun hfr hl hf fun h₁ hs₁=>?_);refine wpAny_bind (wpAny_entryPlaceOf fun pl hpl=>?_);unfold EntryCells.newEntry newFields;refine wpAny_bind (wpAny_newObj_type ?_ (hpl.sizeOk5 _ _ _ _ _));have he₁:h₁.get? e=some oe:=(hs₁.2.1 e hene).trans he;have he₂:=Heap.get?_push_of_some (h:=h₁) { cls:=.type "traceback",dict:=none,data:=.fields ([head,.ref L,.none,rawInt L,.none]++(if pl.isEmpty then qA7 6 Value.none else pl)).toArray } he₁;have hTe:h₁.objs.size≠e:=qC0 (Heap.lt_size he₁);have hd₃:=Obj.data_mapFields hd (·.setIfInBounds 1 (Value.ref h₁.objs.size));have he₃:=Heap.get?_update_self (Obj.mapFields (·.setIfInBounds 1 (Value.ref h₁.objs.size))) he₂ (Obj.isFreed_of_fields hd₃);have hT₃:=(Heap.get?_update_other (h₁.push { cls:=.type "traceback",dict:=none,data:=.fields ([head,.ref L,.none,rawInt L,.none]++(if pl.isEmpty then qA7 6 Value.none else pl)).toArray })
  (Obj.mapFields (·.setIfInBounds 1 (Value.ref h₁.objs.size))) (qCc hTe)).trans (Heap.get?_push_size h₁ rfl)
 have keep:∀b o,b≠e->h₁.get? b=some o ->
   ((h₁.push { cls:=.type "traceback",dict:=none,data:=.fields ([head,.ref L,.none,rawInt L,.none]++(if pl.isEmpty then qA7 6 Value.none else pl)).toArray }).update e (Obj.mapFields (·.setIfInBounds 1 (Value.ref h₁.objs.size)))).get? b=some o:=
  fun b o hbe hb=>by
   rw[Heap.get?_update_other _ _ (qCc hbe)];exact Heap.get?_push_of_some _ hb
 have hsz1:h₁.objs.size=s.heap.objs.size:=hs₁.1;refine wpAny_setField he₂ hd hsz (h _ (fun b o hb hbe hbf=>keep b o hbe ((hs₁.2.1 b hbf).trans hb)) (fun b o hb hbe=>?_) ⟨_,he₃⟩ ?_)
 ·obtain⟨sl,e1⟩:=hs₁.2.2 b o hb;exact⟨sl,keep b _ hbe e1⟩
 ·have hdo:∀(o:Obj) f,(Obj.mapFields f o).dict=o.dict:=fun o f=>by unfold Obj.mapFields;split<;>rfl
  exact⟨_,_,h₁.objs.size,_,_,he₃,(Obj.cls_mapFields _ _).trans hc,(hdo _ _).trans hdi,hd₃,by simp[hsz],by rw[hsz1];exact hn,hTe,hH _ (by rw[hsz1];exact qA6 _),hT₃,rfl,
   by first|(simp;done)|(rcases hpl with rfl|⟨_,_,_,_,_,_,_,rfl⟩<;>simp)⟩
theorem zPZ{Q:Unit->Shared->Prop}(hfr:A.frames=some (env::outer))(hl:s.heap.FunFrames base (env::outer))(hf:env.frame=some L)(x:Fly n e C d H s.heap)(hn:n<=s.heap.objs.size)(hH:∀b,s.heap.objs.size<=b->H b=none)
  (h:∀h' ch,Nt n (frs (env::outer)) ch e H s.heap h'->Held n e C d L H h'->Q () { s with heap:=h' }):wpAny M A (noteFrame (.ref e) env) Q E s:=by
 obtain⟨hx,⟨oe,vs,he,hc,hdi,hd,h1⟩|⟨oe,vs,T,oT,ts,he,hc,hdi,hd,h1,hnT,hTe,hHT,hT,hdT,h3⟩⟩:=x
 ·unfold noteFrame;simp only[hf];refine wpAny_bind (wpAny_field he hd h1 ?_);rw[if_neg (by decide)];refine zOU hfr hl hf he hc hdi hd (qBe.mp h1).1 hn hH fun h' k1 k2 k3 k4=>?_
  refine h h' [] ⟨fun b o hb hbe hbf _=>k1 b o hb hbe hbf,fun b o hb hbe _=>k2 b o hb hbe,fun b o hb=>?_,fun b hb=>nomatch hb⟩ ⟨hx,k4⟩
  by_cases z:b=e
  ·rw[z];exact k3
  ·obtain⟨sl,q⟩:=k2 b o hb z;exact⟨_,q⟩
 ·unfold noteFrame;simp only[hf];refine wpAny_bind (wpAny_field he hd h1 ?_);rw[if_pos (show(Value.ref T != Value.none)=true from by simp)];refine wpAny_bind (wpAny_field hT hdT h3 ?_);rw[if_neg (show ¬((Value.none==rawInt L)=true) from by simp[rawInt])];refine wpAny_bind (wpAny_setField hT hdT (qBe.mp h3).1 ?_);have other:∀b,b≠T->(s.heap.update T (Obj.mapFields (·.setIfInBounds 3 Value.none))).get? b=s.heap.get? b:=fun b hb=>Heap.get?_update_other _ _ (qCc hb)
  have noRecord:∀b o,s.heap.get? b=some o->(∀vs,o.data≠.fields vs)->b≠T:=fun b o hb hnf q=>by
   rw[q,hT]at hb;injection hb with hb;subst hb;exact hnf ts hdT
  have hl1:=hl.of_keeps (h':=s.heap.update T (Obj.mapFields (·.setIfInBounds 3 Value.none))) fun b o hb hnf=>⟨o,(other b (noRecord b o hb hnf)).trans hb,rfl⟩
  have hself:=Heap.get?_update_self (Obj.mapFields (·.setIfInBounds 3 Value.none)) hT (Obj.isFreed_of_fields (Obj.data_mapFields hdT _));have hsz:(s.heap.update T (Obj.mapFields (·.setIfInBounds 3 Value.none))).objs.size=s.heap.objs.size:=by simp
  refine zOU (s:={ s with heap:=s.heap.update T (Obj.mapFields (·.setIfInBounds 3 Value.none)) }) hfr hl1 hf ((other e (qCc hTe)).trans he) hc hdi hd (qBe.mp h1).1 (by rw[hsz];exact hn) (by rw[hsz];exact hH) fun h' k1 k2 k3 k4=>?_
  have nT:∀b,b∉[T]->b≠T:=fun b hb z=>hb (by simp[z])
  refine h h' [T] ⟨fun b o hb hbe hbf hc=>k1 b o ((other b (nT b hc)).trans hb) hbe hbf,fun b o hb hbe hc=>k2 b o ((other b (nT b hc)).trans hb) hbe,fun b o hb=>?_,fun b hb=>?_⟩ ⟨hx,k4⟩
  ·by_cases z:b=e
   ·rw[z];exact k3
   ·by_cases z':b=T
    ·rw[z'];obtain⟨sl,q⟩:=k2 T _ hself hTe;exact⟨_,q⟩
    ·obtain⟨sl,q⟩:=k2 b o ((other b z').trans hb) z;exact⟨_,q⟩
  ·obtain rfl:b=T:=by simpa using hb
   exact⟨hnT,hHT,oT,ts,hT,hdT⟩
theorem zQ0{Q:Unit->Shared->Prop}{fs:List Addr}{mk:Value}(x:Fl n e C d mk H s.heap)
  (h:∀h' ch,Nt n fs ch e H s.heap h'->Fl n e C d .none H h'->Q () { s with heap:=h' }):wpAny M A (setFlight (.ref e) none) Q E s:=by
 obtain⟨oe,vs,T,oT,ts,he,hc,hdi,hd,h1,hnT,hTe,hHT,hT,hdT,h3⟩:=x;have hsz3:3<ts.size:=(qBe.mp h3).1;have other:∀b,b≠T->(s.heap.update T (Obj.mapFields (·.setIfInBounds 3 ((none:Option Addr).elim Value.none fun f=>rawInt f)))).get? b=s.heap.get? b:=
  fun b hb=>Heap.get?_update_other _ _ (qCc hb)
 have hself:=Heap.get?_update_self (Obj.mapFields (·.setIfInBounds 3 ((none:Option Addr).elim Value.none fun f=>rawInt f))) hT (Obj.isFreed_of_fields (Obj.data_mapFields hdT _));have nT:∀b,b∉[T]->b≠T:=fun b hb z=>hb (by simp[z])
 unfold setFlight;refine wpAny_bind (wpAny_field he hd h1 ?_);rw[if_pos (show(Value.ref T != Value.none)=true from by simp)];refine wpAny_setField hT hdT hsz3 (h _ [T] ⟨fun b o hb _ _ hc=>(other b (nT b hc)).trans hb,fun b o hb _ hc=>⟨o.slots,(other b (nT b hc)).trans hb⟩,fun b o hb=>?_,fun b hb=>?_⟩ ?_)
 ·by_cases z:b=T
  ·rw[z];exact⟨_,hself⟩
  ·exact⟨o,(other b z).trans hb⟩
 ·obtain rfl:b=T:=by simpa using hb
  exact⟨hnT,hHT,oT,ts,hT,hdT⟩
 ·exact⟨oe,vs,T,_,_,(other e (qCc hTe)).trans he,hc,hdi,hd,h1,hnT,hTe,hHT,hself,Obj.data_mapFields hdT _,by simp[hsz3]⟩
end
section
variable{X:Cx}{pins:List (Addr×Obj)}{σ:St}{H:Hp}{s:Shared}{n:Nat}{e:Addr}{C:Value}{d:Option Addr}{A:Around}{E:Value->Shared->Prop}{fs ch:List Addr}{h h':Heap}
theorem Nt.hok{P:Program}{w:World}(t:Nt n fs ch e H h h')(k:HOk P w H h)(he:H e=some (xo e C d))(hfs:∀b∈fs,H b=none)(f:XO e C d h'):HOk P w H h':=fun a o ha=>by
 by_cases z:a=e
 ·subst z;rw[he]at ha;cases ha;obtain⟨oe,vs,h1,r⟩:=id f;exact⟨f,⟨oe,h1⟩,(k a _ he).2.2⟩
 ·refine(k a o ha).stay (fun b u hb q=>?_) (fun _ q=>q) (fun _ _ q=>q) fun _ _ _ q _=>q
  have hb':H b≠none:=by
   rcases hb with rfl|hb
   ·rw[ha];exact fun z=>by cases z
   ·rw[hb];exact fun z=>by cases z
  have hbe:b≠e:=by
   rcases hb with rfl|hb
   ·exact z
   ·intro y;rw[y,he]at hb;cases hb
  exact t.keep b u q hbe (fun y=>hb' (hfs b y)) fun y=>hb' (t.old b y).2.1
theorem Fl.xo{mk:Value}(f:Fl n e C d mk H h):XO e C d h:=by
 obtain⟨oe,vs,T,oT,ts,h1,h2,h3,h4,h5,_⟩:=f;exact⟨oe,vs,h1,h2,h3,h4,(qBe.mp h5).1⟩
theorem Nt.un(t:Nt n fs ch e H h h')(he:H e=some (xo e C d)):Un fs ch H H h h':=
 ⟨fun b o q hn hf hc=>t.keep b o q (fun z=>by rw[z,he]at hn;cases hn) hf hc,fun b o q hn _ hc=>t.slot b o q (fun z=>by rw[z,he]at hn;cases hn) hc,fun _ _ _ hn _=>hn,fun b o q _=>t.there b o q,fun _ _ q=>q,fun _ _ _ q=>q,fun b ps q=>⟨#[],by simpa using q⟩⟩
theorem Inv.noted(I:Inv X pins σ H s)(t:Nt n (frs X.stack) ch e H s.heap h')(he:H e=some (xo e C d))(f:XO e C d h')(hn:X.s₀.heap.objs.size<=n)(hp:∀p∈X.pn++pins,p.1<n):Inv X pins σ H { s with heap:=h' }:=by
 refine I.call' rfl (t.un he) (t.hok I.hok he I.stkFree f) I.bare fun b hb=>?_
 obtain⟨h1,h2,o,vs,h3,h4⟩:=t.old b hb;refine⟨.inr (qAm hn h1),?_,?_,fun p hp' z=>?_⟩
 ·intro z;obtain⟨m,⟨o',es,ep,ho',hd',_⟩,_⟩:=I.loc;rw[z,ho']at h3;cases h3;rw[hd']at h4;cases h4
 ·intro x c hx z;obtain⟨v,o',ho',hd'⟩:=I.cell x c hx;rw[<- z,ho']at h3;cases h3;rw[hd']at h4;cases h4
 ·have:=hp p hp'
  rw[z]at this;exact absurd h1 (Nat.not_le_of_lt this)
theorem zJJ{Q:Unit->Shared->Prop}{M:Model}(I:Inv X pins σ H s)(hA:A.frames=some X.stack)(hs:X.stack=X.env::X.outer/\X.env.frame=some X.env.locals)(x:Fly n e C d H s.heap)(hn:X.s₀.heap.objs.size<=n)(hn':n<=s.heap.objs.size)
  (hp:∀p∈X.pn++pins,p.1<n) (h:∀s',Inv X pins σ H s'->Held n e C d X.env.locals H s'.heap->Q () s'):wpAny M A (noteFrame (.ref e) X.env) Q E s:=by
 have hst:=I.stack;rw[hs.1]at hA hst;refine zPZ hA hst hs.2 x hn' (fun b hb=>I.hok.fresh hb) fun h' ch t y=>h _ (I.noted (ch:=ch) (by rw[hs.1];exact t) x.1 y.2.xo hn hp) y
theorem zGP{Q:Unit->Shared->Prop}{M:Model}{mk:Value}(I:Inv X pins σ H s)(hx:H e=some (xo e C d))(x:Fl n e C d mk H s.heap)(hn:X.s₀.heap.objs.size<=n)
  (hp:∀p∈X.pn++pins,p.1<n) (h:∀s',Inv X pins σ H s'->Fl n e C d .none H s'.heap->Q () s'):wpAny M A (setFlight (.ref e) none) Q E s:=
 zQ0 (fs:=frs X.stack) x fun h' ch t y=>h _ (I.noted t hx y.xo hn hp) y
theorem zLR{Q:Unit->Shared->Prop}{M:Model}(I:Inv X pins σ H s)(hA:A.frames=some X.stack)(hs:X.stack=X.env::X.outer/\X.env.frame=some X.env.locals)(x:Fly n e C d H s.heap)(hn:X.s₀.heap.objs.size<=n)(hn':n<=s.heap.objs.size)
  (hp:∀p∈X.pn++pins,p.1<n) (h:∀s',Inv X pins σ H s'->Fly n e C d H s'.heap->Q () s'):wpAny M A (leaving X.env (.ref e)) Q E s:=by
 unfold leaving;exact wpAny_bind (zJJ I hA hs x hn hn' hp fun s1 I1 y=>zGP I1 y.1 y.2 hn hp fun s2 I2 z=>h s2 I2 ⟨y.1,.inr z⟩)
end
def CXe(P:Program)(w:World):CXT:=fun outer H s E x s'=>∃e C d H',x=.ref e/\s'.os=s.os/\AllBare s'.gens/\Un (frs outer) [] H H' s.heap s'.heap/\HOk P w H' s'.heap/\Fly s.heap.objs.size e C d H' s'.heap/\s.heap.objs.size<=s'.heap.objs.size/\E x d H'
section
variable{X:Cx}{pins:List (Addr×Obj)}{σ:St}{H:Hp}{s s':Shared}{E E':XK}
theorem Inv.pinlt(I:Inv X pins σ H s):∀p∈X.pn++pins,p.1<s.heap.objs.size:=fun p hp=>Heap.lt_size (I.pin p hp).1
def XP(X:Cx)(pins:List (Addr×Obj))(σ:St)(E:XK)(x:Value)(s':Shared):Prop:=∃n e C d H',x=.ref e/\Inv X pins σ H' s'/\Fly n e C d H' s'.heap/\X.s₀.heap.objs.size<=n/\n<=s'.heap.objs.size/\(∀p∈X.pn++pins,p.1<n)/\E x d H'
theorem Inv.flown{x:Value}(I:Inv X pins σ H s)(h:CXe X.prog X.w X.stack H s E x s'):XP X pins σ E x s':=by
 obtain⟨e,C,d,H',rfl,ho,hb,u,hk,f,hz,q⟩:=h;exact⟨_,e,C,d,H',rfl,I.call' ho u hk hb (fun b z=>absurd z (by simp)),f,I.sz,hz,I.pinlt,q⟩
end
section
variable{P:Program}{w:World}{K:qA0}{mg:Str->Option Value}{base:Heap}{N:List Str}{qual:Str}{scope:Scope}{f:Addr}{cd:Value}{A:Around}{outer:List Env}{s:Shared}{H:Hp}{E E':XK}
theorem zQM{pins:List (Addr×Obj)}{σ:St}{x:Value}{s':Shared}(hE:∀C d H',E' C d H'->E C d H')
  (h:XP (cxOf (CXe P w) P w K mg base N qual scope f cd A outer s H E) pins σ E' x s'):(cxOf (CXe P w) P w K mg base N qual scope f cd A outer s H E).xe x s':=by
 obtain⟨n,e,C,d,H',rfl,I,fl,hn,hz,hp,q⟩:=h;refine zLR I I.ok.frames ⟨rfl,rfl⟩ fl hn hz hp fun s2 I2 f2=>?_
 exact⟨e,C,d,H',rfl,I2.os,I2.bare,I2.base,I2.hok,f2.mono hn,I2.sz,hE _ _ _ q⟩
end
end L2
namespace L2
open PySem PySem.Spec PyProof.Rows
abbrev TEX:=St->Hp->VK->XK->Prop
abbrev TSX:=Ends->(St->XK)->St->Hp->Prop
def PEx(X:Cx)(e:Expr)(t:TEX):Prop:=∀(pins:List (Addr×Obj))(s:Shared)(σ:St)(H:Hp)(Q:VK)(E:XK),Inv X pins σ H s->t σ H Q E->wpAny (model X.prog X.w) X.A (eval e X.env) (EP X pins σ Q) (XP X pins σ E) s
def PSx(X:Cx)(st:Stmt)(t:TSX):Prop:=∀(pins:List (Addr×Obj))(s:Shared)(σ:St)(H:Hp)(D:Ends)(E:St->XK),Inv X pins σ H s->t D E σ H->wpAny (model X.prog X.w) X.A (exec st X.env) (SP X pins D) (fun x s'=>∃σ',XP X pins σ' (E σ') x s') s
def PSxs(X:Cx)(st:List Stmt)(t:TSX):Prop:=∀(pins:List (Addr×Obj))(s:Shared)(σ:St)(H:Hp)(D:Ends)(E:St->XK),Inv X pins σ H s->t D E σ H->wpAny (model X.prog X.w) X.A (execs st X.env) (SP X pins D) (fun x s'=>∃σ',XP X pins σ' (E σ') x s') s
section
variable{X:Cx}{k:Nat}{f:Addr}{fd:FuncData}{ps:List Str}{sp:Sp}{dvs:List V}{ds:List Value}{x:Str}{p pos:Pos}{e:Expr}{es:List Expr}{t:TA}{te:TE}{tx:TEX}{st:Stmt}{rest:List Stmt}{u u':TSX}
theorem zPE{pins:List (Addr×Obj)}{σ:St}{H:Hp}{s:Shared}{Q:VK}{E:XK}{us:List Value}{vs:List V}(F:FnOk X.prog X.w X.K X.mg X.base (CXe X.prog X.w) k f fd ps sp)(hr:Room k X.A)(hb:Binds X.K fd ps ds)(hd:Vals dvs ds)
  (I:Inv X pins σ H s) (r:Vals vs us) (h:sp (vs++dvs) H Q E):wpAny (model X.prog X.w) X.A (call (.ref f) us) (EP X pins σ Q) (XP X pins σ E) s:=by
 have r2:Vals (vs++dvs) (us++ds):=r.append hd;have hl:(us++ds).length=ps.length:=by rw[<- r2.length];exact F.len _ _ _ _ h
 refine wpAny_call (codeAny_mono (F.run X.A X.stack s H ⟨us,[]⟩ (us++ds) (vs++dvs) Q E hr I.env0 (hb s us I.kIn hl) r2 h) fun r s' hq=>?_);cases r with
 |error e=>exact I.flown hq
 |ok fl=>
  cases fl with
  |ret u=>exact I.after hq
  |next=>exact qA4 hq
  |brk=>exact qA4 hq
  |cont=>exact qA4 hq
theorem PA.nox{es:List Expr}{t:TA}{E:Value->Shared->Prop}{M:Model}(h:PA X.nox es t)(pos:Pos){pins:List (Addr×Obj)}{s:Shared}{σ:St}{H:Hp}{Q:List V->Hp->Prop}(I:Inv X pins σ H s)(q:t σ H Q) :
  wpAny (model X.prog X.w) X.A (spliced (backTo pos (starEach es X.env))) (AP X pins σ Q) E s:=
 wpAny_mono (h pos pins s σ H Q (I.wish _) q) (fun _ _ ⟨vs,H',I',r,q⟩=>⟨vs,H',I'.unwish,r,q⟩) fun _ _ z=>qA4 z
theorem zJC(he:PEx X e tx)(hs:swapsWith e none pos.line X.env=pure false:=by rfl):PSx X (.Expr e pos) (fun D E σ H=>tx σ H (fun _ H1=>D.nx σ H1) (E σ)):=by
 intro pins s σ H D E I h;exact wpAny_Expr_any (wpAny_mono (he pins s σ H _ _ I h) (fun v s1 ⟨x,H1,I1,r1,q1⟩=>⟨σ,H1,I1,q1⟩) fun x s1 q=>⟨σ,q⟩) I.quiet hs
theorem zJB(h1:PSx X st u):PSxs X [st] u:=by
 intro pins s σ H D E I h;refine wpAny_execs_cons (thn (h1 pins s σ H D E I h) fun f s1 q=>?_);cases f with
 |next=>exact wpAny_execs_nil q
 |ret v=>exact q
 |brk=>exact q
 |cont=>exact q
abbrev Cx.hd(X:Cx)(e:Addr):Cx:={ X with A:=X.A.mark (some (.ref e)),calm:=false,xe:=fun _ _=>False }
theorem Cx.Ok.hd'{X:Cx}{e:Addr}(ok:X.Ok):(X.hd e).Ok:=
 ⟨ok.mod,ok.kind,ok.glob,ok.blt,ok.above,ok.inj,ok.has,ok.cab,fun z=>Bool.noConfusion z,ok.frames,ok.stk,ok.exf,ok.bs,ok.bsz,ok.noex,ok.exfs,ok.funs,ok.frf⟩
variable{pins:List (Addr×Obj)}{σ:St}{H:Hp}{s:Shared}{a:Addr}
theorem Inv.hd(I:Inv X pins σ H s)(a:Addr):Inv (X.hd a) pins σ H s:=⟨I.ok.hd',I.os,I.bare,I.base,I.loc,I.cell,I.free,I.freeC,I.pin,I.hok,I.len⟩
theorem Inv.unhd(ok:X.Ok)(I:Inv (X.hd a) pins σ H s):Inv X pins σ H s:=⟨ok,I.os,I.bare,I.base,I.loc,I.cell,I.free,I.freeC,I.pin,I.hok,I.len⟩
theorem Inv.gone{i:Nat}{x:Str}{h':Heap}{m:Str->Option Value}{v:Option Value}{t':Nat}(I:Inv X pins σ H s)(hN:X.N.Nodup)(hi:X.N[i]?=some x)(hk:X.env.scope.names.lookup x=some .local)
  (hm:∀(j:Nat)(y:Str)(w:V),X.N[j]?=some y->σ[j]?=some (some w)->Vis X.env.scope y->∃u,RelV w u/\Look X.env s.heap m y u) (hn:h'.Ns X.env.locals fun y=>if y=x then v else m y) (hs:Heap.SameBut X.env.locals s.heap h'):Inv X pins (σ.set i none) H { s with heap:=h',toks:=t' }:=by
 have hiσ:i<σ.length:=by rw[I.len];exact(qA2.mp hi).1
 have cne:=I.cne;have oth:∀b,b≠X.env.locals->h'.get? b=s.heap.get? b:=fun b hb=>hs.2 b hb
 refine⟨I.ok,I.os,I.bare,⟨fun b o e n hb hx=>?_,fun b o e n hb hx=>?_,I.base.free,fun b o e hx=>?_,I.base.tups,I.base.frzs,I.base.tbls⟩,⟨_,hn,fun j y w e1 e2 e3=>?_⟩,fun y c e=>?_,I.free,I.freeC,fun p hp=>?_,fun b ob e=>?_,by simp[I.len]⟩
 ·exact(oth b (qAn (qA8 (Heap.lt_size e) I.ok.above))).trans (I.base.keep b o e n hb hx)
 ·obtain⟨sl,e1⟩:=I.base.slot b o e n hb hx;exact⟨sl,(oth b (qAn (qA8 (Heap.lt_size e) I.ok.above))).trans e1⟩
 ·obtain⟨o',e1⟩:=I.base.there b o e hx;exact⟨o',(oth b (qAn (qA8 (Heap.lt_size e) I.ok.above))).trans e1⟩
 ·by_cases hj:j=i
  ·subst hj;rw[qAd hiσ]at e2;cases e2
  ·rw[qAf (qCc hj)]at e2;obtain⟨u',r',q⟩:=hm j y w e1 e2 e3;refine⟨u',r',?_⟩;have hy:y≠x:=fun e=>hj (zGN hN e1 (e▸hi))
   rcases q with⟨k,e⟩|⟨k,c,e,z⟩
   ·exact .inl ⟨k,by simp[hy,e]⟩
   ·exact .inr ⟨k,c,e,z.sameBut hs (cne y c e)⟩
 ·obtain⟨w',z⟩:=I.cell y c e;exact⟨w',z.sameBut hs (cne y c e)⟩
 ·obtain⟨e,n,ne,nf,d⟩:=I.pin p hp;exact⟨(oth p.1 ne).trans e,n,ne,nf,d⟩
 ·refine(I.hok b ob e).stay (fun c w' hc q=>(oth c ?_).trans q) (fun _ q=>q) (fun _ _ q=>q) fun _ _ _ q _=>q
  rintro rfl
  rcases hc with rfl|hc
  ·rw[I.free]at e;cases e
  ·rw[I.free]at hc;cases hc
theorem zGT{M:Model}{A:Around}{E:Value->Shared->Prop}{Q:Unit->Shared->Prop}{i:Nat}{x:Str}{pos:Pos}(I:Inv X pins σ H s)(hN:X.N.Nodup)(hi:X.N[i]?=some x)(hk:X.env.scope.names.lookup x=some .local)
  (h:∀s',Inv X pins (σ.set i none) H s'->Q () s'):wpAny M A (do bindName X.env x .none;unbindBehindTheSuite X.env x pos) Q E s:=by
 obtain⟨m,hn,hl⟩:=id I.loc;refine wpAny_nameGoes_keeps hk hn (by rw[I.ok.kind];rfl) fun h' v hn' hs=>h _ (I.gone hN hi hk hl hn' hs)
noncomputable def zNK(i:Nat)(D:Ends):Ends:={ nx:=fun σ H=>D.nx (σ.set i none) H,rt:=D.rt,bk:=fun σ H=>D.bk (σ.set i none) H,ct:=fun σ H=>D.ct (σ.set i none) H }
def zO2(K:qA0)(c:Value)(i:Nat)(tb:TSX)(ts:TS):TS:=fun D σ H=>tb D (fun σ1 x d H1=>∃e C,x=.ref e/\H1 e=some (xo e C d)/\qBr K C c=some true/\ts (zNK i D) (σ1.set i (some (.ref e))) H1) σ H
theorem zJD{body:List Stmt}{tb:TSX}{ts:TS}{c:Value}{cn x:Str}{i:Nat}{b₀:Stmt}{suite:List Stmt}{cp hp':Pos}(hb:PSxs X body tb)(hst:X.stack=X.env::X.outer/\X.env.frame=some X.env.locals)
  (hc:X.mg cn=some c\/(X.mg cn=none/\bootBuiltins cn=some c/\cn ≠ "__name__")) (hg:Gl X cn) (hN:X.N.Nodup) (hi:X.N[i]?=some x) (hk:X.env.scope.names.lookup x=some .local) (hsu:∀e,PSs (X.hd e) (b₀::suite) ts) (hdb:(cn==("__debug__":Str))=false:=by decide) :
  PS X (.Try body [.ExceptHandler (some (.Name cn cp)) (some x) (b₀::suite) hp'] [] [] pos) (zO2 X.K c i tb ts):=by
 intro pins s σ H D I h;refine wpAny_Try_except (wpAny_mono (hb pins s σ H _ _ I h) (fun f s1 q=>?_) fun y s1 z0=>?_)
 ·cases f with
  |next=>exact wpAny_execs_nil q
  |ret v=>exact q
  |brk=>exact q
  |cont=>exact q
 ·obtain⟨σ1,n,e,C,d,H1,ey,I1,fl,hn,hn',hp,q0⟩:=z0;subst ey;obtain⟨e',C',ee,hC',hm,q⟩:=q0;cases ee;refine zJJ I1 I1.ok.frames hst fl hn hn' hp fun s2 I2 hh=>?_
  refine zGP I2 hh.1 hh.2 hn hp fun s3 I3 f3=>?_
  have I3h:=I3.hd e;have LT:qBw (model X.prog X.w) s3.heap (typeOf (.ref e)) C':=by
   obtain⟨oe,vs,he,hcl,_⟩:=(I3.hok e _ hC').1;subst hcl;exact(qEr he).andThen .now
  have ex:=PySem.W.exm_one (M:=model X.prog X.w) I3.kIn LT hm;have load:∀{Q:Value->Shared->Prop}{E:Value->Shared->Prop},Q c s3->wpAny (model X.prog X.w) (X.A.mark (some (.ref e))) (eval (.Name cn cp) X.env) Q E s3:=fun{Q E} hq=>by
   rcases hc with z|⟨z,z1,z2⟩
   ·exact zCK (X:=X.hd e) I3h hg z hq hdb
   ·exact zFW (X:=X.hd e) I3h hg z z1 hq z2 hdb
  refine wpAny_handleBy_cons (codeAny_handlers_test (load (ex.here ?_))) (by intro z;cases z);refine codeAny_handlers_suite_as (zGP I3h hh.1 f3 hn hp fun s4 I4 f4=>?_);refine zG8 (X:=X.hd e) (v:=.ref e) I4 hN hi (.inl hk) rfl (fun s5 I5=>?_) (.inr hk);refine wpAny_mono (hsu e pins s5 _ H1 (zNK i D) I5 q) (fun f s6 q6=>?_) fun _ _ z=>qA4 z
  cases f with
  |next=>obtain⟨σ',H',I',q'⟩:=q6;exact zGT (I'.unhd I1.ok) hN hi hk fun s7 I7=>⟨_,H',I7,q'⟩
  |brk=>obtain⟨σ',H',I',q'⟩:=q6;exact zGT (I'.unhd I1.ok) hN hi hk fun s7 I7=>⟨_,H',I7,q'⟩
  |cont=>obtain⟨σ',H',I',q'⟩:=q6;exact zGT (I'.unhd I1.ok) hN hi hk fun s7 I7=>⟨_,H',I7,q'⟩
  |ret u=>obtain⟨v,σ',H',I',r,q'⟩:=q6;exact zGT (I'.unhd I1.ok) hN hi hk fun s7 I7=>⟨v,_,H',I7,r,q'⟩
end
end L2
namespace PySem.W
open PySem PySem.Calls PyProof.Rows Builtin Builtin.ObjectAttr
noncomputable def excTail:List Value->Bool
 |.ref _::r=>excTail r
 |[.type a,.type b,.type c,.type d]=>a == "ValueError" && b == "Exception" && c == "BaseException" && d == "object"
 |_=>false
theorem zIM{a b c d:String}(e:excTail [.type a,.type b,.type c,.type d]=true):a = "ValueError" /\ b = "Exception" /\ c = "BaseException" /\ d = "object":=by
 simp only[excTail,qBd,beq_iff_eq]at e;exact⟨e.1.1.1,e.1.1.2,e.1.2,e.2⟩
theorem zBP:∀{l:List Value},excTail l=true->∃as:List Addr,l=as.map Value.ref++[.type "ValueError",.type "Exception",.type "BaseException",.type "object"]
 |.ref a::r,e=>by
  obtain⟨as,rfl⟩:=zBP (l:=r) e;exact⟨a::as,rfl⟩
 |[.type a,.type b,.type c,.type d],e=>by
  obtain⟨rfl,rfl,rfl,rfl⟩:=zIM e;exact⟨[],rfl⟩
theorem zK9(self:Value){l:List Value}(e:excTail l=true):refuseLoop self "__setattr__" l=pure ():=by
 obtain⟨as,rfl⟩:=zBP e
 induction as with
 |nil=>exact PySem.F.store_ValueError.passes self
 |cons a r ih=>
  rw[qAj,qDj,refuseLoop_ref];exact ih (by simpa[excTail]using e)
theorem zQ9{l:List Value}(e:excTail l=true):l.contains (.type "object")=true:=by
 obtain⟨as,rfl⟩:=zBP e;rw[List.contains_iff_exists_mem_beq];exact⟨.type "object",by simp,by simp⟩
def excOver(K:Frag)(C:Addr):Bool:=(clsIn K C).any fun cd=>excTail cd.mro
section
variable{prog:Program}{w:World}{A:Around}{s:Shared}{K:Frag}{x C:Addr}{R:Result->Shared->Prop}
theorem zLF{ox:Obj}{od:Option Obj}{name:Str}{tk:Tok}{v:Value}{r:Option Value}(X:K.In s.heap)(I:InstAt s.heap x ox C od)(hp:excOver K C=true)(ht:takerIn K C name=some r)
  (h:∀b,wpAny (model prog w) A.in1 (match r with|some a=>setByDescriptor a (.ref x) v|none=>storeInOwnDict (.ref x) (.ref C) (.str name tk) name v b)
   (fun fin s'=>match fin with | .done f=>R (.ok f) s' | .again c'=>c'.quiet=true/\codeAny (model prog w) A c' R s') (fun e s'=>R (.error e) s') s) :
  codeAny (model prog w) A (.call (.builtin "object.__setattr__") ⟨[.ref x,.str name tk,v],[]⟩) R s:=by
 have SF:=PySem.F.store_object;obtain⟨cd,hc,ho⟩:=any_some hp;have ne:cd.mro.isEmpty=false:=by cases q:cd.mro with|nil=>rw[q]at ho;cases ho|cons _ _=>rfl
 have sub:Looks (model prog w) s.heap (isInstance (.ref x) (.type "object")) true:=I.type.andThen (looks_mroIn X (by unfold mroIn;rw[hc,qCs,if_neg (by rw[ne];decide),zQ9 ho]));refine codeAny_call_builtin SF.slot.plain SF.entry (@check_slot (model prog w) _ _ s "object.__setattr__" "object" "__setattr__" (.ref x) [.str name tk,v] [] _ SF.kind SF.split sub (SF.args (.ref x) (.str name tk) v) ?_);obtain⟨attr,ha,hr⟩:=Option.bind_eq_some_iff.mp ht;have hm:Looks (model prog w) s.heap (mroOf (.ref C)) cd.mro:=(looks_clsIn X hc).andThen .now;have L3:Looks (model prog w) s.heap (storeTaker? attr) r:=by
  cases attr with
  |none=>cases hr;exact .now
  |some a=>
   obtain⟨b,hb,rfl⟩:=qBy.mp hr;refine(looks_takesIn X hb).andThen ?_;cases b<;>exact .now
 rw[osa_eq,refuse_eq];refine wpAny_bind (wpAny_bind (I.type.here (wpAny_bind (hm.here ?_))));rw[zK9 _ ho];refine wpAny_pure (wpAny_bind (I.type.here (wpAny_bind ((looks_findIn X ha).here (wpAny_bind (L3.here ?_))))));exact h _
theorem set_exc{E:Value->Shared->Prop}{name:Str}{v:Value}{Q:Unit->Shared->Prop}{vs:Array Value}{sl:Array (Option Value)}(X:K.In s.heap)(hx:s.heap.get? x=some ⟨.ref C,none,.fields vs,sl⟩)
  (hs:findIn K (.ref C) "__setattr__" = some (some (.builtin "object.__setattr__"))) (hp:excOver K C=true) (ht:takerIn K C name=some none) (hh:(clsIn K C).any (·.hasDict)=true)
  (h:∀h' tk',h'.Ns1 s.heap.objs.size (fun y=>if y=name then some v else none)->h'.get? x=some ⟨.ref C,some s.heap.objs.size,.fields vs,sl⟩->(∀b o,b≠x->s.heap.get? b=some o->h'.get? b=some o)->Q () { s with heap:=h',toks:=tk' }) :
  wpAny (model prog w) A (setAttr (.ref x) name v) Q E s:=by
 have I:InstAt s.heap x ⟨.ref C,none,.fields vs,sl⟩ C none:=⟨hx,rfl,rfl,trivial⟩
 refine set_plain X I hs (zLF (s:={ s with toks:=s.toks+1 }) (r:=none) X I hp ht fun b=>?_);obtain⟨cd,hc,hd'⟩:=any_some hh;obtain⟨h0,g,d,t,os⟩:=s;dsimp only at hx X I h ⊢;refine wpAny_bind (wpAny_pure (wpAny_bind (wpAny_bind (wpAny_loadPart hx (wpAny_bind (Looks.here (s:=⟨h0,g,d,t+1,os⟩) (looks_clsIn X hc) ?_))))));rw[hd'];have hx₁:(h0.push { cls:=.type "dict",data:=.dict #[] }).get? x=some ⟨.ref C,none,.fields vs,sl⟩:=Heap.get?_push_of_some _ hx;have hxs:x≠h0.objs.size:=qAn (Heap.lt_size hx);refine wpAny_bind (wpAny_alloc' ?_);refine wpAny_bind (wpAny_update' hx₁ ?_);refine wpAny_pure ?_;have hx₂:((h0.push { cls:=.type "dict",data:=.dict #[] }).update x fun o=>{ cls:=o.cls,dict:=some h0.objs.size,data:=o.data,slots:=o.slots }).get? x=some ⟨.ref C,some h0.objs.size,.fields vs,sl⟩:=Heap.get?_update_self _ hx₁ rfl;have hgd:((h0.push { cls:=.type "dict",data:=.dict #[] }).update x fun o=>{ cls:=o.cls,dict:=some h0.objs.size,data:=o.data,slots:=o.slots }).get? h0.objs.size
   = some { cls:=.type "dict",data:=.dict #[] }:=(Heap.get?_update_ne _ _ _ _ hxs.symm).trans (Heap.get?_push_at rfl rfl)
 have hnd:((h0.push { cls:=.type "dict",data:=.dict #[] }).update x fun o=>{ cls:=o.cls,dict:=some h0.objs.size,data:=o.data,slots:=o.slots }).Ns h0.objs.size (fun _=>none):=
  ⟨_,#[],_,hgd,rfl,fun e he=>absurd he (by simp),fun _=>rfl⟩
 show wpAny _ _ (storeInDict h0.objs.size (.str name t) name v) _ _ _;unfold storeInDict newKeyGuard;refine wpAny_bind (wpAny_pure (wpAny_bind (wpAny_nsSet1 (Heap.Ns1.of_empty hnd) fun h' hn' hs'=>?_)));obtain⟨oD,esD,epD,hoD,hdD,hcD⟩:=hn'.count (Within.cons name v Within.nil);refine wpAny_bind (wpAny_lookBehind hoD (by rw[hdD];exact pastItsLine_dict (qAm hcD (by rw[qAv,List.length_nil,sizeLine_eq];lia))) ?_);exact wpAny_pure (h h' _ hn' ((hs'.2 x hxs).trans hx₂) fun b ob hbx hb=>(hs'.2 b (qAn (Heap.lt_size hb))).trans ((Heap.get?_update_ne _ _ _ _ hbx).trans (Heap.get?_push_of_some _ hb)))
end
end PySem.W
namespace PySem.Xc
open PySem
section
variable{M:Model}{prog:Program}{w:World}{A:Around}{E:Value->Shared->Prop}{h:Heap}{g:Array GenState}{d:Drawn}{t:Nat}{os:OsState}{R:Result->Shared->Prop}
variable{nm q:Str}{C N:Addr}{bs bm bmB:List Value}{hdct:Bool}{sn:List Str}{sub:List Value}{ab:Bool}{col:Option Bool}{dd:Option Addr}{k0 k1 k2 k3 k5:Option Value}{B newId initId:String}
theorem zG3(F:ExcBaseFacts B newId initId bmB)(hB:bm.contains (.type B)=true){rest:List Value}{Q:Unit->Shared->Prop}(hC:h.get? C=some (excClassObj nm q C N bs bm hdct sn sub ab col dd k0 k1 k2 k3 k5 newId))
  (hq:Q () ⟨h,g,d,t,os⟩):wpAny M A (checkBuiltinCall newId ⟨.ref C::rest,[]⟩) Q E ⟨h,g,d,t,os⟩:=by
 have hcont:(Value.ref C::bm).contains (.type B)=true:=by rw[qB9,hB,qDr]
 have hstar:=F.noStar;simp only[checkBuiltinCall,F.newKind,F.newSplit,F.newRow]
 repeat (first|refine wpAny_loadPart_at hC ?_|(refine wpAny_isSubtype_exc hC ?_;rw[hcont])|refine wpAny_staticBase_exc hC ?_|refine wpAny_madeBy_exc hC ?_|simp only[bne_self_eq_false,Bool.false_eq_true,if_false]|wp_step)
 exact hq
theorem zHW(F:ExcBaseFacts B newId initId bmB)(hB:bm.contains (.type B)=true)(hA:bm.contains (.type "AttributeError")=false)(hN:bm.contains (.type "NameError")=false){rest:List Value}(hC:h.get? C=some (excClassObj nm q C N bs bm hdct sn sub ab col dd k0 k1 k2 k3 k5 newId))
  (hq:R (.ok (.ret (.ref (h.objs.size+1)))) ⟨(h.push { cls:=.type "tuple",data:=.seq rest.toArray }).push
   { cls:=.ref C,data:=.fields #[.ref h.objs.size,.none,.none,.none,.bool false,.none] },g,d,t,os⟩) (hrest:rest.length<=sizeLine) :
  codeAny (model prog w) A (.builtin newId ⟨.ref C::rest,[]⟩) R ⟨h,g,d,t,os⟩:=by
 have hends:=F.ends;have hcB:(Value.ref C::bm).contains (.type B)=true:=by rw[qB9,hB,qDr]
 have hcA:(Value.ref C::bm).contains (.type "AttributeError")=false:=by rw[qB9,hA];rfl
 have hcN:(Value.ref C::bm).contains (.type "NameError")=false:=by rw[qB9,hN];rfl
 refine codeAny_builtinAt F.entry ?_;unfold Builtin.«BaseException.__new__»;refine wpAt_bind ?_;show wpAt _ _ _ (stack >>= _) _ _ _;refine wpAt_bind (wpAt_stack fun p below=>wpAt_of_wpAny ?_)
 wp_walk
 refine wpAt_of_wpAny ?_;rw[F.owner]
 repeat (first|with_reducible refine wpAny_madeHere_exc F.canon hC ?_|with_reducible refine wpAny_loadPart_at hC ?_|(with_reducible refine wpAny_isSubtype_exc hC ?_;first|rw[hcB]|rw[hcA]|rw[hcN])|wp_step)
 show R _ _;rw[Heap.size_push];exact hq
theorem zFB(F:ExcBaseFacts B newId initId bmB)(hB:bm.contains (.type B)=true){e:Addr}{oe:Obj}{rest:List Value}{Q:Unit->Shared->Prop}{newId':String}
  (hC:h.get? C=some (excClassObj nm q C N bs bm hdct sn sub ab col dd k0 k1 k2 k3 k5 newId')) (he:h.get? e=some oe) (hcls:oe.cls=.ref C) (hq:Q () ⟨h,g,d,t,os⟩) :
  wpAny M A (checkBuiltinCall initId ⟨.ref e::rest,[]⟩) Q E ⟨h,g,d,t,os⟩:=by
 have hcB:(Value.ref C::bm).contains (.type B)=true:=by rw[qB9,hB,qDr]
 have hshort:=F.noStar;simp only[checkBuiltinCall,F.initKind,F.initSplit,F.initRow]
 repeat (first|(with_reducible refine wpAny_loadPart_at he ?_;rw[hcls])|with_reducible refine wpAny_loadPart_at hC ?_|(with_reducible refine wpAny_isSubtype_exc hC ?_;rw[hcB])|wp_step)
 refine wpAny_onRaise ?_;rw[show ∀(a b:String)(n:Nat),Bind.check ⟨.positional,"*",B,.self,[⟨"args",.varPos,false⟩]⟩ a b n (List.map (fun x=>x.fst) ({ pos:=Value.ref e::rest }:Args).kw)=pure () from
  fun a b n=>check_star_args _ _ _ _ _ _]
 exact wpAny_pure hq
theorem zEJ(F:ExcBaseFacts B newId initId bmB)(hB:bm.contains (.type B)=true)(hA:bm.contains (.type "AttributeError")=false)(hN:bm.contains (.type "NameError")=false){rest:List Value}{fI:Addr}{oI:Obj}{Q:Fin->Shared->Prop}
  (hC:h.get? C=some (excClassObj nm q C N bs bm hdct sn sub ab col dd k0 k1 k2 k3 k5 newId)) (hi:qBw (model prog w) h (typeLookup (.ref C) "__init__") (some (.ref fI)))
  (hfI:h.get? fI=some oI) (hfc:oI.cls=.type "function")
  (hq:∀h' e,Heap.MadeExcOf h h' e (.ref C) rest->h.objs.size<=e ->
   wpAny (model prog w) A (call (.ref fI) (.ref e::rest)) (fun r s'=>r=.none/\Q (.done (.ret (.ref e))) s') E ⟨h',g,d,t,os⟩) (hrest:rest.length<=sizeLine) :
  wpAny (model prog w) A (Builtin.«type.__call__» ⟨.ref C::rest,[]⟩) Q E ⟨h,g,d,t,os⟩:=by
 repeat (first|with_reducible refine wpAny_loadPart_at hC ?_|with_reducible refine wpAny_madeBy_exc hC ?_|wp_step)
 refine codeAny_call_builtin_code (Code.quiet_builtin _ F.quiet) (zG3 F hB hC ?_);refine zHW F hB hA hN hC ?_ hrest;show wpAny _ _ _ _ _ _;have hC₁:=Heap.get?_push_of_some { cls:=.ref C,data:=.fields #[.ref h.objs.size,.none,.none,.none,.bool false,.none] }
  (Heap.get?_push_of_some { cls:=.type "tuple",data:=.seq rest.toArray } hC)
 have hfI₁:=Heap.get?_push_of_some { cls:=.ref C,data:=.fields #[.ref h.objs.size,.none,.none,.none,.bool false,.none] }
  (Heap.get?_push_of_some { cls:=.type "tuple",data:=.seq rest.toArray } hfI)
 have hi₁:=hi.keeps (h':=(h.push { cls:=.type "tuple",data:=.seq rest.toArray }).push { cls:=.ref C,data:=.fields #[.ref h.objs.size,.none,.none,.none,.bool false,.none] }) fun b o e=>Heap.get?_push_of_some _ (Heap.get?_push_of_some _ e)
 have hget:((h.push { cls:=.type "tuple",data:=.seq rest.toArray }).push
   { cls:=.ref C,data:=.fields #[.ref h.objs.size,.none,.none,.none,.bool false,.none] }).get? (h.objs.size+1)=some
   { cls:=.ref C,data:=.fields #[.ref h.objs.size,.none,.none,.none,.bool false,.none] }:=by heap_get
 have hcC:(Value.ref C::bm).contains (.ref C)=true:=by simp
 unfold isInstance
 repeat (first|with_reducible refine wpAny_loadPart_at hget ?_|(with_reducible refine wpAny_isSubtype_exc hC₁ ?_;rw[hcC])|wp_step)
 show wpAny _ _ (typeLookup (.ref C) _) _ _ _;refine hi₁.here ?_;refine wpAny_holding (wpAny_bind ?_);unfold bindSpecial;refine wpAny_bind (wpAny_typeOf (T:="function") ⟨_,hfI₁,hfc⟩ ?_);rw[if_pos (by decide)];refine wpAny_pure (wpAny_bind (wpAny_mono (hq _ (h.objs.size+1) ⟨fun b o hb=>Heap.get?_push_of_some _ (Heap.get?_push_of_some _ hb),Heap.get?_none_of_le (qC7 _),h.objs.size,hget,Heap.get?_none_of_le (qA6 _),?_⟩ (qC7 _)) (fun r s' hr=>?_) fun _ _ x=>x))
 ·exact Heap.get?_push_of_some _ (Heap.get?_push_at rfl rfl)
 ·obtain⟨rfl,hQ⟩:=hr
  wp_walk
  exact hQ
theorem call_initX(F:ExcBaseFacts B newId initId bmB)(hB:bm.contains (.type B)=true)(hA:bm.contains (.type "AttributeError")=false)(hN:bm.contains (.type "NameError")=false){rest:List Value}{fI:Addr}{oI:Obj}{Q:Value->Shared->Prop}
  (hC:h.get? C=some (excClassObj nm q C N bs bm hdct sn sub ab col dd k0 k1 k2 k3 k5 newId)) (hi:qBw (model prog w) h (typeLookup (.ref C) "__init__") (some (.ref fI)))
  (hfI:h.get? fI=some oI) (hfc:oI.cls=.type "function")
  (hq:∀h' e,Heap.MadeExcOf h h' e (.ref C) rest->h.objs.size<=e ->
   wpAny (model prog w) (A.under (.builtin "type.__call__" ⟨.ref C::rest,[]⟩)) (call (.ref fI) (.ref e::rest)) (fun r s'=>r=.none/\Q (.ref e) s') E ⟨h',g,d,t,os⟩) (hrest:rest.length<=sizeLine) :
  wpAny (model prog w) A (call (.ref C) rest) Q E ⟨h,g,d,t,os⟩:=by
 have f1:=tc_lookup;have f2:=tc_bind (.ref C);have hT:(⟨h,g,d,t,os⟩:Shared).TypeIs (.ref C) "type":=⟨_,hC,rfl⟩
 refine wpAny_call (codeAny_of_tree ?_);show wpAny _ _ (callAny (.ref C) _) _ _ _
 repeat (any_goals (first|assumption|with_reducible refine wpAny_loadPart_at hC ?_|wp_step))
 refine⟨rfl,?_⟩;refine codeAny_call_builtin_at (Code.quiet_builtin _ (by decide +kernel)) entry_typeCall (wpAny_check_type_call_sub hC (zEJ (hrest:=hrest) F hB hA hN hC hi hfI hfc fun h' e hm hz=>?_));exact hq h' e hm hz
theorem zK4(F:ExcBaseFacts B newId initId bmB)(hB:bm.contains (.type B)=true)(hA:bm.contains (.type "AttributeError")=false)(hN:bm.contains (.type "NameError")=false){rest:List Value}{Q:Fin->Shared->Prop}
  (hC:h.get? C=some (excClassObj nm q C N bs bm hdct sn sub ab col dd k0 k1 k2 k3 k5 newId)) (hi:qBw (model prog w) h (typeLookup (.ref C) "__init__") (some (.builtin initId)))
  (hq:∀h' e,Heap.MadeExcOf h h' e (.ref C) rest->h.objs.size<=e->Q (.done (.ret (.ref e))) ⟨h',g,d,t,os⟩) (hrest:rest.length<=sizeLine) :
  wpAny (model prog w) A (Builtin.«type.__call__» ⟨.ref C::rest,[]⟩) Q E ⟨h,g,d,t,os⟩:=by
 repeat (first|with_reducible refine wpAny_loadPart_at hC ?_|with_reducible refine wpAny_madeBy_exc hC ?_|wp_step)
 refine codeAny_call_builtin_code (Code.quiet_builtin _ F.quiet) (zG3 F hB hC ?_);refine zHW F hB hA hN hC ?_ hrest;show wpAny _ _ _ _ _ _;have hC₁:=Heap.get?_push_of_some { cls:=.ref C,data:=.fields #[.ref h.objs.size,.none,.none,.none,.bool false,.none] }
  (Heap.get?_push_of_some { cls:=.type "tuple",data:=.seq rest.toArray } hC)
 have hi₁:=hi.keeps (h':=(h.push { cls:=.type "tuple",data:=.seq rest.toArray }).push { cls:=.ref C,data:=.fields #[.ref h.objs.size,.none,.none,.none,.bool false,.none] }) fun b o e=>Heap.get?_push_of_some _ (Heap.get?_push_of_some _ e)
 have hget:((h.push { cls:=.type "tuple",data:=.seq rest.toArray }).push
   { cls:=.ref C,data:=.fields #[.ref h.objs.size,.none,.none,.none,.bool false,.none] }).get? (h.objs.size+1)=some
   { cls:=.ref C,data:=.fields #[.ref h.objs.size,.none,.none,.none,.bool false,.none] }:=by heap_get
 have hcC:(Value.ref C::bm).contains (.ref C)=true:=by simp
 unfold isInstance
 repeat (first|with_reducible refine wpAny_loadPart_at hget ?_|(with_reducible refine wpAny_isSubtype_exc hC₁ ?_;rw[hcC])|wp_step)
 show wpAny _ _ (typeLookup (.ref C) _) _ _ _;refine hi₁.here ?_;refine wpAny_holding (wpAny_bind (wpAny_of_eq (F.init.bind _) ?_));refine wpAny_bind (wpAny_call (codeAny_call_builtin F.init.plain F.initEntry (zFB F hB hC₁ hget rfl ?_)))
 wp_walk
 refine hq _ _ ⟨fun b o hb=>?_,Heap.get?_none_of_le (qC7 _),h.objs.size+2,?_,Heap.get?_none_of_le (by lia),?_⟩ (qC7 _)
 ·rw[Heap.get?_update_other _ _ (qC0 (qEe (Heap.lt_size hb)))];exact Heap.get?_push_of_some _ (Heap.get?_push_of_some _ (Heap.get?_push_of_some _ hb))
 ·rw[Heap.get?_update_self _ (Heap.get?_push_of_some _ hget) rfl];simp only[Heap.size_push];rfl
 ·rw[Heap.get?_update_other _ _ (show h.objs.size+1≠h.objs.size+2 by lia)];exact Heap.get?_push_at (by simp only[Heap.size_push]) rfl
theorem callX(F:ExcBaseFacts B newId initId bmB)(hB:bm.contains (.type B)=true)(hA:bm.contains (.type "AttributeError")=false)(hN:bm.contains (.type "NameError")=false){rest:List Value}{Q:Value->Shared->Prop}
  (hC:h.get? C=some (excClassObj nm q C N bs bm hdct sn sub ab col dd k0 k1 k2 k3 k5 newId)) (hi:qBw (model prog w) h (typeLookup (.ref C) "__init__") (some (.builtin initId)))
  (hq:∀h' e,Heap.MadeExcOf h h' e (.ref C) rest->h.objs.size<=e->Q (.ref e) ⟨h',g,d,t,os⟩) (hrest:rest.length<=sizeLine) :
  wpAny (model prog w) A (call (.ref C) rest) Q E ⟨h,g,d,t,os⟩:=by
 have f1:=tc_lookup;have f2:=tc_bind (.ref C);have hT:(⟨h,g,d,t,os⟩:Shared).TypeIs (.ref C) "type":=⟨_,hC,rfl⟩
 refine wpAny_call (codeAny_of_tree ?_);show wpAny _ _ (callAny (.ref C) _) _ _ _
 repeat (any_goals (first|assumption|with_reducible refine wpAny_loadPart_at hC ?_|wp_step))
 refine⟨rfl,?_⟩;refine codeAny_call_builtin_at (Code.quiet_builtin _ (by decide +kernel)) entry_typeCall (wpAny_check_type_call_sub hC (zK4 (hrest:=hrest) F hB hA hN hC hi fun h' e hm hz=>?_));exact hq h' e hm hz
theorem call_baseX(F:ExcBaseFacts B newId initId bmB)(hB:bm.contains (.type B)=true){e t1:Addr}{di:Option Addr}{rest:List Value}{Q:Value->Shared->Prop}{newId':String}
  (hC:h.get? C=some (excClassObj nm q C N bs bm hdct sn sub ab col dd k0 k1 k2 k3 k5 newId')) (he:h.get? e=some { cls:=.ref C,dict:=di,data:=.fields #[.ref t1,.none,.none,.none,.bool false,.none] })
  (hq:∀h' t0,(∀b o,b≠e->h.get? b=some o->h'.get? b=some o)->h'.get? e=some { cls:=.ref C,dict:=di,data:=.fields #[.ref t0,.none,.none,.none,.bool false,.none] }->Q .none ⟨h',g,d,t,os⟩) (hrest:rest.length<=sizeLine) :
  wpAny (model prog w) A (call (.builtin initId) (.ref e::rest)) Q E ⟨h,g,d,t,os⟩:=by
 refine wpAny_call (codeAny_call_builtin F.init.plain F.initEntry (zFB F hB hC he rfl ?_))
 wp_walk
 refine hq _ h.objs.size (fun b o hbe hb=>?_) ?_
 ·rw[Heap.get?_update_other _ _ (qCc hbe)];exact Heap.get?_push_of_some _ hb
 ·rw[Heap.get?_update_self _ (Heap.get?_push_of_some _ he) rfl];rfl
end
end PySem.Xc
namespace PySem.W
open PySem
def xcIn(K:Frag)(C:Addr):Bool:=match K.lookup C with
 |some ⟨.type "type",_,.cls cd,sl⟩=>(match cd.mro,sl.toList with
  |.ref C'::bm,[_,_,_,_,some (.builtin n),_]=>C'==C && !cd.hasDel&&excTail bm&&n == "ValueError.__new__" && cd.hasDict
  |_,_=>false)
 |_=>false
theorem xc_cls{K:Frag}{h:Heap}{C:Addr}(X:K.In h)(q:xcIn K C=true):∃nm qn N bs bm hdct sn sub ab col dd k0 k1 k2 k3 k5,
  h.get? C=some (excClassObj nm qn C N bs bm hdct sn sub ab col dd k0 k1 k2 k3 k5 "ValueError.__new__")/\excTail bm=true:=by
 unfold xcIn at q
 split at q
 ·rename_i dd cd sl ho
  split at q
  ·rename_i C' bm k0 k1 k2 k3 n k5 hm hs
   simp only[qBd,beq_iff_eq,Bool.not_eq_true']at q;obtain⟨⟨⟨⟨rfl,hdel⟩,hb⟩,hn⟩,hd⟩:=q;subst hn;obtain⟨nm,bs,mro,ns,qn,hd',sn,sub,ab,col,del⟩:=cd;dsimp only at hm hdel;subst hm hdel;have hsl:sl=#[k0,k1,k2,k3,some (.builtin "ValueError.__new__"),k5]:=by
    obtain⟨l⟩:=sl;simp only at hs;rw[hs]
   subst hsl;exact⟨nm,qn,ns,bs,bm,hd',sn,sub,ab,col,dd,k0,k1,k2,k3,k5,X _ _ ho,hb⟩
  ·cases q
 ·cases q
theorem exc_con{l:List Value}{T:String}{b:Bool}(e:excTail l=true)(hb:List.contains [Value.type "ValueError",.type "Exception",.type "BaseException",.type "object"] (.type T)=b):l.contains (.type T)=b:=by
 obtain⟨as,rfl⟩:=zBP e;clear e
 induction as with
 |nil=>exact hb
 |cons a r ih=>rw[qAj,qDj,qB9,ih];rfl
end PySem.W
namespace PySem.Xc
open PySem
section
variable{M:Model}{A:Around}{E:Value->Shared->Prop}{s:Shared}{env:Env}
variable{nm q:Str}{C N:Addr}{bs bm:List Value}{hdct:Bool}{sn:List Str}{sub:List Value}{ab:Bool}{col:Option Bool}{dd:Option Addr}{k0 k1 k2 k3 k5:Option Value}{newId:String}
theorem raiseX{x:Sem Value}{Q:Flow->Shared->Prop}(hh:A.handled=none)
  (h:wpAny M A x (fun v s₁=>∃e t di nm q C N bs bm hdct sn sub ab col dd k0 k1 k2 k3 k5 newId,v=.ref e/\s₁.heap.get? C=some (excClassObj nm q C N bs bm hdct sn sub ab col dd k0 k1 k2 k3 k5 newId)/\bm.contains (.type "BaseException")=true /\
   s₁.heap.get? e=some { cls:=.ref C,dict:=di,data:=.fields #[.ref t,.none,.none,.none,.bool false,.none] }/\E (.ref e) s₁) E s) :
  wpAny M A (raiseStmt env (some x) none) Q E s:=by
 unfold raiseStmt;refine wpAny_bind (wpAny_mono h (fun v s₁ h₁=>?_) fun _ _ x=>x);obtain⟨e,t,di,nm,q,C,N,bs,bm,hdct,sn,sub,ab,col,dd,k0,k1,k2,k3,k5,newId,rfl,hC,hbase,he,hE⟩:=h₁;have hcB:(Value.ref C::bm).contains (.type "BaseException")=true:=by rw[qB9,hbase,qDr]
 obtain⟨hp,g,d,tk,os⟩:=s₁
 repeat (first|with_reducible refine wpAny_loadPart_at he ?_|with_reducible refine wpAny_loadPart_at hC ?_|(with_reducible refine wpAny_isSubtype_exc hC ?_;rw[hcB])|wp_step)
 exact wpAny_raiseNew_none hh hE
theorem RaiseX{x:Expr}{pos:Pos}{Q:Flow->Shared->Prop}(hh:A.handled=none)
  (h:wpAny M A (eval x env) (fun v s₁=>∃e t di nm q C N bs bm hdct sn sub ab col dd k0 k1 k2 k3 k5 newId,v=.ref e/\s₁.heap.get? C=some (excClassObj nm q C N bs bm hdct sn sub ab col dd k0 k1 k2 k3 k5 newId)/\bm.contains (.type "BaseException")=true /\
   s₁.heap.get? e=some { cls:=.ref C,dict:=di,data:=.fields #[.ref t,.none,.none,.none,.bool false,.none] }/\E (.ref e) s₁) E s) :
  wpAny M A (exec (.Raise (some x) none pos) env) Q E s:=by
 rw[arm_exec_Raise]
 first
  |exact wpAny_bind (wpAny_standAt (raiseX hh (wpAny_bind (wpAny_mono h (fun v s₁ h₁=>wpAny_bind (wpAny_standAt (wpAny_pure h₁))) fun _ _ x=>x))))
  |(simp only[evalOpt,Option.map];exact wpAny_bind (wpAny_standAt (raiseX hh (wpAny_bind (wpAny_mono h (fun v s₁ h₁=>wpAny_bind (wpAny_standAt (wpAny_pure h₁))) fun _ _ x=>x)))))
  |(show wpAny M A (do standAt pos;raiseStmt env (some (do let v <- eval x env;standAt pos;pure v)) none) Q E s;exact wpAny_bind (wpAny_standAt (raiseX hh (wpAny_bind (wpAny_mono h (fun v s₁ h₁=>wpAny_bind (wpAny_standAt (wpAny_pure h₁))) fun _ _ x=>x)))))
end
section
open PySem.W
variable{prog:Program}{w:World}{A:Around}{E:Value->Shared->Prop}{K:Frag}{x C:Addr}{ox:Obj}{od:Option Obj}{name:Str}{expr fill:Bool}{h:Heap}{g:Array GenState}{d:Drawn}{t:Nat}{os:OsState}
theorem zKJ{tk:Tok}{v:Value}{Q:Fin->Shared->Prop}(X:K.In h)(I:InstAt h x ox C od)(hf:findObj K C od name=some (.value v))(hq:Q (.done (.ret v)) ⟨h,g,d,t,os⟩) :
  wpAny (model prog w) A (Builtin.«object.__getattribute__» ⟨[.ref x,.str name tk],[]⟩) Q E ⟨h,g,d,t,os⟩:=by
 have L0:=I.type (M:=model prog w);have L1:=looks_find (M:=model prog w) X I hf;unfold Builtin.«object.__getattribute__»;refine wpAny_bind (wpAny_pure (wpAny_bind (wpAny_pure (wpAny_bind (L0.at (wpAny_bind (L1.at ?_)))))));exact wpAny_pure hq
theorem zHX{M:Model}{nameV:Value}{Q:Unit->Shared->Prop}(X:K.In h)(hc:xcIn K C=true)(I:InstAt h x ox C od)(hq:Q () ⟨h,g,d,t,os⟩):wpAny M A (checkBuiltinCall "BaseException.__getattribute__" ⟨[.ref x,nameV],[]⟩) Q E ⟨h,g,d,t,os⟩:=by
 obtain⟨nm,qn,N,bs,bm,hdct,sn,sub,ab,col,dd,k0,k1,k2,k3,k5,hC,ht⟩:=xc_cls X hc;have hk:builtinKind "BaseException.__getattribute__" = some .slot:=by decide +kernel
 have hsplit:splitId "BaseException.__getattribute__" = some ("BaseException","__getattribute__"):=by decide +kernel
 have hcB:(Value.ref C::bm).contains (.type "BaseException")=true:=by rw[qB9,exc_con ht (T:="BaseException") (b:=true) (by decide)];rfl
 have ha:=F.args_bexc_ga (.ref x) nameV;simp only[checkBuiltinCall,hk,hsplit];refine wpAny_bind ?_
 ·unfold isInstance;have hx:=I.at_;have hcl:=I.cls
  repeat (first|(with_reducible refine wpAny_loadPart_at hx ?_;rw[hcl])|(with_reducible refine wpAny_isSubtype_exc hC ?_;rw[hcB])|wp_step)
  exact hq
theorem get_excX{v:Value}{Q:Value->Shared->Prop}(X:K.In h)(I:InstAt h x ox C od)(hc:xcIn K C=true)(hga:findIn K (.ref C) "__getattribute__" = some (some (.builtin "BaseException.__getattribute__")))(hgg:findIn K (.ref C) "__getattr__" = some none)
  (hf:findObj K C od name=some (.value v)) (hh:handedIn v=true) (hq:Q v ⟨h,g,d,t+1,os⟩):wpAny (model prog w) A (getAttr (.ref x) name expr) Q E ⟨h,g,d,t,os⟩:=by
 have f3:=F.excAttr_ValueError.ga.bind (.ref x);have hx0:(expr&&onTheHeap (Value.builtin "BaseException.__getattribute__"))=false:=by cases expr<;>rfl
 have hx2:(Value.builtin "BaseException.__getattribute__" == Value.builtin "object.__getattribute__")=false:=by decide +kernel
 have hx1:(onTheHeap (Value.ref C)&&Value.builtin "BaseException.__getattribute__" == Value.builtin "object.__getattribute__")=false:=by rw[hx2];rfl
 have L0:=I.type (M:=model prog w);have L1:=looks_findIn (M:=model prog w) X hga;have L2:=looks_findIn (M:=model prog w) X hgg;have hx:=I.at_;have hcl:=I.cls;unfold getAttr
 repeat (any_goals (first|assumption|(with_reducible refine wpAny_loadPart_at hx ?_;rw[hcl])|with_reducible refine L1.at ?_|with_reducible refine L2.at ?_|wp_step))
 refine codeAny_call_builtin F.excAttr_ValueError.ga.plain F.entry_bexc_ga (zHX (h:=h) X hc I (zKJ (h:=h) X I hf ?_));show wpAny _ _ (handedOut v) _ _ _;rw[handedOut_of hh];exact wpAny_pure hq
end
end PySem.Xc
namespace L2
open PySem PySem.Spec PyProof.Rows
def XN(e:Addr)(C:Value)(d:Option Addr)(h:Heap):Prop:=∃t1,h.get? e=some { cls:=C,dict:=d,data:=.fields #[.ref t1,.none,.none,.none,.bool false,.none] }
abbrev xn(e:Addr)(C:Value)(d:Option Addr):HO:=.ext (XN e C d)
theorem zP2{e:Addr}{C:Value}{d:Option Addr}(h1 h2:Heap)(x:XN e C d h1)(k:∀o,h1.get? e=some o->h2.get? e=some o):XN e C d h2:=let⟨t1,a⟩:=x;⟨t1,k _ a⟩
theorem zP1{e:Addr}{C:Value}{d:Option Addr}(h1 h2:Heap)(x:XO e C d h1)(k:∀o,h1.get? e=some o->h2.get? e=some o):XO e C d h2:=let⟨oe,vs,a,r⟩:=x;⟨oe,vs,k _ a,r⟩
theorem zPV{P:Program}{w:World}{H:Hp}{h:Heap}{e:Addr}{C:Value}{d:Option Addr}(x:XN e C d h):ObjOk P w H h e (xn e C d):=⟨x,let⟨t1,a⟩:=x;⟨_,a⟩,zP2⟩
theorem zTZ{P:Program}{w:World}{H:Hp}{h:Heap}{e:Addr}{C:Value}{d:Option Addr}(x:XO e C d h):ObjOk P w H h e (xo e C d):=⟨x,let⟨oe,vs,a,_⟩:=x;⟨_,a⟩,zP1⟩
section
variable{X:Cx}{pins:List (Addr×Obj)}{σ:St}{H:Hp}{s:Shared}{k:Nat}{f C:Addr}{fd:FuncData}{ps:List Str}{sp:Sp}{x:Str}{p pos:Pos}{e:Expr}{es:List Expr}{t:TA}{te:TE}
def zJ5(C:Addr)(sp:Sp)(E:XK)(t:TA):TE:=fun σ H Q=>t σ H fun vs H1=>vs.length<=sizeLine/\∀e,H1 e=none->sp (.ref e::vs) (upd H1 e (xn e (.ref C) none)) (fun v H2=>v=.non/\Q (.ref e) H2) E
def zIB(C:Addr)(t:TA):TE:=fun σ H Q=>t σ H fun vs H1=>vs.length<=sizeLine/\∀e,H1 e=none->Q (.ref e) (upd H1 e (xn e (.ref C) none))
theorem Inv.madeX{h':Heap}{e:Addr}{us:List Value}(I:Inv X pins σ H s)(m:Heap.MadeExcOf s.heap h' e (.ref C) us)(hs:s.heap.objs.size<=e):H e=none/\Inv X pins σ (upd H e (xn e (.ref C) none)) { s with heap:=h' }:=by
 obtain⟨t1,h1,_⟩:=m.there;exact⟨I.hok.fresh hs,I.laid (t':=s.toks) m.keeps hs (zPV ⟨t1,h1⟩)⟩
theorem zL1{Q:VK}{E:XK}{us:List Value}{vs:List V}(hc:PySem.W.xcIn X.K C=true)(hi:qA3 X.K (.ref C) "__init__" = some (some (.ref f)))(hf:qB7 X.K (.ref f)=true)(F:FnOk X.prog X.w X.K X.mg X.base (CXe X.prog X.w) k f fd ps sp)
  (hr:Room (k+1) X.A) (hb:Binds X.K fd ps []) (hx:zDX (CXe X.prog X.w) X E) (I:Inv X pins σ H s) (r:Vals vs us) (hz:vs.length<=sizeLine)
  (h:∀e,H e=none->sp (.ref e::vs) (upd H e (xn e (.ref C) none)) (fun v H2=>v=.non/\Q (.ref e) H2) E) :
  wpAny (model X.prog X.w) X.A (call (.ref C) us) (EP X pins σ Q) X.xe s:=by
 obtain⟨nm,qn,N,bs,bm,hdct,sn,sub,ab,col,dd,k0,k1,k2,k3,k5,hC,ht⟩:=PySem.W.xc_cls I.kIn hc;obtain⟨oI,hfI,hfc⟩:∃oI,s.heap.get? f=some oI/\oI.cls=.type "function":=by
  have hf':=beq_iff_eq.mp hf;obtain⟨o,ho,h2⟩:=qBy.mp (show(X.K.lookup f).map (·.cls)=some (.type "function") from hf');exact⟨o,I.kIn _ _ ho,h2⟩
 have hC':s.heap.get? C=some (excClassObj nm qn C N bs bm hdct sn sub ab col dd k0 k1 k2 k3 k5 "ValueError.__new__"):=hC;have hus:us.length<=sizeLine:=by rw[<- r.length];exact hz
 have key:∀h' e,Heap.MadeExcOf s.heap h' e (.ref C) us->s.heap.objs.size<=e->wpAny (model X.prog X.w) (X.A.under (.builtin "type.__call__" ⟨.ref C::us,[]⟩)) (call (.ref f) (.ref e::us)) (fun r s'=>r=.none/\EP X pins σ Q (.ref e) s') X.xe { s with heap:=h' }:=by
  intro h' e m hs;obtain⟨he,I2⟩:=I.madeX m hs;have hq:=h e he;have r2:Vals (V.ref e::vs) (Value.ref e::us):=.cons rfl r;have hl:(Value.ref e::us++[]).length=ps.length:=by
   rw[qBi,<- r2.length];exact F.len _ _ _ _ hq
  have hbb:=hb _ (Value.ref e::us) I2.kIn hl;rw[qBi]at hbb;refine wpAny_call (codeAny_mono (F.run _ X.stack _ _ ⟨Value.ref e::us,[]⟩ (Value.ref e::us) _ _ E (hr.make C us []) (I2.env0.make C us []) hbb r2 hq) fun r s' hq'=>?_);cases r with
  |error x=>exact hx pins σ _ _ x s' I2 hq'
  |ok fl=>
   cases fl with
   |ret u=>
    obtain⟨v,H',I3,rv,ev,q3⟩:=I2.after hq';subst ev;exact⟨rv,⟨V.ref e,H',I3,rfl,q3⟩⟩
   |next=>exact qA4 hq'
   |brk=>exact qA4 hq'
   |cont=>exact qA4 hq'
 have hK:=qC6 (M:=model X.prog X.w) I.kIn hi;obtain⟨hh,g,d,tk,os⟩:=s;exact Xc.call_initX qC5 (PySem.W.exc_con ht (by decide)) (PySem.W.exc_con ht (by decide)) (PySem.W.exc_con ht (by decide)) hC' hK hfI hfc key hus
theorem zK8{Q:VK}{us:List Value}{vs:List V}(hc:PySem.W.xcIn X.K C=true)(hi:qA3 X.K (.ref C) "__init__" = some (some (.builtin "ValueError.__init__")))
  (I:Inv X pins σ H s) (r:Vals vs us) (hz:vs.length<=sizeLine) (h:∀e,H e=none->Q (.ref e) (upd H e (xn e (.ref C) none))):wpAny (model X.prog X.w) X.A (call (.ref C) us) (EP X pins σ Q) X.xe s:=by
 obtain⟨nm,qn,N,bs,bm,hdct,sn,sub,ab,col,dd,k0,k1,k2,k3,k5,hC,ht⟩:=PySem.W.xc_cls I.kIn hc;have hus:us.length<=sizeLine:=by rw[<- r.length];exact hz
 have key:∀h' e,Heap.MadeExcOf s.heap h' e (.ref C) us->s.heap.objs.size<=e->EP X pins σ Q (.ref e) { s with heap:=h' }:=by
  intro h' e m hs;obtain⟨he,I2⟩:=I.madeX m hs;exact⟨.ref e,_,I2,rfl,h e he⟩
 have hK:=qC6 (M:=model X.prog X.w) I.kIn hi;obtain⟨hh,g,d,tk,os⟩:=s;exact Xc.callX qC5 (PySem.W.exc_con ht (by decide)) (PySem.W.exc_con ht (by decide)) (PySem.W.exc_con ht (by decide)) hC hK key hus
theorem zN1{E:XK}(hc:PySem.W.xcIn X.K C=true)(hi:qA3 X.K (.ref C) "__init__" = some (some (.ref f)))(hf:qB7 X.K (.ref f)=true)(F:FnOk X.prog X.w X.K X.mg X.base (CXe X.prog X.w) k f fd ps sp)
  (hr:Room (k+1) X.A) (hb:Binds X.K fd ps []) (hx:zDX (CXe X.prog X.w) X E) (hg:Gl X x) (hm:X.mg x=some (.ref C)) (hk:qAe X.K (.ref C)=true)
  (ha:PA X (e::es) t) (hdb:(x==("__debug__":Str))=false:=by decide) (he:starEach (e::es) X.env=(false,eval e X.env)::starEach es X.env:=by rfl) (hpl:(backTo pos (starEach es X.env)).any (·.1)=false:=by rfl) :
  PE X (.Call (.Name x p) (e::es) [] pos) (zJ5 C sp E t):=by
 intro pins s σ H Q I h;refine wpAny_Call_Name_kw (zCK I hg hm ?_ hdb);refine qBp (h₀:=X.base) I.ok.mod.kin hk (thn (ha pos pins s σ H _ I h) fun us s1 ⟨vs,H1,I1,r,z,q⟩=>⟨I1.kIn,?_⟩) he hpl;exact zL1 hc hi hf F hr hb hx I1 r z q
theorem zL7(hc:PySem.W.xcIn X.K C=true)(hi:qA3 X.K (.ref C) "__init__" = some (some (.builtin "ValueError.__init__")))(hg:Gl X x)(hm:X.mg x=some (.ref C))(hk:qAe X.K (.ref C)=true)
  (ha:PA X (e::es) t) (hdb:(x==("__debug__":Str))=false:=by decide) (he:starEach (e::es) X.env=(false,eval e X.env)::starEach es X.env:=by rfl) (hpl:(backTo pos (starEach es X.env)).any (·.1)=false:=by rfl) :
  PE X (.Call (.Name x p) (e::es) [] pos) (zIB C t):=by
 intro pins s σ H Q I h;refine wpAny_Call_Name_kw (zCK I hg hm ?_ hdb);refine qBp (h₀:=X.base) I.ok.mod.kin hk (thn (ha pos pins s σ H _ I h) fun us s1 ⟨vs,H1,I1,r,z,q⟩=>⟨I1.kIn,?_⟩) he hpl;exact zK8 hc hi I1 r z q
theorem zMN{e:Addr}{o:HO}(h:H e=some o):upd H e o=H:=by
 funext b
 unfold upd
 split
 ·rename_i z;rw[z];exact h.symm
 ·rfl
theorem Inv.xn{e:Addr}{d:Option Addr}{Cv:Value}(I:Inv X pins σ H s)(h:H e=some (xn e Cv d)):XN e Cv d s.heap:=(I.hok e _ h).1
theorem XN.xo{h:Heap}{e:Addr}{d:Option Addr}{Cv:Value}(x:XN e Cv d h):XO e Cv d h:=let⟨t1,a⟩:=x;⟨_,_,a,rfl,rfl,rfl,by simp⟩
theorem Inv.raised{e:Addr}{d:Option Addr}(I:Inv X pins σ H s)(h:H e=some (L2.xn e (.ref C) d))(E:XK)(q:E (.ref e) d (upd H e (xo e (.ref C) d))):XP X pins σ E (.ref e) s:=by
 have x:=I.xn h;obtain⟨t1,a⟩:=id x;have I':Inv X pins σ (upd H e (xo e (.ref C) d)) s:=I.write (t':=s.toks) (h':=s.heap) (e:=e) (by rw[h];trivial) (.inl rfl) (fun _ _ _ q=>q) ⟨_,a⟩ (zTZ x.xo);exact⟨s.heap.objs.size,e,.ref C,d,_,rfl,I',⟨zAD,.inl ⟨_,_,a,rfl,rfl,rfl,rfl⟩⟩,I.sz,qA6 _,I.pinlt,q⟩
def Flies(X:Cx)(E:XK):Prop:=∀(pins:List (Addr×Obj))(σ:St)(x:Value)(s':Shared),XP X pins σ E x s'->X.xe x s'
theorem Flies.passes{E:XK}(h:Flies X E):zDX (CXe X.prog X.w) X E:=fun pins σ H s x s' I q=>h pins σ x s' (I.flown q)
def zJ4(K:qA0)(E:XK)(te:TE):TS:=fun _ σ H=>te σ H fun v H1=>∃e C d,v=.ref e/\H1 e=some (L2.xn e (.ref C) d)/\PySem.W.xcIn K C=true/\E (.ref e) d (upd H1 e (xo e (.ref C) d))
theorem zJE{E:XK}(he:PE X e te)(hf:Flies X E)(hc:X.calm=true):PS X (.Raise (some e) none pos) (zJ4 X.K E te):=by
 intro pins s σ H D I h;refine Xc.RaiseX (I.ok.hd hc) (thn (he pins s σ H _ I h) fun v s1 z0=>?_);obtain⟨y,H1,I1,ry,a,C,d,ey,ha,hx,q⟩:=z0;subst ey;cases ry;obtain⟨t1,hg⟩:=I1.xn ha;obtain⟨nm,qn,N,bs,bm,hdct,sn,sub,ab,col,dd,k0,k1,k2,k3,k5,hC,ht⟩:=PySem.W.xc_cls I1.kIn hx;exact⟨a,t1,d,nm,qn,C,N,bs,bm,hdct,sn,sub,ab,col,dd,k0,k1,k2,k3,k5,_,rfl,hC,PySem.W.exc_con ht (by decide),hg,hf pins σ _ _ (I1.raised ha E q)⟩
def zO4(K:qA0)(t:TA):TE:=fun σ H Q=>t σ H fun vs H1=>∃e C d rest,vs=.ref e::rest/\H1 e=some (L2.xn e (.ref C) d)/\PySem.W.xcIn K C=true/\rest.length<=sizeLine/\Q .non H1
structure XBase(K:qA0)(B:Addr):Prop where
 ga:qC3 K (.ref B) "__getattribute__" = some (some (.builtin "type.__getattribute__"))
 rd:qEx K B (.type "type")=true
 fd:qEy K (.ref B) (.type "type") "__init__" = some (.val (.builtin "ValueError.__init__"))
 hi:qCp (.builtin "ValueError.__init__")=true
theorem zN2{B:Addr}{apos:Pos}{pl:Sem Bool}(hB:XBase X.K B)(hg:Gl X x)(hm:X.mg x=some (.ref B))(ha:PA X (e::es) t)(hdb:(x==("__debug__":Str))=false:=by decide)
  (he:starEach (e::es) X.env=(false,eval e X.env)::starEach es X.env:=by rfl) (hpl:(backTo pos (starEach es X.env)).any (·.1)=false:=by rfl)
  (ht:eval (.Call (.Attribute (.Name x p) "__init__" apos) (e::es) [] pos) X.env=(do
   let ov <- eval (.Name x p) X.env
   standAt apos.atName
   let(f,first) <- holding [ov] (getMethod ov "__init__" pl)
   callWith pos f first (backTo pos (starEach (e::es) X.env)) (backToKw pos (keywordEach [] X.env))):=by rfl) :
  PE X (.Call (.Attribute (.Name x p) "__init__" apos) (e::es) [] pos) (zO4 X.K t):=by
 intro pins s σ H Q I h;refine qCn (pl:=pl) (zCK I hg hm ?_ hdb) ht;refine PySem.W.method_cls I.kIn hB.ga (PySem.W.cls_value I.kIn hB.rd hB.fd hB.hi ?_);have I':=I.tok (s.toks+1);refine qCl (thn (ha pos pins _ σ H _ I' h) fun us s1 z0=>?_) he hpl;obtain⟨vs,H1,I1,r1,a,C,d,rest,ev,ea,hx,hz,q⟩:=z0;subst ev;cases r1 with
 |cons ru r2=>
  cases ru;obtain⟨t1,hg1⟩:=I1.xn ea;obtain⟨nm,qn,N,bs,bm,hdct,sn,sub,ab,col,dd,k0,k1,k2,k3,k5,hC,htl⟩:=PySem.W.xc_cls I1.kIn hx;have hus:=r2.length;obtain⟨hh,g,dr,tk,os⟩:=s1;refine Xc.call_baseX qC5 (PySem.W.exc_con htl (by decide)) hC hg1 (fun h' t0 k1 k2=>?_) (by rw[<- hus];exact hz);have I2:Inv X pins σ (upd H1 a (L2.xn a (.ref C) d)) { heap:=h',gens:=g,drawn:=dr,toks:=tk,os:=os }:=
   I1.write (h':=h') (t':=tk) (e:=a) (by rw[ea];trivial) (.inl rfl) (fun b u hb e=>k1 b u hb e) ⟨_,k2⟩ (zPV ⟨t0,k2⟩)
  rw[zMN ea]at I2;exact⟨.non,H1,I2,rfl,q⟩
structure XSet(K:qA0)(C:Addr)(f:Str):Prop where
 st:qA3 K (.ref C) "__setattr__" = some (some (.builtin "object.__setattr__"))
 ov:PySem.W.excOver K C=true
 tk:qCd K C f=some none
 hd:(qB3 K C).any (·.hasDict)=true
def zO9(K:qA0)(ta tv:TE)(f:Str):TS:=fun D σ H=>tv σ H fun y H1=>ta σ H1 fun x H2=>∃e C,x=.ref e/\H2 e=some (L2.xn e (.ref C) none)/\XSet K C f /\
 ∀d,H2 d=none->d≠e->D.nx σ (upd (upd H2 d (.xd [(f,y)])) e (L2.xn e (.ref C) (some d)))
theorem zMZ{o value:Expr}{f:Str}{pos':Pos}{ta tv:TE}(ha:PE X o ta)(hv:PE X value tv)(hs:swapsWith value (some (.Attribute o f pos')) pos.line X.env=pure false):PS X (.Assign [.Attribute o f pos'] value pos) (zO9 X.K ta tv f):=by
 intro pins s σ H D I h;refine plainObj_wpAny_Assign_Attribute (thn (hv pins s σ H _ I h) fun u s1 ⟨y,H1,I1,ry,q⟩=>thn (ha pins s1 σ H1 _ I1 q) fun ov s2 ⟨x,H2,I2,rx,a,C,ex,ea,c,q2⟩=>?_) hs;subst ex;obtain rfl:ov=Value.ref a:=rx;obtain⟨t1,hg1⟩:=I2.xn ea;refine PySem.W.set_exc I2.kIn hg1 c.st c.ov c.tk c.hd fun h' tk' n1 g2 k2=>?_
 have hdn:H2 s2.heap.objs.size=none:=I2.hok.fresh (qA6 _);have hne:s2.heap.objs.size≠a:=fun z=>by rw[z,ea]at hdn;cases hdn
 refine⟨σ,_,?_,q2 s2.heap.objs.size hdn hne⟩;have nb:∀b,H2 b=none->b≠a:=fun b hb z=>by rw[z,ea]at hb;cases hb
 have ndx:∀b o,s2.heap.get? b=some o->b≠s2.heap.objs.size:=fun b o e=>qAn (Heap.lt_size e)
 have oth:∀b,b≠a->b≠s2.heap.objs.size->upd (upd H2 s2.heap.objs.size (.xd [(f,y)])) a (L2.xn a (.ref C) (some s2.heap.objs.size)) b=H2 b:=fun b h1 h2=>by rw[zA9 h1,zA9 h2]
 have tr:∀{b:Addr}{o:HO},H2 b=some o->(∀φ,o≠.ext φ)->upd (upd H2 s2.heap.objs.size (.xd [(f,y)])) a (L2.xn a (.ref C) (some s2.heap.objs.size)) b=some o:=fun{b o} hb hn=>by
  rw[oth b (fun z=>by rw[z,ea]at hb;cases hb;exact hn _ rfl) (fun z=>by rw[z,hdn]at hb;cases hb)];exact hb
 refine I2.un (h':=h') (t':=tk') ⟨fun b o e n _ _=>k2 b o (nb b n) e,fun b o e n _ _=>⟨o.slots,k2 b o (nb b n) e⟩,fun b o e n _=>by rw[oth b (nb b n) (ndx b o e)];exact n,fun b o e _=>?_,fun b xs e=>tr e fun _ z=>(by cases z),fun b o u e=>tr e fun _ z=>(by cases z),fun b ps e=>⟨#[],by rw[Array.append_empty];exact tr e fun _ z=>(by cases z)⟩⟩ fun b u e=>?_
 ·by_cases z:b=a
  ·rw[z];exact⟨_,g2⟩
  ·exact⟨o,k2 b o z e⟩
 ·by_cases z:b=a
  ·subst z;rw[zAD]at e;cases e;exact zPV ⟨t1,g2⟩
  ·rw[zA9 z]at e
   by_cases z':b=s2.heap.objs.size
   ·subst z';rw[zAD]at e;cases e;refine⟨_,n1,fun g=>?_⟩
    by_cases hgf:g=f
    ·subst hgf;simp[qBj,RelO];exact ry
    ·have hb:(g==f)=false:=beq_eq_false_iff_ne.mpr hgf;simp[qBj,hb,hgf,RelO]
   ·rw[zA9 z']at e;refine(I2.hok b u e).stay (fun c w hc q=>k2 c w ?_ q) (fun c q=>?_) (fun c xs q=>tr q fun _ z=>(by cases z)) fun c _ _ q _=>tr q fun _ z=>(by cases z)
    ·rcases hc with rfl|hc
     ·exact z
     ·intro y;rw[y,ea]at hc;cases hc
    ·exact tr q fun _ z=>(by cases z)
end
end L2
namespace PySem.Xc
open PySem PySem.W
section
variable{prog:Program}{w:World}{A:Around}{E:Value->Shared->Prop}{K:Frag}{x C:Addr}{ox:Obj}{od:Option Obj}{name:Str}{expr fill:Bool}{h:Heap}{g:Array GenState}{d:Drawn}{t:Nat}{os:OsState}
theorem zKL{Q:Option Value->Shared->Prop}(X:K.In h)(I:InstAt h x ox C od)(hc:xcIn K C=true)(hga:findIn K (.ref C) "__getattribute__" = some (some (.builtin "BaseException.__getattribute__")))(hgg:findIn K (.ref C) "__getattr__" = some none)
  (hf:findObj K C od "__class__" = some (.bind (.builtin "getset_descriptor.__get__") (.builtin "object.__class__"))) (hm:mroIn K C (.type "object")=some true) (hq:Q (some (.ref C)) ⟨h,g,d,t+1,os⟩):wpAny (model prog w) A (getAttr? (.ref x) "__class__") Q E ⟨h,g,d,t,os⟩:=by
 have f3:=F.excAttr_ValueError.ga.bind (.ref x);have hx2:(Value.builtin "BaseException.__getattribute__" == Value.builtin "object.__getattribute__")=false:=by decide +kernel
 have hx1:(onTheHeap (Value.ref C)&&Value.builtin "BaseException.__getattribute__" == Value.builtin "object.__getattribute__")=false:=by rw[hx2];rfl
 have L0:=I.type (M:=model prog w);have L1:=looks_findIn (M:=model prog w) X hga;have L2:=looks_findIn (M:=model prog w) X hgg;have hx:=I.at_;have hcl:=I.cls;unfold getAttr?
 repeat (any_goals (first|assumption|(with_reducible refine wpAny_loadPart_at hx ?_;rw[hcl])|with_reducible refine L1.at ?_|with_reducible refine L2.at ?_|wp_step))
 refine codeAny_call_builtin F.excAttr_ValueError.ga.plain F.entry_bexc_ga (zHX (h:=h) X hc I ?_);have L3:=looks_find (M:=model prog w) X I hf;unfold Builtin.«object.__getattribute__»;refine wpAny_bind (wpAny_pure (wpAny_bind (wpAny_pure (wpAny_bind (L0.at (wpAny_bind (L3.at ?_)))))));show wpAny _ _ (Builtin.ObjectAttr.bindTo (.builtin "getset_descriptor.__get__") (.builtin "object.__class__") (.ref x) (.ref C)) _ _ _;unfold Builtin.ObjectAttr.bindTo;refine wpAny_bind (wpAny_holding (wpAny_call (class_get (s:=⟨h,g,d,t+1,os⟩) (ox:=ox) (od:=od) X I hm ?_)));exact wpAny_pure (handed_on rfl (wpAny_pure hq))
theorem zGX{a g:Value}(hc:(clsIn K C).isSome=true)(ha:findIn K (.ref C) name=some (some a))(hg:specialIn K a "__get__" = some (some g))(ht:takesIn K a=some true):findObj K C od name=some (.bind g a):=by
 obtain⟨cd,hc⟩:=qC9.mp hc;unfold findObj;rw[hc,qCs,ha,qCs];simp only[hg,qCs,ht]
end
structure XIs(K:Frag)(C:Addr):Prop where
 xc:xcIn K C=true
 ga:findIn K (.ref C) "__getattribute__" = some (some (.builtin "BaseException.__getattribute__"))
 gg:findIn K (.ref C) "__getattr__" = some none
 hd:hasDictIn K C=true
 ca:findIn K (.ref C) "__class__" = some (some (.builtin "object.__class__"))
 cg:specialIn K (.builtin "object.__class__") "__get__" = some (some (.builtin "getset_descriptor.__get__"))
 ct:takesIn K (.builtin "object.__class__")=some true
 mo:mroIn K C (.type "object")=some true
theorem kitx_exc{K:Frag}{x C:Addr}(c:XIs K C):KitX K (.ref x) (.ref C) (fun h=>∃ox od,InstAt h x ox C od) where
 ty:=fun _ _ _ ⟨_,_,I⟩=>I.type
 it:=fun _ _ X _=>by
  obtain⟨cdD,hcD,_⟩:=any_some c.hd;unfold clsIn at hcD
  split at hcD
  ·rename_i c' d' cd' sl' ho
   intro A' Q' E' s' k q;unfold isType loadHead;exact wpAny_bind (wpAny_loadPart (k _ _ (X _ _ ho)) (wpAny_pure q))
  ·cases hcD
 ne:=fun h tp dd its n sl X htp=>by
  obtain⟨cdD,hcD,_⟩:=any_some c.hd;refine Bool.eq_false_iff.mpr fun q=>?_
  have e:C=tp:=Value.ref.inj (beq_iff_eq.mp q);subst e;unfold clsIn at hcD
  split at hcD
  ·rename_i c' d' cd' sl' ho
   have z:=(X _ _ ho).symm.trans htp;cases z
  ·cases hcD
 ca:=fun{_ _ _ _ _ s} X ⟨_,_,I⟩ k=>by
  obtain⟨cd,hc,_⟩:=any_some c.hd;obtain⟨h,g,d,t,os⟩:=s;exact zKL X I c.xc c.ga c.gg (zGX (by rw[hc];rfl) c.ca c.cg c.ct) c.mo k
end PySem.Xc
namespace L2
open PySem PySem.Spec PyProof.Rows
section
variable{X:Cx}{pins:List (Addr×Obj)}{σ:St}{H:Hp}{s:Shared}{C e d:Addr}{f:Str}{pos:Pos}{ta:TE}
def isX(H:Hp)(e C:Addr)(d:Option Addr):Prop:=H e=some (xn e (.ref C) d)\/H e=some (xo e (.ref C) d)
theorem Inv.isX{d:Option Addr}(I:Inv X pins σ H s)(h:L2.isX H e C d):XO e (.ref C) d s.heap:=by
 rcases h with h|h
 ·exact(I.xn h).xo
 ·exact(I.hok e _ h).1
theorem Inv.instX0{d:Option Addr}(I:Inv X pins σ H s)(h:L2.isX H e C d)(hd:∀a,d=some a->∃fs,H a=some (.xd fs)):∃ox od,qDv s.heap e ox C od:=by
 obtain⟨oe,vs,h1,h2,h3,h4,_⟩:=I.isX h;have nc:qD7 oe=true:=by unfold qD7;rw[h4]
 cases d with
 |none=>exact⟨oe,none,h1,h2,nc,by rw[h3];trivial⟩
 |some a=>
  obtain⟨fs,ha⟩:=hd a rfl;obtain⟨mA,hn,_⟩:=I.hok a _ ha;obtain⟨od,ho,_⟩:=zEY hn;exact⟨oe,some od,h1,h2,nc,by rw[h3];exact ho⟩
noncomputable def zO5(K:qA0)(ta:TE)(f:Str):TE:=fun σ H Q=>ta σ H fun x H1=>∃e C d fs v,x=.ref e/\L2.isX H1 e C (some d)/\H1 d=some (.xd fs)/\Xc.XIs K C/\qA3 K (.ref C) f=some none/\fs.lookup f=some v/\Q v H1
theorem zN3{ex:Expr}(he:PE X ex ta)(hb:attributeBase ex f X.env (eval ex X.env)=eval ex X.env):PE X (.Attribute ex f pos) (zO5 X.K ta f):=by
 intro pins s σ H Q I h;refine zMK hb (thn (he pins s σ H _ I h) fun u s1 z0=>?_);obtain⟨x,H1,I1,rx,a,C,d,fs,v,ex,ea,hd,c,hf,l,q⟩:=z0;subst ex;obtain rfl:u=Value.ref a:=rx;obtain⟨oe,vs,h1,h2,h3,h4,_⟩:=I1.isX ea;have nc:qD7 oe=true:=by unfold qD7;rw[h4]
 obtain⟨mA,hn,r⟩:=I1.hok d _ hd;obtain⟨od,ho,hl⟩:=zEY hn;obtain⟨u,hu,ru⟩:=RelO.some_of (v:=v) (o:=mA f) (by rw[<- l];exact r f);have J:qDv s1.heap a oe C (some od):=⟨h1,h2,nc,by rw[h3];exact ho⟩
 have I2:=I1.tok (s1.toks+1);have K1:=I1.kIn;obtain⟨hh,g,dr,tk,os⟩:=s1;exact Xc.get_excX K1 J c.xc c.ga c.gg (qDy c.hd hf rfl (by rw[hl,hu])) (zHS ru) ⟨v,H1,I2,ru,q⟩
noncomputable def clsV:List V->Option (List Value)
 |[]=>some []
 |.ref a::r=>(clsV r).map (Value.ref a::·)
 |.ty n::r=>(clsV r).map (Value.type n::·)
 |_::_=>none
theorem zIR:∀{xs:List V}{its us:List Value},clsV xs=some its->Vals xs us->us=its
 |[],_,_,h,.nil=>by cases h;rfl
 |.ref a::r,its,_,h,.cons q t=>by
  obtain⟨l,hl,rfl⟩:=qBy.mp (show(clsV r).map (Value.ref a::·)=some its from h);rw[zIR hl t];cases q;rfl
 |.ty n::r,its,_,h,.cons q t=>by
  obtain⟨l,hl,rfl⟩:=qBy.mp (show(clsV r).map (Value.type n::·)=some its from h);rw[zIR hl t];cases q;rfl
def zPJ(K:qA0):List V->Hp->VK->Prop:=fun vs H Q=>∃e C d y b,vs=[.ref e,y]/\L2.isX H e C d/\(∀a,d=some a->∃fs,H a=some (.xd fs))/\Xc.XIs K C/\Q (.bl b) H /\
 ((∃c,y=.ref c/\qB6 K (.ref C) (.ref c)=some b)\/(∃n,y=.ty n/\qB6 K (.ref C) (.type n)=some b)\/∃p xs its,y=.ref p/\H p=some (.tup xs)/\clsV xs=some its/\PySem.W.kitAny K (.ref C) its=some b)
theorem zFC:zD5 X (.builtin "isinstance") (zPJ X.K):=by
 intro pins s σ H vs us Q I r h;obtain⟨e,C,d,y,b,rfl,hx,hd,c,q,hy⟩:=h;cases r with
 |cons r1 r2=>
  cases r2 with
  |cons ry r3=>
   cases r3;cases r1;have P:=I.instX0 hx hd
   rcases hy with⟨c',rfl,hk⟩|⟨n,rfl,hk⟩|⟨p,xs,its,rfl,hp,rv,hk⟩
   ·cases ry;exact qAz (Xc.kitx_exc c) I.kIn P hk (fun z=>nomatch z) fun tk=>⟨.bl b,H,I.tok tk,rfl,q⟩
   ·cases ry;exact qAz (Xc.kitx_exc c) I.kIn P hk (fun z=>nomatch z) fun tk=>⟨.bl b,H,I.tok tk,rfl,q⟩
   ·cases ry;obtain⟨_,us',r',ob,h1,h2,n,h3⟩:=I.hok p _ hp;obtain⟨oc,od,odt,osl⟩:=ob;dsimp only at h2 h3;subst h2 h3;rw[zIR rv r']at h1;exact PySem.W.kia_tup (Xc.kitx_exc c) I.kIn P h1 hk (fun z=>nomatch z) fun tk=>⟨.bl b,H,I.tok tk,rfl,q⟩
end
end L2
namespace L2
open PySem PySem.Spec PyProof.Rows
def HasX(P:Program)(w:World)(K:qA0)(mg:Str->Option Value)(base:Heap)(x:Str)(k:Nat)(ps:List Str)(sp:Sp):Prop:=
 ∃f fd,FnOk P w K mg base (CXe P w) k f fd ps sp/\mg x=some (.ref f)/\qAe K (.ref f)=true/\Binds K fd ps []
section
variable{P:Program}{w:World}{K:qA0}{mg:Str->Option Value}{base:Heap}{x:Str}{k:Nat}{ps N:List Str}{sp sp':Sp}{st:Stmt}
theorem Fun.okX{y qual:Str}{f:Addr}{fd:FuncData}(F:Fun K y qual st f fd)(S:FnScope N ps (zA8 st))(len:∀vs H Q E,sp vs H Q E->vs.length=ps.length)
  (hbody:∀(cdv:Value)(A:Around)(outer:List Env)(s:Shared)(H:Hp)(vs:List V)(Q:VK)(E:XK),Room k (A.deeper (envOfC qual (zA8 st) s.heap.objs.size f cdv))->sp vs H Q E ->
   ∃t,PSs (cxOf (CXe P w) P w K mg base N qual (zA8 st) f cdv A outer s H E) (zAP st) t/\t { nx:=fun _ H'=>Q .non H',rt:=Q } (start N vs) H):FnOk P w K mg base (CXe P w) (k+1) f fd ps sp:=by
 obtain⟨oc,od,kV,doc,pm,an,cdv,ct,osl,rfl,lk,hcd⟩:=F.ex;exact zSR lk hcd S len fun A outer s H vs Q E hr hsp=>hbody cdv A outer s H vs Q E hr hsp
theorem Def.okX(D:Def K mg x st)(S:FnScope N ps (zA8 st))
  (hb:∀(kV doc pm:Value)(an:Option Addr)(cdv ct:Value)(us:List Value),us.length=ps.length->bindArgs (qAt x x (zB2 st) (zAP st) (zA8 st) .none kV doc pm an cdv ct) ⟨us,[]⟩=pure (ps.zip us))
  (len:∀vs H Q E,sp vs H Q E->vs.length=ps.length)
  (hbody:∀(f:Addr)(cdv:Value)(A:Around)(outer:List Env)(s:Shared)(H:Hp)(vs:List V)(Q:VK)(E:XK),Room k (A.deeper (envOfC x (zA8 st) s.heap.objs.size f cdv))->sp vs H Q E ->
   ∃t,PSs (cxOf (CXe P w) P w K mg base N x (zA8 st) f cdv A outer s H E) (zAP st) t/\t { nx:=fun _ H'=>Q .non H',rt:=Q } (start N vs) H):HasX P w K mg base x (k+1) ps sp:=by
 obtain⟨f,fd,F,m⟩:=D;exact⟨f,fd,F.okX S len (fun cdv A outer s H vs Q E hr h=>hbody f cdv A outer s H vs Q E hr h),m,F.kp,F.binds hb⟩
theorem zC5{qual:Str}{scope:Scope}{f:Addr}{cd:Value}{A:Around}{outer:List Env}{s:Shared}{H:Hp}{E:XK}:Flies (cxOf (CXe P w) P w K mg base N qual scope f cd A outer s H E) E:=fun _ _ _ _ h=>zQM (fun _ _ _ z=>z) h
end
section
variable{X:Cx}{x:Str}{j k:Nat}{ps:List Str}{sp:Sp}{e:Expr}{es:List Expr}{t:TA}{p pos:Pos}{E:XK}
theorem zF5:Flies X E0:=fun _ _ _ _ z0=>by
 obtain⟨_,_,_,_,_,_,_,_,_,_,_,h⟩:=z0;exact h.elim
theorem zL9(h:HasX X.prog X.w X.K X.mg X.base x j ps sp)(hjk:j<=k)(hr:Room k X.A)(hf:Flies X E)(hg:Gl X x)(ha:PA X (e::es) t)(hdb:(x==("__debug__":Str))=false:=by decide)
  (he:starEach (e::es) X.env=(false,eval e X.env)::starEach es X.env:=by rfl) (hpl:(backTo pos (starEach es X.env)).any (·.1)=false:=by rfl):PE X (.Call (.Name x p) (e::es) [] pos) (zID sp [] E t):=by
 obtain⟨f,fd,G,m,kp,b⟩:=h;exact zLD G (hr.mono hjk) hg m kp b .nil hf.passes ha hdb he hpl
theorem zOF{C:Addr}(hg:Gl X x)(hm:X.mg x=some (.ref C))(hdb:(x==("__debug__":Str))=false:=by decide):PE X (.Name x pos) (tC (.ref C)):=fun pins s σ H Q I h=>zCK I hg hm ⟨.ref C,H,I,rfl,h⟩ hdb
end
end L2
namespace Att
open PySem PySem.W PySem.Calls PyProof.Rows
theorem zP6{ns:List Int}(h:WData.weightAll (ns.map WData.int)<=2 ^ 20):∀i∈ns,i.natAbs.log2<2 ^ 20:=by
 induction ns with
 |nil=>intro i hi;cases hi
 |cons n r ih=>
  rw[qAj,WData.weightAll]at h;intro i hi
  rcases qAa.mp hi with rfl|hi
  ·rw[WData.weight]at h
   split at h
   ·rename_i z
    have:i=0:=beq_iff_eq.mp z
    subst this
    decide
   ·lia
  ·exact ih (by lia) i hi
theorem attach_callW{l:OpenLaw}{n:Nat}{q:Program}{loose:List Str}{XP:(Str->Option Value)->Heap->Prop}{YP:World->Heap->Prop}{d:DefRec}
  (hn:l.most=some n) (hdf:d.params.defaults=[])
  (call:∀(w:World)(s₀ s₁:Shared)(mg mb:Str->Option Value)(fa:Addr)(o:Obj)(pm cd doc:Value)(a:Addr)(vs:List Value)(ns:List Int),
   Ground q loose [] XP w s₀ mg mb s₁.heap->YP w s₁.heap ->
   s₁.heap.get? fa=some o->o.data=.func (docDef d.name d.params d.body d.scope pm cd doc)->s₁.heap.CodeRec cd d.name->mg d.name=some (.ref fa) ->
   s₁.heap.get? a=some { cls:=.type "list",data:=.seq vs.toArray }->IntsAre vs ns->ns.length<=n->(∀i∈ns,i.natAbs.log2<2 ^ 20)->s₁.gens=#[] ->
   codeAny (model l.prog w) callerA (.call (.ref fa) ⟨[.ref a],[]⟩) (fun r s'=>r=.ok (.ret (.bool true))/\OldK s₁.heap s'.heap/\s'.os=s₁.os/\AllBare s'.gens) s₁) :
  WalkO q loose XP YP l.row.toRowW d [] (fun f vs=>qEf f vs):=by
 intro w s₀ s₁ mg mb G Y fa o pm cd doc dV kV ho hd hcd hD hmg hg args vals as hpre hlay hrd hwl hlo;obtain rfl:dV=.none:=Dflts.none hD hdf;obtain rfl:kV=.none:=Dflts.noKw hD;obtain⟨a,vs,ns,rfl,rfl,hobj,hints,hlen⟩:=zKZ hn hpre hwl;have hw:∀i∈ns,i.natAbs.log2<2 ^ 20:=by
  have hl:WData.layableAll [WData.list (ns.map WData.int)]=true:=hlay;simp only[WData.layableAll,qDb,List.all_nil,qDd,WData.layable,qBd,decide_eq_true_eq]at hl;exact zP6 (by have:=hl.2;rw[WData.weight]at this;exact this)
 refine enter_call (codeAny_mono (call w s₀ s₁ mg mb fa o pm cd doc a vs ns G Y ho (fd_plain hd) hcd hmg hobj hints hlen hw hg) fun r s' hq=>?_);obtain⟨rfl,h2,h3,h4⟩:=hq;exact⟨.inl ⟨.bool true,.bool true,[],rfl,fun _=>rfl,.bool true,zL4 l _,fun _=>⟨qEd,fun _ hm=>(nomatch hm)⟩⟩,h2,h3,h4⟩
end Att
namespace L2
open PySem PySem.Spec PyProof.Rows
def MulOk(i j:Int):Prop:=((-(2 ^ 64)<i/\i<2 ^ 64)\/(-(2 ^ 64)<j/\j<2 ^ 64))\/i.natAbs.log2+j.natAbs.log2<=67108864
theorem zMG(i:Int):Builtin.Int.intBits i<=i.natAbs.log2+1:=by
 unfold Builtin.Int.intBits
 split<;>lia
theorem MulOk.ok{i j:Int}(h:MulOk i j):IntMulOk i j:=by
 rcases h with h|h
 ·exact CMul.ok h
 ·unfold IntMulOk;have h1:=zMG i;have h2:=zMG j;have h3:Builtin.Int.intTooBig ((Builtin.Int.intBits i:Int)+(Builtin.Int.intBits j:Int))=false:=by
   unfold Builtin.Int.intTooBig
   have:(bitsLine:Int)=134217728:=by decide
   rw[this];simp only[gt_iff_lt,decide_eq_false_iff_not,Int.not_lt]
   lia
  rw[h3,qCj];exact qAb
section
variable{X:Cx}
noncomputable def zRL:R2:=fun x y H Q=>match x,y with
 |.int i,.int j=>MulOk i j/\Q (.int (i*j)) H
 |_,_=>False
theorem zPT:OpR X (binaryOp .Mult) (rI MulOk fun i j=>.int (i*j)):=opI fun _ _ _ _ _ _ _ hc q=>mul_int q hc.ok
theorem zCV:OpR X (binaryOp .Mult) zRL:=by
 intro pins s σ H x y v u Q I rx ry h;cases x<;>cases y<;>first
  |exact zPT pins s σ H _ _ v u Q I rx ry ⟨_,_,rfl,rfl,h.1,h.2⟩
  |exact qA4 h
noncomputable def zRO:R2:=fun x y H Q=>match x,y with
 |.int i,.int j=>(0<j/\j<1000000000000000000000000)/\Q (.int (i/j)) H
 |_,_=>False
theorem log2_lt{n:Nat}(h:n<1000000000000000000000000):n.log2<9000:=by
 by_cases z:n=0
 ·subst z;decide
 ·have h2:n<2 ^ 80:=by lia
  have:=(Nat.log2_lt z).mpr h2
  lia
theorem zPU:OpR X (binaryOp .FloorDiv) (rI (fun _ j=>0<j/\j<1000000000000000000000000) fun i j=>.int (i/j)):=opI fun i j _ _ _ _ _ hc q=>by
 have h1:(0:Int)<j:=hc.1;have h2:j<1000000000000000000000000:=hc.2;exact floordiv_int (by lia) (by rw[Int.fdiv_eq_ediv_of_nonneg i (by lia)];exact q) (.inl (PyProof.noPylong_of_log2 (log2_lt (by lia))))
theorem zR1:OpR X (binaryOp .FloorDiv) zRO:=by
 intro pins s σ H x y v u Q I rx ry h;cases x<;>cases y<;>first
  |exact zPU pins s σ H _ _ v u Q I rx ry ⟨_,_,rfl,rfl,h.1,h.2⟩
  |exact qA4 h
end
end L2
namespace L2
open PySem PySem.Spec PyProof.Rows
noncomputable def del(H:Hp)(a:Addr):Hp:=fun b=>if b=a then none else H b
theorem zOX{H:Hp}{a b:Addr}(h:b≠a):del H a b=H b:=by unfold del;rw[if_neg h]
abbrev cel(co:Obj):HO:=.frz co (.ext fun _=>True)
section
variable{P:Program}{w:World}{H H':Hp}{h h':Heap}{a:Addr}{co:Obj}{fs:List Addr}
end
abbrev lamO(q:Str)(params:Arguments)(body:Expr)(scope:Scope)(clos:List (Str×Addr))(pm cdv ctv:Value):Obj:=
 { cls:=.type "function",data:=.func (PySem.W.kla_fn "<lambda>" q params body scope clos pm cdv ctv) }
section
variable{X:Cx}
end
end L2
namespace L2
open PySem PySem.Spec PyProof.Rows
section
variable{X:Cx}{k:Nat}{f cl:Addr}{fd:FuncData}{ps:List Str}{sp:Sp}{x nm:Str}{p pos:Pos}{e:Expr}{es:List Expr}{t:TA}{i:Nat}
end
def cxLam(X:Cx)(N:List Str)(q:Str)(scope:Scope)(f:Addr)(cd:Value)(clos:List (Str×Addr))(s:Shared)(H:Hp):Cx where
 prog:=X.prog
 w:=X.w
 K:=X.K
 mg:=X.mg
 base:=X.base
 A:=X.A.deeper (qEm q scope s.heap.objs.size f cd clos)
 N:=N
 s₀:=s
 H₀:=H
 env:=qEm q scope s.heap.objs.size f cd clos
 outer:=X.stack
 stack:=qEm q scope s.heap.objs.size f cd clos::X.stack
 ex:=[]
 fn:=fun _=>false
 calm:=true
 pn:=[]
 xe:=fun _ _=>False
section
variable{X:Cx}{pins:List (Addr×Obj)}{σ:St}{H:Hp}{s:Shared}{Q:VK}{us:List Value}{vs:List V}{f cl:Addr}{q nm:Str}{params:Arguments}{body:Expr}{scope:Scope}{pm cdv ctv:Value}{co:Obj}{val:Value}{v:V}{ps:List Str}
end
section
variable{X:Cx}{i:Nat}{x:Str}{p pos:Pos}{e:Expr}{es:List Expr}{t:TA}{r:Addr->List V->Hp->VK->Prop}
end
end L2
namespace L3
open PySem PySem.Spec
open L2 hiding Rep RepL
open Mi (Dt Xn R okR zA3 optR zA0 zA6 zAC zAA zAB Rh Sl Ro EM TM AM FM IM SM Tg Out zAR zAQ zAU full frz frz1 frzAt)
class Kc where
 K:qA0
variable[Kc]
noncomputable def clK(K:qA0)(c:Str):Option Addr:=match qAo K mainGlobals c with
 |some (some (.ref C))=>some C
 |_=>none
def SqR(K:qA0)(H:Hp)(a:Addr)(xs:List V):Prop:=SqL K H a xs\/SqT K H a xs
theorem zEP{K:qA0}{H H':Hp}{a:Addr}{xs:List V}(e:Same H H')(h:SqT K H a xs):SqT K H' a xs:=by
 rcases h with(h|⟨o,h⟩)|h
 ·exact .inl (.inl (e _ _ h))
 ·exact .inl (.inr ⟨o,e _ _ h⟩)
 ·exact .inr h
theorem zD7{K:qA0}{H H':Hp}{a:Addr}{xs:List V}(e:Same H H')(h:SqR K H a xs):SqR K H' a xs:=h.imp (fun z=>e.seq z) fun z=>zEP e z
noncomputable def svV:Mi.Sv->V
 |.i n=>.int n
 |.s x=>.str x
noncomputable def swV:Mi.Sw->V
 |.non=>.non
 |.bl b=>.bl b
 |.int i=>.int i
 |.str x=>.str x
noncomputable def zQA:Expr->Option (Arguments×Expr×Scope×Str)
 |.Call _ [_,.Lambda ps b sc _] _ _=>match sc.names.find? fun p=>p.2==.free with
  |some (x,_)=>some (ps,b,sc,x)
  |none=>none
 |_=>none
def zTJ:Stmt->Option (Arguments×Expr×Scope×Str)
 |.Return (some e) _=>zQA e
 |.Assign _ e _=>zQA e
 |.If _ (_::.Return (some e) _::_) _ _=>zQA e
 |_=>none
def zND(l:List Stmt):Option (Arguments×Expr×Scope×Str):=l.findSome? zTJ
def lamK(K:qA0)(x:Str):Option (Arguments×Expr×Scope×Str):=match qAo K mainGlobals x with
 |some (some (.ref f))=>match K.lookup f with
  |some o=>match o.data with
   |.func fd=>match fd.body with
    |.stmts b=>zND b
    |_=>none
   |_=>none
  |none=>none
 |_=>none
noncomputable def lamQ(x:Str):Str:=x ++ ".<locals>." ++ "<lambda>"
noncomputable def codP(K:qA0)(x:Str):Option Addr:=match qAo K mainGlobals x with
 |some (some (.ref f))=>match K.lookup f with
  |some o=>match o.data with
   |.func fd=>match fd.code with
    |.ref c=>match K.lookup c with
     |some o=>match o.data with
      |.fields vs=>match(vs[11]?:Option Value)with
       |some (.ref P)=>some P
       |_=>none
      |_=>none
     |none=>none
    |_=>none
   |_=>none
  |none=>none
 |_=>none
noncomputable def makers:List Str:=["turned_at","exchanged_at","pivoted"]
def tabK(K:qA0):Hp:=fun P=>(makers.find? fun x=>codP K x==some P&&(lamK K x).isSome).map fun x=>.lam (lamQ x)
mutual
def Rep(H:Hp):Dt->V->Prop
 |.non,v=>v=.non
 |.bl b,v=>v=.bl b
 |.int i,v=>v=.int i
 |.str x,v=>v=.str x
 |.lst ds,v=>∃a xs,v=.ref a/\H a=some (.lst xs)/\RepL H ds xs
 |.tup ds,v=>∃a xs,v=.ref a/\H a=some (.tup xs)/\RepL H ds xs
 |.scr ns,v=>∃a,v=.ref a/\SqR Kc.K H a (ns.map V.int)
 |.exc c f d,v=>∃e C da,v=.ref e/\isX H e C da/\clK Kc.K c=some C/\((da=none/\f = "")\/∃a gs w,da=some a/\H a=some (.xd gs)/\gs.lookup f=some w/\Rep H d w)
 |.ins c fs,v=>∃a C dx,v=.ref a/\clK Kc.K c=some C/\H a=some (.ins C dx (fs.map fun p=>(p.1,svV p.2)))
 |.dct kvs,v=>∃a,v=.ref a/\H a=some (.dK (kvs.map fun p=>(p.1,swV p.2)))
 |.fn x d,v=>∃f,v=.ref f/\∃L cl pm cdv ctv co val w,lamK Kc.K x=some L/\H f=some (.fn (lamO (lamQ x) L.1 L.2.1 L.2.2.1 [(L.2.2.2,cl)] pm cdv ctv) (lamQ x))/\H cl=some (cel co)/\co.data=.cell (some val)/\RelV w val/\Rep H d w
def RepL(H:Hp):List Dt->List V->Prop
 |[],xs=>xs=[]
 |d::r,xs=>∃x q,xs=x::q/\Rep H d x/\RepL H r q
end
mutual
theorem Rep.mono{H H':Hp}(s:Same H H'):∀{d:Dt}{v:V},Rep H d v->Rep H' d v
 |.non,_,h=>h
 |.bl _,_,h=>h
 |.int _,_,h=>h
 |.str _,_,h=>h
 |.lst _,_,h=>by obtain⟨a,xs,e,e',r⟩:=h;exact⟨a,xs,e,s _ _ e',RepL.mono s r⟩
 |.tup _,_,h=>by obtain⟨a,xs,e,e',r⟩:=h;exact⟨a,xs,e,s _ _ e',RepL.mono s r⟩
 |.scr _,_,h=>by obtain⟨a,e,e'⟩:=h;exact⟨a,e,zD7 s e'⟩
 |.exc _ _ _,_,h=>by
  obtain⟨a,C,da,e,e',hc,r⟩:=h;refine⟨a,C,da,e,e'.imp (fun z=>s _ _ z) fun z=>s _ _ z,hc,r.imp (fun z=>z) ?_⟩
  rintro⟨b,gs,w,h1,h2,h3,h4⟩
  exact⟨b,gs,w,h1,s _ _ h2,h3,Rep.mono s h4⟩
 |.ins _ _,_,h=>by obtain⟨a,C,dx,e,hc,h1⟩:=h;exact⟨a,C,dx,e,hc,s _ _ h1⟩
 |.dct _,_,h=>by obtain⟨a,e,h1⟩:=h;exact⟨a,e,s _ _ h1⟩
 |.fn _ _,_,h=>by obtain⟨f,e,L,cl,pm,cdv,ctv,co,val,w,h1,h2,h3,h4,h5,h6⟩:=h;exact⟨f,e,L,cl,pm,cdv,ctv,co,val,w,h1,s _ _ h2,s _ _ h3,h4,h5,Rep.mono s h6⟩
theorem RepL.mono{H H':Hp}(s:Same H H'):∀{ds:List Dt}{xs:List V},RepL H ds xs->RepL H' ds xs
 |[],_,h=>h
 |_::_,_,h=>by obtain⟨x,q,e,r,t⟩:=h;exact⟨x,q,e,Rep.mono s r,RepL.mono s t⟩
end
theorem RepL.length{H:Hp}:∀{ds:List Dt}{xs:List V},RepL H ds xs->xs.length=ds.length
 |[],_,h=>by cases h;rfl
 |_::_,_,h=>by obtain⟨x,q,e,r,t⟩:=h;subst e;simp[RepL.length t]
mutual
def conv:Dt->L2.Dat
 |.non=>.non
 |.bl b=>.bl b
 |.int i=>.int i
 |.str x=>.str x
 |.lst ds=>.lst (convL ds)
 |.tup ds=>.tup (convL ds)
 |.scr _=>.non
 |.exc _ _ _=>.non
 |.fn _ _=>.non
 |.ins _ _=>.non
 |.dct _=>.non
def convL:List Dt->List L2.Dat
 |[]=>[]
 |d::r=>conv d::convL r
end
mutual
theorem zDD:∀{d:Dt},d.dep<=40->(conv d).dep<=d.dep
 |.non,_=>qA6 _
 |.bl _,_=>qA6 _
 |.int _,_=>qA6 _
 |.str _,_=>qA6 _
 |.lst ds,h=>by rw[Dt.dep]at h ⊢;rw[conv,L2.Dat.dep];have:=conv_depL (ds:=ds) (by lia);lia
 |.tup ds,h=>by rw[Dt.dep]at h ⊢;rw[conv,L2.Dat.dep];have:=conv_depL (ds:=ds) (by lia);lia
 |.scr _,h=>by rw[Dt.dep]at h;lia
 |.exc _ _ _,h=>by rw[Dt.dep]at h;lia
 |.fn _ _,h=>by rw[Dt.dep]at h;lia
 |.ins _ _,h=>by rw[Dt.dep]at h;lia
 |.dct _,h=>by rw[Dt.dep]at h;lia
theorem conv_depL:∀{ds:List Dt},Dt.depL ds<=40->L2.Dat.depL (convL ds)<=Dt.depL ds
 |[],_=>qA6 _
 |d::r,h=>by
  rw[Dt.depL]at h ⊢;rw[convL,L2.Dat.depL];have h1:=zDD (d:=d) (by lia);have h2:=conv_depL (ds:=r) (by lia)
  lia
end
mutual
theorem zCQ{H:Hp}:∀{d:Dt}{v:V},d.dep<=40->Rep H d v->L2.Rep H (conv d) v
 |.non,_,_,h=>h
 |.bl _,_,_,h=>h
 |.int _,_,_,h=>h
 |.str _,_,_,h=>h
 |.lst ds,_,hd,h=>by obtain⟨a,xs,e,e',r⟩:=h;exact⟨a,xs,e,e',conv_repL (by rw[Dt.dep]at hd;lia) r⟩
 |.tup ds,_,hd,h=>by obtain⟨a,xs,e,e',r⟩:=h;exact⟨a,xs,e,e',conv_repL (by rw[Dt.dep]at hd;lia) r⟩
 |.scr _,_,h,_=>by rw[Dt.dep]at h;lia
 |.exc _ _ _,_,h,_=>by rw[Dt.dep]at h;lia
 |.fn _ _,_,h,_=>by rw[Dt.dep]at h;lia
 |.ins _ _,_,h,_=>by rw[Dt.dep]at h;lia
 |.dct _,_,h,_=>by rw[Dt.dep]at h;lia
theorem conv_repL{H:Hp}:∀{ds:List Dt}{xs:List V},Dt.depL ds<=40->RepL H ds xs->L2.RepL H (convL ds) xs
 |[],_,_,h=>h
 |d::r,_,hd,h=>by
  rw[Dt.depL]at hd;obtain⟨x,q,e,a,b⟩:=h;exact⟨x,q,e,zCQ (by lia) a,conv_repL (by lia) b⟩
end
mutual
theorem zIQ:∀{d e:Dt},d.dep<=40->e.dep<=40->L2.Dat.eq (conv d) (conv e)=Dt.eq d e
 |.scr _,_,h,_=>by rw[Dt.dep]at h;lia
 |.exc _ _ _,_,h,_=>by rw[Dt.dep]at h;lia
 |.fn _ _,_,h,_=>by rw[Dt.dep]at h;lia
 |.ins _ _,_,h,_=>by rw[Dt.dep]at h;lia
 |.dct _,_,h,_=>by rw[Dt.dep]at h;lia
 |.lst ds,e,h,h'=>by
  rw[Dt.dep]at h;cases e with
  |lst es=>rw[Dt.dep]at h';rw[conv,conv,L2.Dat.eq,Dt.eq];exact conv_eqL (by lia) (by lia)
  |scr _=>rw[Dt.dep]at h';lia
  |exc _ _ _=>rw[Dt.dep]at h';lia
  |fn _ _=>rw[Dt.dep]at h';lia
  |ins _ _=>rw[Dt.dep]at h';lia
  |dct _=>rw[Dt.dep]at h';lia
  |_=>simp[conv,L2.Dat.eq,Dt.eq]
 |.tup ds,e,h,h'=>by
  rw[Dt.dep]at h;cases e with
  |tup es=>rw[Dt.dep]at h';rw[conv,conv,L2.Dat.eq,Dt.eq];exact conv_eqL (by lia) (by lia)
  |scr _=>rw[Dt.dep]at h';lia
  |exc _ _ _=>rw[Dt.dep]at h';lia
  |fn _ _=>rw[Dt.dep]at h';lia
  |ins _ _=>rw[Dt.dep]at h';lia
  |dct _=>rw[Dt.dep]at h';lia
  |_=>simp[conv,L2.Dat.eq,Dt.eq]
 |.non,e,_,h'=>by
  cases e with
  |scr _=>rw[Dt.dep]at h';lia
  |exc _ _ _=>rw[Dt.dep]at h';lia
  |fn _ _=>rw[Dt.dep]at h';lia
  |ins _ _=>rw[Dt.dep]at h';lia
  |dct _=>rw[Dt.dep]at h';lia
  |_=>simp[conv,L2.Dat.eq,Dt.eq]
 |.bl _,e,_,h'=>by
  cases e with
  |scr _=>rw[Dt.dep]at h';lia
  |exc _ _ _=>rw[Dt.dep]at h';lia
  |fn _ _=>rw[Dt.dep]at h';lia
  |ins _ _=>rw[Dt.dep]at h';lia
  |dct _=>rw[Dt.dep]at h';lia
  |_=>simp[conv,L2.Dat.eq,Dt.eq]
 |.int _,e,_,h'=>by
  cases e with
  |scr _=>rw[Dt.dep]at h';lia
  |exc _ _ _=>rw[Dt.dep]at h';lia
  |fn _ _=>rw[Dt.dep]at h';lia
  |ins _ _=>rw[Dt.dep]at h';lia
  |dct _=>rw[Dt.dep]at h';lia
  |_=>simp[conv,L2.Dat.eq,Dt.eq]
 |.str _,e,_,h'=>by
  cases e with
  |scr _=>rw[Dt.dep]at h';lia
  |exc _ _ _=>rw[Dt.dep]at h';lia
  |fn _ _=>rw[Dt.dep]at h';lia
  |ins _ _=>rw[Dt.dep]at h';lia
  |dct _=>rw[Dt.dep]at h';lia
  |_=>simp[conv,L2.Dat.eq,Dt.eq]
theorem conv_eqL:∀{ds es:List Dt},Dt.depL ds<=40->Dt.depL es<=40->L2.Dat.eqL (convL ds) (convL es)=Dt.eqL ds es
 |[],[],_,_=>by simp[convL,L2.Dat.eqL,Dt.eqL]
 |[],_::_,_,_=>by simp[convL,L2.Dat.eqL,Dt.eqL]
 |_::_,[],_,_=>by simp[convL,L2.Dat.eqL,Dt.eqL]
 |d::r,e::t,h,h'=>by
  rw[Dt.depL]at h h';rw[convL,convL,L2.Dat.eqL,Dt.eqL,zIQ (by lia) (by lia),conv_eqL (by lia) (by lia)]
end
theorem zBM{G:Hp}:∀{ds:List Dt}{xs:List V}{q:Nat}{d:Dt}{x:V},RepL G ds xs->ds[q]?=some d->xs[q]?=some x->Rep G d x
 |[],_,_,_,_,_,h,_=>by simp at h
 |d::r,xs,0,e,y,h,h1,h2=>by
  obtain⟨x,t,rfl,a,b⟩:=h;simp at h1 h2;subst h1;subst h2;exact a
 |d::r,xs,q+1,e,y,h,h1,h2=>by
  obtain⟨x,t,rfl,a,b⟩:=h;exact zBM b (by simpa using h1) (by simpa using h2)
theorem zDI{G:Hp}:∀{ds:List Dt}{xs:List V},xs.length=ds.length->(∀(q:Nat)(d:Dt)(x:V),ds[q]?=some d->xs[q]?=some x->Rep G d x)->RepL G ds xs
 |[],[],_,_=>rfl
 |[],_::_,h,_=>by simp at h
 |_::_,[],h,_=>by simp at h
 |d::r,x::t,h,k=>⟨x,t,rfl,k 0 d x rfl rfl,zDI (by simpa using h) fun q e y h1 h2=>k (q+1) e y (by simpa using h1) (by simpa using h2)⟩
theorem zF8{n:Nat}:∀{ds:List Dt},Dt.depL ds<=n->∀{q:Nat}{d:Dt},ds[q]?=some d->d.dep<=n
 |[],_,_,_,h=>by simp at h
 |e::r,h,0,d,h1=>by simp at h1;subst h1;rw[Dt.depL]at h;lia
 |e::r,h,q+1,d,h1=>by rw[Dt.depL]at h;exact zF8 (ds:=r) (by lia) (q:=q) (by simpa using h1)
structure Kids(P:(Addr->Prop)->Dt->V->Prop)(S:Addr->Prop)(a:Addr)(ds:List Dt)(xs:List V)(T:Nat->Addr->Prop):Prop where
 len:xs.length=ds.length
 own:∀(q:Nat)(d:Dt)(x:V),ds[q]?=some d->xs[q]?=some x->P (T q) d x
 top:S a
 out:∀q,¬T q a
 dis:∀q r b,T q b->T r b->q=r
 sub:∀q b,T q b->S b
def Own(G H:Hp):Nat->(Addr->Prop)->Dt->V->Prop
 |0,_,d,v=>Rep G d v
 |n+1,S,d,v=>match d with
  |.lst ds=>∃a xs T,v=.ref a/\H a=some (.lst xs)/\Kids (Own G H n) S a ds xs T
  |.tup ds=>∃a xs T,v=.ref a/\H a=some (.tup xs)/\Kids (Own G H n) S a ds xs T
  |.dct kvs=>∃a,v=.ref a/\H a=some (.dK (kvs.map fun p=>(p.1,swV p.2)))/\S a
  |d=>Rep G d v
theorem Kids.imp{P P':(Addr->Prop)->Dt->V->Prop}{S S':Addr->Prop}{a:Addr}{ds:List Dt}{xs:List V}{T:Nat->Addr->Prop}(k:Kids P S a ds xs T)
  (h:∀q d x,ds[q]?=some d->P (T q) d x->P' (T q) d x) (hs:∀b,S b->S' b):Kids P' S' a ds xs T:=
 ⟨k.len,fun q d x h1 h2=>h q d x h1 (k.own q d x h1 h2),hs _ k.top,k.out,k.dis,fun q b t=>hs _ (k.sub q b t)⟩
theorem Own.mono{G G' H H':Hp}(sG:Same G G')(sH:Same H H'):∀{n:Nat}{S:Addr->Prop}{d:Dt}{v:V},Own G H n S d v->Own G' H' n S d v
 |0,S,d,v,h=>Rep.mono sG h
 |n+1,S,d,v,h=>by
  cases d with
  |lst ds=>obtain⟨a,xs,T,e,ha,k⟩:=h;exact⟨a,xs,T,e,sH _ _ ha,k.imp (fun _ _ _ _ p=>Own.mono sG sH p) fun _ z=>z⟩
  |tup ds=>obtain⟨a,xs,T,e,ha,k⟩:=h;exact⟨a,xs,T,e,sH _ _ ha,k.imp (fun _ _ _ _ p=>Own.mono sG sH p) fun _ z=>z⟩
  |dct kvs=>obtain⟨a,e,ha,hs⟩:=h;exact⟨a,e,sH _ _ ha,hs⟩
  |_=>exact Rep.mono sG h
theorem Own.sub{G H:Hp}{n:Nat}{S S':Addr->Prop}{d:Dt}{v:V}(h:Own G H n S d v)(hs:∀b,S b->S' b):Own G H n S' d v:=by
 cases n with
 |zero=>exact h
 |succ n=>
  cases d with
  |lst ds=>obtain⟨a,xs,T,e,ha,k⟩:=h;exact⟨a,xs,T,e,ha,k.imp (fun _ _ _ _ p=>p) hs⟩
  |tup ds=>obtain⟨a,xs,T,e,ha,k⟩:=h;exact⟨a,xs,T,e,ha,k.imp (fun _ _ _ _ p=>p) hs⟩
  |dct kvs=>obtain⟨a,e,ha,h2⟩:=h;exact⟨a,e,ha,hs _ h2⟩
  |_=>exact h
theorem Own.rep{G H J:Hp}(sG:Same G J):∀{n:Nat}{S:Addr->Prop}{d:Dt}{v:V},Own G H n S d v->(∀a o,S a->H a=some o->J a=some o)->Rep J d v
 |0,S,d,v,h,_=>Rep.mono sG h
 |n+1,S,d,v,h,hj=>by
  cases d with
  |lst ds=>obtain⟨a,xs,T,e,ha,k⟩:=h;exact⟨a,xs,e,hj _ _ k.top ha,zDI k.len fun q d x h1 h2=>Own.rep sG (k.own q d x h1 h2) fun b o t hb=>hj b o (k.sub q b t) hb⟩
  |tup ds=>obtain⟨a,xs,T,e,ha,k⟩:=h;exact⟨a,xs,e,hj _ _ k.top ha,zDI k.len fun q d x h1 h2=>Own.rep sG (k.own q d x h1 h2) fun b o t hb=>hj b o (k.sub q b t) hb⟩
  |dct kvs=>obtain⟨a,e,ha,hs⟩:=h;exact⟨a,e,hj _ _ hs ha⟩
  |_=>exact Rep.mono sG h
theorem Own.at{G G2 H:Hp}:∀{n k:Nat}{S:Addr->Prop}{d:Dt}{v:V},Own G H n S d v->d.dep<=n->d.dep<=k->n<1000->Own G2 H k S d v
 |n,k,S,d,v,h,hn,hk,hz=>by
  cases d with
  |lst ds=>
   rw[Dt.dep]at hn hk;cases n with
   |zero=>lia
   |succ n=>
    cases k with
    |zero=>lia
    |succ k=>
     obtain⟨a,xs,T,e,ha,kd⟩:=h;refine⟨a,xs,T,e,ha,kd.imp (fun q d x h1 p=>?_) fun _ z=>z⟩;exact Own.at p (zF8 (by lia) h1) (zF8 (by lia) h1) (by lia)
  |tup ds=>
   rw[Dt.dep]at hn hk;cases n with
   |zero=>lia
   |succ n=>
    cases k with
    |zero=>lia
    |succ k=>
     obtain⟨a,xs,T,e,ha,kd⟩:=h;refine⟨a,xs,T,e,ha,kd.imp (fun q d x h1 p=>?_) fun _ z=>z⟩;exact Own.at p (zF8 (by lia) h1) (zF8 (by lia) h1) (by lia)
  |non=>cases n<;>cases k<;>exact h
  |bl b=>cases n<;>cases k<;>exact h
  |int i=>cases n<;>cases k<;>exact h
  |str x=>cases n<;>cases k<;>exact h
  |scr ns=>rw[Dt.dep]at hn;lia
  |exc _ _ _=>rw[Dt.dep]at hn;lia
  |fn _ _=>rw[Dt.dep]at hn;lia
  |ins _ _=>rw[Dt.dep]at hn;lia
  |dct _=>rw[Dt.dep]at hn;lia
termination_by n=>n
theorem Own.scalar{G H G2 H2:Hp}{n k:Nat}{S S2:Addr->Prop}{d:Dt}{v:V}(h:Own G H n S d v)(hd:d.dep=0):Own G2 H2 k S2 d v:=by
 cases d with
 |lst ds=>rw[Dt.dep]at hd;lia
 |tup ds=>rw[Dt.dep]at hd;lia
 |non=>cases n<;>cases k<;>exact h
 |bl b=>cases n<;>cases k<;>exact h
 |int i=>cases n<;>cases k<;>exact h
 |str x=>cases n<;>cases k<;>exact h
 |scr ns=>rw[Dt.dep]at hd;lia
 |exc _ _ _=>rw[Dt.dep]at hd;lia
 |fn _ _=>rw[Dt.dep]at hd;lia
 |ins _ _=>rw[Dt.dep]at hd;lia
 |dct _=>rw[Dt.dep]at hd;lia
theorem zOH{G H:Hp}{n:Nat}{S:Addr->Prop}{d:Dt}{v:V}(h:Rep G d v)(hd:d.dep=0):Own G H n S d v:=Own.scalar (n:=0) (G:=G) (H:=H) (S:=S) h hd
theorem Own.upd{G H:Hp}{p:Addr}{o:HO}:∀{n:Nat}{S:Addr->Prop}{d:Dt}{v:V},Own G H n S d v->¬S p->Own G (upd H p o) n S d v
 |0,S,d,v,h,_=>h
 |n+1,S,d,v,h,hp=>by
  cases d with
  |lst ds=>
   obtain⟨a,xs,T,e,ha,k⟩:=h;have hap:a≠p:=fun z=>hp (z▸k.top)
   exact⟨a,xs,T,e,(zA9 hap).trans ha,k.imp (fun q _ _ _ w=>Own.upd w fun z=>hp (k.sub q _ z)) fun _ z=>z⟩
  |tup ds=>
   obtain⟨a,xs,T,e,ha,k⟩:=h;have hap:a≠p:=fun z=>hp (z▸k.top)
   exact⟨a,xs,T,e,(zA9 hap).trans ha,k.imp (fun q _ _ _ w=>Own.upd w fun z=>hp (k.sub q _ z)) fun _ z=>z⟩
  |dct kvs=>
   obtain⟨a,e,ha,hs⟩:=h;have hap:a≠p:=fun z=>hp (z▸hs)
   exact⟨a,e,(zA9 hap).trans ha,hs⟩
  |_=>exact h
structure Ext(G H G' H':Hp):Prop where
 g:Same G G'
 h:Same H H'
 in':Same G' H'
 old:∀b,H b≠none->G' b=G b
theorem Ext.refl{G H:Hp}(s:Same G H):Ext G H G H:=⟨Same.refl _,Same.refl _,s,fun _ _=>rfl⟩
theorem _root_.L2.Same.some{H H':Hp}(s:Same H H'){b:Addr}(h:H b≠qDz):H' b≠qDz:=by
 cases e:H b with
 |none=>exact absurd e h
 |some o=>rw[s _ _ e];simp
theorem Ext.trans{G H G1 H1 G2 H2:Hp}(a:Ext G H G1 H1)(b:Ext G1 H1 G2 H2):Ext G H G2 H2:=
 ⟨a.g.trans b.g,a.h.trans b.h,b.in',fun c hc=>(b.old c (a.h.some hc)).trans (a.old c hc)⟩
structure Fr(G H G' H':Hp)(S:Addr->Prop):Prop where
 ext:Ext G H G' H'
 new:∀a,S a->H a=none/\G' a=none/\H' a≠none
open Classical in
noncomputable def over(G H:Hp)(S:Addr->Prop):Hp:=fun b=>if S b then H b else G b
theorem zDJ{G H:Hp}{S:Addr->Prop}{a:Addr}(h:S a):over G H S a=H a:=by unfold over;rw[if_pos h]
theorem zCA{G H:Hp}{S:Addr->Prop}{a:Addr}(h:¬S a):over G H S a=G a:=by unfold over;rw[if_neg h]
theorem zD9{G H:Hp}{S:Addr->Prop}(s:Same G H):Same G (over G H S)/\Same (over G H S) H:=by
 constructor
 ·intro b o e
  by_cases z:S b
  ·rw[zDJ z];exact s _ _ e
  ·rw[zCA z];exact e
 ·intro b o e
  by_cases z:S b
  ·rw[zDJ z]at e;exact e
  ·rw[zCA z]at e;exact s _ _ e
theorem Fr.frz{G H G' H':Hp}{S:Addr->Prop}{n:Nat}{d:Dt}{v:V}(f:Fr G H G' H' S)(o:Own G' H' n S d v):Ext G H (over G' H' S) H'/\Rep (over G' H' S) d v:=by
 obtain⟨s1,s2⟩:=zD9 (S:=S) f.ext.in';refine⟨⟨f.ext.g.trans s1,f.ext.h,s2,fun b hb=>?_⟩,o.rep s1 fun a u ha e=>by rw[zDJ ha];exact e⟩;have z:¬S b:=fun z=>hb (f.new b z).1
 rw[zCA z];exact f.ext.old b hb
structure View(G:Hp)(σ:St)(ρ:Rh):Prop where
 len:ρ.length=σ.length
 «at»:∀(i:Nat)(d:Dt),ρ[i]?=some (some d)->∃v,σ[i]?=some (some v)/\Rep G d v
 tab:Same (tabK Kc.K) G
theorem View.mono{G G':Hp}{σ:St}{ρ:Rh}(s:Same G G')(h:View G σ ρ):View G' σ ρ:=⟨h.len,fun i d e=>let⟨v,a,b⟩:=h.at i d e;⟨v,a,Rep.mono s b⟩,h.tab.trans s⟩
def XRep(mg:Str->Option Value)(x:Xn)(c:Value)(da:Option Addr)(G H:Hp):Prop:=
 ∃e C,c=.ref e/\G e=some (xo e (.ref C) da)/\clK Kc.K x.cls=some C/\((da=none/\x.f = "")\/∃a gs w,da=some a/\G a=some (.xd gs)/\gs.lookup x.f=some w/\Rep G x.d w)
def PostE(mg:Str->Option Value)(E:XK)(G H:Hp)(n:Nat)(r:R Dt)(Q:VK):Prop:=match r with
 |none=>False
 |some (.error x)=>∀c da G' H',Ext G H G' H'->XRep mg x c da G' H'->E c da H'
 |some (.ok d)=>∀v G' H' S,Fr G H G' H' S->Own G' H' n S d v->Q v H'
def PostT(mg:Str->Option Value)(E:XK)(G H:Hp)(r:R Bool)(Q:Bool->Hp->Prop):Prop:=match r with
 |none=>False
 |some (.error x)=>∀c da G' H',Ext G H G' H'->XRep mg x c da G' H'->E c da H'
 |some (.ok b)=>∀H',Same H H'->Q b H'
structure OwnA(G H:Hp)(n:Nat)(S:Addr->Prop)(ds:List Dt)(xs:List V)(T:Nat->Addr->Prop):Prop where
 len:xs.length=ds.length
 own:∀(q:Nat)(d:Dt)(x:V),ds[q]?=some d->xs[q]?=some x->Own G H n (T q) d x
 dis:∀q r b,T q b->T r b->q=r
 sub:∀q b,T q b->S b
def zTA(mg:Str->Option Value)(E:XK)(G H:Hp)(n:Nat)(r:R (List Dt))(Q:List V->Hp->Prop):Prop:=match r with
 |none=>False
 |some (.error x)=>∀c da G' H',Ext G H G' H'->XRep mg x c da G' H'->E c da H'
 |some (.ok ds)=>∀vs G' H' S T,Fr G H G' H' S->OwnA G' H' n S ds vs T->Q vs H'
def DE(mg:Str->Option Value)(E:XK)(t:TE)(m:EM)(n:Nat):Prop:=∀(G H:Hp)(σ:St)(ρ:Rh)(Q:VK),Same G H->View G σ ρ->PostE mg E G H n (m ρ) Q->t σ H Q
def DT(mg:Str->Option Value)(E:XK)(t:TT)(m:TM):Prop:=∀(G H:Hp)(σ:St)(ρ:Rh)(Q:Bool->Hp->Prop),Same G H->View G σ ρ->PostT mg E G H (m ρ) Q->t σ H Q
def DA(mg:Str->Option Value)(E:XK)(t:TA)(m:AM)(n:Nat):Prop:=∀(G H:Hp)(σ:St)(ρ:Rh)(Q:List V->Hp->Prop),Same G H->View G σ ρ->zTA mg E G H n (m ρ) Q->t σ H Q
structure Err(mg:Str->Option Value)(E:XK)(G H:Hp){β:Type}(P:R β->Prop):Prop where
 no:P none->False
 er:∀x,P (some (.error x))->∀c da G' H',Ext G H G' H'->XRep mg x c da G' H'->E c da H'
theorem Ext.same{G H H':Hp}(s:Same G H)(h:Same H H'):Ext G H G H':=⟨Same.refl _,h,s.trans h,fun _ _=>rfl⟩
theorem Err.from{mg:Str->Option Value}{E:XK}{G H G' H':Hp}{β:Type}{P:R β->Prop}(e:Err mg E G H P)(x:Ext G H G' H'):Err mg E G' H' P:=⟨e.no,fun y p c da G2 H2 z w=>e.er y p c da G2 H2 (x.trans z) w⟩
section
variable{mg:Str->Option Value}{E:XK}{n:Nat}
theorem errE{G H:Hp}{Q:VK}:Err mg E G H (fun r=>PostE mg E G H n r Q):=⟨fun h=>h,fun _ h=>h⟩
theorem errT{G H:Hp}{Q:Bool->Hp->Prop}:Err mg E G H (fun r=>PostT mg E G H r Q):=⟨fun h=>h,fun _ h=>h⟩
theorem errA{G H:Hp}{Q:List V->Hp->Prop}:Err mg E G H (fun r=>zTA mg E G H n r Q):=⟨fun h=>h,fun _ h=>h⟩
theorem DE.step{β:Type}{t:TE}{m:EM}(D:DE mg E t m n){G H:Hp}{σ:St}{ρ:Rh}{Q:VK}{P:R β->Prop}{f:Dt->R β}(hE:Err mg E G H P)(s:Same G H)(w:View G σ ρ)(p:P (zA3 (m ρ) f))
  (h:∀d v G' H' S,m ρ=okR d->Fr G H G' H' S->Own G' H' n S d v->P (f d)->Q v H'):t σ H Q:=by
 refine D G H σ ρ Q s w ?_;cases e:m ρ with
 |none=>rw[e]at p;exact hE.no p
 |some r=>
  rw[e]at p;cases r with
  |error x=>exact hE.er x p
  |ok d=>exact fun v G' H' S fr o=>h d v G' H' S e fr o p
theorem DT.step{β:Type}{t:TT}{m:TM}(D:DT mg E t m){G H:Hp}{σ:St}{ρ:Rh}{Q:Bool->Hp->Prop}{P:R β->Prop}{f:Bool->R β}(hE:Err mg E G H P)(s:Same G H)(w:View G σ ρ)(p:P (zA3 (m ρ) f))
  (h:∀b H',m ρ=okR b->Same H H'->P (f b)->Q b H'):t σ H Q:=by
 refine D G H σ ρ Q s w ?_;cases e:m ρ with
 |none=>rw[e]at p;exact hE.no p
 |some r=>
  rw[e]at p;cases r with
  |error x=>exact hE.er x p
  |ok b=>exact fun H' sH=>h b H' e sH p
theorem DA.step{β:Type}{t:TA}{m:AM}(D:DA mg E t m n){G H:Hp}{σ:St}{ρ:Rh}{Q:List V->Hp->Prop}{P:R β->Prop}{f:List Dt->R β}(hE:Err mg E G H P)(s:Same G H)(w:View G σ ρ)(p:P (zA3 (m ρ) f))
  (h:∀ds vs G' H' S T,m ρ=okR ds->Fr G H G' H' S->OwnA G' H' n S ds vs T->P (f ds)->Q vs H'):t σ H Q:=by
 refine D G H σ ρ Q s w ?_;cases e:m ρ with
 |none=>rw[e]at p;exact hE.no p
 |some r=>
  rw[e]at p;cases r with
  |error x=>exact hE.er x p
  |ok ds=>exact fun vs G' H' S T fr o=>h ds vs G' H' S T e fr o p
theorem PostE.from{G H G' H':Hp}{Q:VK}{r:R Dt}(p:PostE mg E G H n r Q)(x:Ext G H G' H'):PostE mg E G' H' n r Q:=by
 cases r with
 |none=>exact p
 |some r=>
  cases r with
  |error y=>exact fun c da G2 H2 z w=>p c da G2 H2 (x.trans z) w
  |ok d=>
   exact fun v G2 H2 S fr o=>p v G2 H2 S ⟨x.trans fr.ext,fun a ha=>⟨x.h.free (fr.new a ha).1,(fr.new a ha).2⟩⟩ o
theorem PostT.from{G H G' H':Hp}{Q:Bool->Hp->Prop}{r:R Bool}(p:PostT mg E G H r Q)(x:Ext G H G' H'):PostT mg E G' H' r Q:=by
 cases r with
 |none=>exact p
 |some r=>
  cases r with
  |error y=>exact fun c da G2 H2 z w=>p c da G2 H2 (x.trans z) w
  |ok d=>exact fun H2 s=>p H2 (x.h.trans s)
theorem Fr.from{G H G1 H1 G2 H2:Hp}{S:Addr->Prop}(x:Ext G H G1 H1)(f:Fr G1 H1 G2 H2 S):Fr G H G2 H2 S:=⟨x.trans f.ext,fun a ha=>⟨x.h.free (f.new a ha).1,(f.new a ha).2⟩⟩
theorem PostE.val{G H G' H':Hp}{d:Dt}{v:V}{Q:VK}(p:PostE mg E G H n (okR d) Q)(x:Ext G H G' H')(hd:d.dep=0)(h:Rep G' d v):Q v H':=
 p v G' H' (fun _=>False) ⟨x,fun _ z=>z.elim⟩ (zOH h hd)
theorem PostE.kept{G H G' H':Hp}{d:Dt}{v:V}{Q:VK}(p:PostE mg E G H 0 (okR d) Q)(x:Ext G H G' H')(h:Rep G' d v):Q v H':=
 p v G' H' (fun _=>False) ⟨x,fun _ z=>z.elim⟩ h
theorem zB0{t:TE}{m:EM}{n:Nat}(D:DE mg E t m n):DE mg E t m 0:=by
 intro G H σ ρ Q s w p;refine D G H σ ρ Q s w ?_;cases e:m ρ with
 |none=>rw[e]at p;exact p
 |some r=>
  rw[e]at p;cases r with
  |error x=>exact p
  |ok d=>
   intro v G' H' S fr o;obtain⟨x,r⟩:=fr.frz o;exact PostE.kept p x r
end
end L3
namespace L3
open PySem PySem.Spec
open L2 hiding Rep RepL
open Mi (Dt Xn R okR zA3 optR zA0 zA6 zAC zAA zAB Rh Sl Ro EM TM AM FM IM SM Tg Out zAR zAQ zAU full frz frz1 frzAt)
section
variable[Kc]{mg:Str->Option Value}{E:XK}{n k l:Nat}{ta tb tc:TE}{ma mb mc:EM}
theorem zAN{i:Int}:DE mg E (tC (.int i)) (Mi.eC (.int i)) n:=fun G H σ ρ Q s w p=>PostE.val p (Ext.refl s) rfl rfl
theorem zDC{b:Bool}:DE mg E (tC (.bl b)) (Mi.eC (.bl b)) n:=fun G H σ ρ Q s w p=>PostE.val p (Ext.refl s) rfl rfl
theorem zSZ:DE mg E (tC .non) (Mi.eC .non) n:=fun G H σ ρ Q s w p=>PostE.val p (Ext.refl s) rfl rfl
theorem zJY{x:Str}:DE mg E (tC (.str x)) (Mi.eC (.str x)) n:=fun G H σ ρ Q s w p=>PostE.val p (Ext.refl s) rfl rfl
theorem de_v(i:Nat):DE mg E (vM i) (Mi.eV i) 0:=by
 intro G H σ ρ Q s w p;unfold Mi.eV at p;cases e:ρ[i]? with
 |none=>rw[e]at p;exact p.elim
 |some o=>
  rw[e]at p;cases o with
  |none=>exact p.elim
  |some d=>
   obtain⟨v,h1,h2⟩:=w.at i d e;unfold vM;rw[h1];exact PostE.kept p (Ext.refl s) h2
def ROp(r:R2)(f:Dt->Dt->Option Dt)(n:Nat):Prop:=∀(mg:Str->Option Value)(E:XK)(G H:Hp)(d e:Dt)(x y:V)(Q:VK),Same G H->Rep G d x->Rep G e y->PostE mg E G H n (optR (f d e)) Q->r x y H Q
theorem zAJ{r:R2}{f:Dt->Dt->Option Dt}(hr:ROp r f n)(A:DE mg E ta ma k)(B:DE mg E tb mb l):DE mg E (tOp r ta tb) (Mi.eB f ma mb) n:=by
 intro G H σ ρ Q s w p;refine(zB0 A).step errE s w p fun d v G1 H1 S _ fr o p1=>?_
 refine(zB0 B).step (errE.from fr.ext) fr.ext.in' (w.mono fr.ext.g) p1 fun e u G2 H2 S2 _ fr2 o2 p2=>?_
 exact hr mg E G2 H2 d e v u Q fr2.ext.in' (Rep.mono fr2.ext.g o) o2 (PostE.from p2 (fr.ext.trans fr2.ext))
def ROp1(r:V->Hp->VK->Prop)(f:Dt->Option Dt)(n:Nat):Prop:=∀(mg:Str->Option Value)(E:XK)(G H:Hp)(d:Dt)(x:V)(Q:VK),Same G H->Rep G d x->PostE mg E G H n (optR (f d)) Q->r x H Q
theorem zUA{r:V->Hp->VK->Prop}{f:Dt->Option Dt}(hr:ROp1 r f n)(A:DE mg E ta ma k):DE mg E (tUn r ta) (Mi.eU f ma) n:=by
 intro G H σ ρ Q s w p;refine(zB0 A).step errE s w p fun d v G1 H1 S _ fr o p1=>?_
 exact hr mg E G1 H1 d v Q fr.ext.in' o (PostE.from p1 fr.ext)
theorem de_and(A:DE mg E ta ma k)(B:DE mg E tb mb n):DE mg E (fun σ H Q=>ta σ H fun x H1=>match x with | .bl c=>if c=true then tb σ H1 Q else Q (.bl false) H1|_=>False) (Mi.eAnd ma mb) n:=by
 intro G H σ ρ Q s w p;refine(zB0 A).step errE s w p fun d v G1 H1 S _ fr o p1=>?_
 cases d with
 |bl b=>
  cases(show v=.bl b from o)
  cases b with
  |true=>exact B G1 H1 σ ρ Q fr.ext.in' (w.mono fr.ext.g) (PostE.from p1 fr.ext)
  |false=>exact PostE.val (PostE.from p1 fr.ext) (Ext.refl fr.ext.in') rfl rfl
 |_=>exact p1.elim
theorem dt_b(A:DE mg E ta ma k):DT mg E (fun σ H Q=>ta σ H fun z H3=>match z with | .bl k=>Q k H3|_=>False) (Mi.tB ma):=by
 intro G H σ ρ Q s w p;refine(zB0 A).step errT s w p fun d v G1 H1 S _ fr o p1=>?_
 cases d with
 |bl b=>
  cases(show v=.bl b from o)
  exact p1 H1 fr.ext.h
 |_=>exact p1.elim
theorem dt_m(A:DE mg E ta ma k):DT mg E (bM ta) (Mi.tM ma):=by
 intro G H σ ρ Q s w p;refine(zB0 A).step errT s w p fun d v G1 H1 S _ fr o p1=>?_
 cases d with
 |bl b=>cases(show v=.bl b from o);exact p1 H1 fr.ext.h
 |int b=>cases(show v=.int b from o);exact p1 H1 fr.ext.h
 |non=>cases(show v=.non from o);exact p1 H1 fr.ext.h
 |_=>exact p1.elim
variable{tA tB:TT}{cA cB:TM}
theorem zSV(A:DT mg E tA cA)(B:DT mg E tB cB):DT mg E (L2.tAnd tA tB) (Mi.tAn cA cB):=by
 intro G H σ ρ Q s w p;refine A.step errT s w p fun b H' _ sH p1=>?_
 cases b with
 |true=>exact B G H' σ ρ Q (s.trans sH) w (PostT.from p1 (Ext.same s sH))
 |false=>exact p1 H' sH
theorem zM3(A:DT mg E tA cA)(B:DT mg E tB cB):DT mg E (L2.tOr tA tB) (Mi.tOr cA cB):=by
 intro G H σ ρ Q s w p;refine A.step errT s w p fun b H' _ sH p1=>?_
 cases b with
 |false=>exact B G H' σ ρ Q (s.trans sH) w (PostT.from p1 (Ext.same s sH))
 |true=>exact p1 H' sH
theorem zJW(A:DT mg E tA cA):DT mg E (L2.tNot tA) (Mi.tNo cA):=by
 intro G H σ ρ Q s w p;exact A.step errT s w p fun b H' _ sH p1=>p1 H' sH
theorem zJV:DT mg E L2.tYes Mi.tYes:=fun G H σ ρ Q s w p=>p H (Same.refl _)
variable{t:TA}{m:AM}
theorem zAG:DA mg E tNil Mi.aNil n:=fun G H σ ρ Q s w p=>p [] G H (fun _=>False) (fun _ _=>False) ⟨Ext.refl s,fun _ z=>z.elim⟩ ⟨rfl,fun q d x h=>by simp at h,fun _ _ _ z=>z.elim,fun _ _ z=>z.elim⟩
theorem zA4(A:DE mg E ta ma n)(B:DA mg E t m n):DA mg E (zDY ta t) (Mi.aCons ma m) n:=by
 intro G H σ ρ Q s w p;refine A.step errA s w p fun d v G1 H1 S1 _ fr o p1=>?_
 refine B.step (errA.from fr.ext) fr.ext.in' (w.mono fr.ext.g) p1 fun ds vs G2 H2 S2 T2 _ fr2 o2 p2=>?_
 refine p2 (v::vs) G2 H2 (fun a=>S1 a\/S2 a) (fun q=>match q with|0=>S1|q+1=>T2 q) ⟨fr.ext.trans fr2.ext,fun a ha=>?_⟩ ⟨by simp[o2.len],fun q d' x h1 h2=>?_,fun q r b h1 h2=>?_,fun q b h=>?_⟩
 ·rcases ha with ha|ha
  ·obtain⟨n1,n2,n3⟩:=fr.new a ha;exact⟨n1,(fr2.ext.old a n3).trans n2,fr2.ext.h.some n3⟩
  ·obtain⟨n1,n2,n3⟩:=fr2.new a ha;exact⟨fr.ext.h.free n1,n2,n3⟩
 ·cases q with
  |zero=>simp at h1 h2;subst h1;subst h2;exact o.mono fr2.ext.g fr2.ext.h
  |succ q=>exact o2.own q d' x (by simpa using h1) (by simpa using h2)
 ·have ap:∀r b,S1 b->T2 r b->False:=fun r b h1 h2=>(fr.new b h1).2.2 (fr2.new b (o2.sub r b h2)).1
  cases q with
  |zero=>
   cases r with
   |zero=>rfl
   |succ r=>exact(ap r b h1 h2).elim
  |succ q=>
   cases r with
   |zero=>exact(ap q b h2 h1).elim
   |succ r=>rw[o2.dis q r b h1 h2]
 ·cases q with
  |zero=>exact .inl h
  |succ q=>exact .inr (o2.sub q b h)
theorem OwnA.repL{G H:Hp}{S:Addr->Prop}{ds:List Dt}{vs:List V}{T:Nat->Addr->Prop}(o:OwnA G H 0 S ds vs T):RepL G ds vs:=zDI o.len fun q d x h1 h2=>o.own q d x h1 h2
theorem big'{n:Nat}(h:n<=100000):n<=sizeLine:=qBu (L2.big h)
theorem Fr.add{G H G' H':Hp}{S:Addr->Prop}(f:Fr G H G' H' S){p:Addr}(hp:H' p=none)(o:HO):Fr G H G' (upd H' p o) (fun a=>a=p\/S a):=by
 have sn:=L2.same_new hp o;refine⟨⟨f.ext.g,f.ext.h.trans sn,f.ext.in'.trans sn,f.ext.old⟩,fun a ha=>?_⟩
 rcases ha with rfl|ha
 ·exact⟨f.ext.h.free hp,f.ext.in'.free hp,by rw[zAD];simp⟩
 ·obtain⟨n1,n2,n3⟩:=f.new a ha;exact⟨n1,n2,sn.some n3⟩
theorem OwnA.kids{G' H':Hp}{S:Addr->Prop}{ds:List Dt}{vs:List V}{T:Nat->Addr->Prop}(o:OwnA G' H' n S ds vs T)(hn:∀a,S a->H' a≠none){p:Addr}(hp:H' p=none)(ob:HO) :
  Kids (Own G' (upd H' p ob) n) (fun a=>a=p\/S a) p ds vs T:=
 ⟨o.len,fun q d x h1 h2=>(o.own q d x h1 h2).mono (Same.refl _) (L2.same_new hp ob),.inl rfl,fun q z=>hn p (o.sub q p z) hp,o.dis,fun q b z=>.inr (o.sub q b z)⟩
theorem zCN(A:DA mg E t m n):DE mg E (tLst t) (Mi.eLst m) (n+1):=by
 intro G H σ ρ Q s w p;refine A.step errE s w p fun ds vs G1 H1 S T _ fr o p1=>?_
 by_cases hz:ds.length<=100000
 ·rw[if_pos hz]at p1;refine⟨by rw[o.len];exact big' hz,fun a ha=>?_⟩;exact p1 (.ref a) G1 _ _ (fr.add ha _) ⟨a,vs,T,rfl,zAD,o.kids (fun b hb=>(fr.new b hb).2.2) ha _⟩
 ·rw[if_neg hz]at p1;exact p1.elim
theorem PostE.lst{G H G' H':Hp}{ds:List Dt}{xs:List V}{Q:VK}(p:PostE mg E G H 1 (okR (.lst ds)) Q)(x:Ext G H G' H')(r:RepL G' ds xs){a:Addr}(ha:H' a=none):Q (.ref a) (upd H' a (.lst xs)):=by
 have fr:Fr G H G' H' (fun _=>False):=⟨x,fun _ z=>z.elim⟩
 refine p (.ref a) G' _ _ (fr.add ha (.lst xs)) ⟨a,xs,fun _ _=>False,rfl,zAD,⟨r.length,fun q d y h1 h2=>zBM r h1 h2,.inl rfl,fun _ z=>z,fun _ _ _ z=>z.elim,fun _ _ z=>z.elim⟩⟩
def CBi(r:List V->Hp->VK->Prop)(f:List Dt->Option Dt)(n:Nat):Prop:=∀(mg:Str->Option Value)(E:XK)(G H:Hp)(ds:List Dt)(vs:List V)(Q:VK),Same G H->RepL G ds vs->PostE mg E G H n (optR (f ds)) Q->r vs H Q
theorem zE6{r:List V->Hp->VK->Prop}{f:List Dt->Option Dt}(hr:CBi r f n)(A:DA mg E t m 0):DE mg E (tCB r t) (Mi.eBi f m) n:=by
 intro G H σ ρ Q s w p;refine A.step errE s w p fun ds vs G1 H1 S T _ fr o p1=>?_
 exact hr mg E G1 H1 ds vs Q fr.ext.in' o.repL (PostE.from p1 fr.ext)
def spM(mg:Str->Option Value)(L:Nat)(f:FM):Sp:=fun vs H Q E=>∃G ds,Same (tabK Kc.K) G/\Same G H/\RepL G ds vs/\PostE mg E G H L (f ds) Q
theorem zD3{f:FM}(A:DA mg E t m 0):DE mg E (zID (spM mg n f) [] E t) (Mi.eCall f m) n:=by
 intro G H σ ρ Q s w p;refine A.step errE s w p fun ds vs G1 H1 S T _ fr o p1=>?_
 exact⟨G1,ds,w.tab.trans fr.ext.g,fr.ext.in',by rw[qBi];exact o.repL,PostE.from p1 fr.ext⟩
theorem zMY{G H:Hp}{o:Option Dt}{Q:VK}{d:Dt}{v:V}(s:Same G H)(p:PostE mg E G H n (optR o) Q)(e:o=some d)(hd:d.dep=0)(h:Rep G d v):Q v H:=by
 subst e;exact PostE.val p (Ext.refl s) hd h
theorem zC2:ROp zRP Mi.addD 1:=by
 intro mg E G H d e x y Q s h1 h2 p;cases d with
 |int i=>
  cases e with
  |int j=>cases(show x=.int i from h1);cases(show y=.int j from h2);exact zMY s p rfl rfl rfl
  |_=>exact p.elim
 |str i=>
  cases e with
  |str j=>
   cases(show x=.str i from h1);cases(show y=.str j from h2)
   rw[Mi.addD]at p
   by_cases hz:i.length+j.length<=100000
   ·rw[if_pos hz]at p;exact⟨big' hz,PostE.val p (Ext.refl s) rfl rfl⟩
   ·rw[if_neg hz]at p;exact p.elim
  |_=>exact p.elim
 |lst ds=>
  cases e with
  |lst es=>
   obtain⟨a,xs,rfl,ha,ra⟩:=h1;obtain⟨b,ys,rfl,hb,rb⟩:=h2;rw[Mi.addD]at p
   by_cases hz:ds.length+es.length<=100000
   ·rw[if_pos hz]at p;refine⟨xs,ys,s _ _ ha,s _ _ hb,by rw[ra.length,rb.length];exact big' hz,fun q hq=>?_⟩;refine PostE.lst p (Ext.refl s) (zDI (by simp[ra.length,rb.length]) fun j d' x' e1 e2=>?_) hq
    by_cases hj:j<ds.length
    ·rw[qAc hj]at e1;rw[qAc (by rw[ra.length];exact hj)]at e2;exact zBM ra e1 e2
    ·rw[qA9 (by lia)]at e1;rw[qA9 (by rw[ra.length];lia),ra.length]at e2;exact zBM rb e1 e2
   ·rw[if_neg hz]at p;exact p.elim
  |_=>exact p.elim
 |_=>exact p.elim
theorem zRA:ROp zRI Mi.subD n:=by
 intro mg E G H d e x y Q s h1 h2 p;cases d with
 |int i=>
  cases e with
  |int j=>cases(show x=.int i from h1);cases(show y=.int j from h2);exact zMY s p rfl rfl rfl
  |_=>exact p.elim
 |_=>exact p.elim
theorem zCW:ROp zRL Mi.mulD n:=by
 intro mg E G H d e x y Q s h1 h2 p;cases d with
 |int i=>
  cases e with
  |int j=>
   cases(show x=.int i from h1);cases(show y=.int j from h2)
   rw[Mi.mulD]at p
   split at p
   ·rename_i hz;exact⟨hz,PostE.val p (Ext.refl s) rfl rfl⟩
   ·exact p.elim
  |_=>exact p.elim
 |_=>exact p.elim
theorem zRD:ROp zRO Mi.divD n:=by
 intro mg E G H d e x y Q s h1 h2 p;cases d with
 |int i=>
  cases e with
  |int j=>
   cases(show x=.int i from h1);cases(show y=.int j from h2)
   rw[Mi.divD]at p
   split at p
   ·rename_i hz;exact⟨hz,PostE.val p (Ext.refl s) rfl rfl⟩
   ·exact p.elim
  |_=>exact p.elim
 |_=>exact p.elim
theorem zCI:ROp zRM Mi.modD n:=by
 intro mg E G H d e x y Q s h1 h2 p;cases d with
 |int i=>
  cases e with
  |int j=>
   cases(show x=.int i from h1);cases(show y=.int j from h2)
   rw[Mi.modD]at p
   split at p
   ·rename_i hz;exact⟨hz,PostE.val p (Ext.refl s) rfl rfl⟩
   ·exact p.elim
  |_=>exact p.elim
 |_=>exact p.elim
theorem zRC:ROp1 zRK Mi.negD n:=by
 intro mg E G H d x Q s h1 p;cases d with
 |int i=>cases(show x=.int i from h1);exact zMY s p rfl rfl rfl
 |_=>exact p.elim
theorem zOB{q:Int->Int->Bool}:ROp (zPK q) (Mi.cmpD q) n:=by
 intro mg E G H d e x y Q s h1 h2 p;cases d with
 |int i=>
  cases e with
  |int j=>cases(show x=.int i from h1);cases(show y=.int j from h2);exact zMY s p rfl rfl rfl
  |_=>exact p.elim
 |_=>exact p.elim
theorem zOQ{G H:Hp}{d e:Dt}{x y:V}{Q:VK}{ng:Bool}(s:Same G H)(h1:Rep G d x)(h2:Rep G e y)(hd:d.dep<=40)(he:e.dep<=40)(q:Q (.bl (if ng then !Dt.eq d e else Dt.eq d e)) H) :
  ∃d' e',L2.Rep H d' x/\L2.Rep H e' y/\d'.dep<=40/\Q (.bl (if ng then !L2.Dat.eq d' e' else L2.Dat.eq d' e')) H:=
 ⟨conv d,conv e,zCQ hd (Rep.mono s h1),zCQ he (Rep.mono s h2),qAm (zDD hd) hd,by rw[zIQ hd he];exact q⟩
theorem zDN{α:Type}[DecidableEq α](a b:α):(a==b)=decide (a=b):=by
 by_cases h:a=b
 ·subst h;simp
 ·simp[h]
theorem zGE{G:Hp}{d:Dt}{i:Int}(h:Rep G d (.int i)):d=.int i:=by
 cases d with
 |int k=>cases h;rfl
 |non=>cases h
 |bl _=>cases h
 |str _=>cases h
 |lst _=>obtain⟨_,_,z,_⟩:=h;cases z
 |tup _=>obtain⟨_,_,z,_⟩:=h;cases z
 |scr _=>obtain⟨_,z,_⟩:=h;cases z
 |exc _ _ _=>obtain⟨_,_,_,z,_⟩:=h;cases z
 |fn _ _=>obtain⟨_,z,_⟩:=h;cases z
 |ins _ _=>obtain⟨_,_,_,z,_⟩:=h;cases z
 |dct _=>obtain⟨_,z,_⟩:=h;cases z
theorem zGD{G:Hp}{d:Dt}{i:Str}(h:Rep G d (.str i)):d=.str i:=by
 cases d with
 |str k=>cases h;rfl
 |non=>cases h
 |bl _=>cases h
 |int _=>cases h
 |lst _=>obtain⟨_,_,z,_⟩:=h;cases z
 |tup _=>obtain⟨_,_,z,_⟩:=h;cases z
 |scr _=>obtain⟨_,z,_⟩:=h;cases z
 |exc _ _ _=>obtain⟨_,_,_,z,_⟩:=h;cases z
 |fn _ _=>obtain⟨_,z,_⟩:=h;cases z
 |ins _ _=>obtain⟨_,_,_,z,_⟩:=h;cases z
 |dct _=>obtain⟨_,z,_⟩:=h;cases z
theorem zJ8{G:Hp}{d:Dt}{i:Bool}(h:Rep G d (.bl i)):d=.bl i:=by
 cases d with
 |bl k=>cases h;rfl
 |non=>cases h
 |str _=>cases h
 |int _=>cases h
 |lst _=>obtain⟨_,_,z,_⟩:=h;cases z
 |tup _=>obtain⟨_,_,z,_⟩:=h;cases z
 |scr _=>obtain⟨_,z,_⟩:=h;cases z
 |exc _ _ _=>obtain⟨_,_,_,z,_⟩:=h;cases z
 |fn _ _=>obtain⟨_,z,_⟩:=h;cases z
 |ins _ _=>obtain⟨_,_,_,z,_⟩:=h;cases z
 |dct _=>obtain⟨_,z,_⟩:=h;cases z
theorem zPF:ROp rEqU Mi.eqD n:=by
 intro mg E G H d e x y Q s h1 h2 p;unfold Mi.eqD at p
 split at p
 ·rename_i hz
  have q:Q (.bl (Dt.eq d e)) H:=PostE.val p (Ext.refl s) rfl rfl;have g:=zOQ (ng:=false) (Q:=Q) s h1 h2 hz.1 hz.2 q;unfold rEqU
  split
  ·rw[zGE h1,zGE h2,Dt.eq,zDN]at q;exact q
  ·rw[zGD h1,zGD h2,Dt.eq,zDN]at q;exact q
  ·rw[zJ8 h1,zJ8 h2,Dt.eq,zDN]at q;exact q
  ·exact g
 ·exact p.elim
theorem zHE:ROp rNeU Mi.neD n:=by
 intro mg E G H d e x y Q s h1 h2 p;unfold Mi.neD at p
 split at p
 ·rename_i hz
  have q:Q (.bl (!Dt.eq d e)) H:=PostE.val p (Ext.refl s) rfl rfl;have g:=zOQ (ng:=true) (Q:=Q) s h1 h2 hz.1 hz.2 q;unfold rNeU
  split
  ·rw[zGE h1,zGE h2,Dt.eq,zDN]at q;exact q
  ·rw[zGD h1,zGD h2,Dt.eq,zDN]at q;exact q
  ·rw[zJ8 h1,zJ8 h2,Dt.eq,zDN]at q;exact q
  ·exact g
 ·exact p.elim
theorem zOK(n:Nat)(i:Int):Mi.ixA n i=ixN n i:=rfl
theorem zON{α:Type}(xs:List α)(i:Int):Mi.itA xs i=atI xs i:=rfl
theorem zP0{G:Hp}{ds:List Dt}{xs:List V}{i:Int}{d:Dt}(r:RepL G ds xs)(h:Mi.itA ds i=some d):∃x,atI xs i=some x/\Rep G d x:=by
 rw[zON]at h;unfold atI at h ⊢;rw[r.length];cases e:ixN ds.length i with
 |none=>rw[e]at h;cases h
 |some j=>
  rw[e]at h;have h':ds[j]?=some d:=h;have hj:j<xs.length:=by rw[r.length];exact(qA2.mp h').1
  exact⟨xs[j],by simp[hj],zBM r h' (by simp[hj])⟩
theorem zCT:ROp (rIxU Kc.K) Mi.ixD 0:=by
 intro mg E G H d e x y Q s h1 h2 p;cases e with
 |int i=>
  cases(show y=.int i from h2)
  cases d with
  |lst ds=>
   obtain⟨a,xs,rfl,ha,ra⟩:=h1;cases er:Mi.itA ds i with
   |none=>rw[Mi.ixD,er]at p;exact p.elim
   |some c=>
    rw[Mi.ixD,er]at p;obtain⟨v,e1,r1⟩:=zP0 ra er;exact⟨xs,v,.inl (SqL.of (s _ _ ha)),e1,PostE.kept p (Ext.refl s) r1⟩
  |tup ds=>
   obtain⟨a,xs,rfl,ha,ra⟩:=h1;cases er:Mi.itA ds i with
   |none=>rw[Mi.ixD,er]at p;exact p.elim
   |some c=>
    rw[Mi.ixD,er]at p;obtain⟨v,e1,r1⟩:=zP0 ra er;exact⟨xs,v,.inr (SqT.of (s _ _ ha)),e1,PostE.kept p (Ext.refl s) r1⟩
  |scr ns=>
   obtain⟨a,rfl,ha⟩:=h1;cases er:Mi.itA ns i with
   |none=>rw[Mi.ixD,er]at p;exact p.elim
   |some c=>
    rw[Mi.ixD,er]at p;refine⟨ns.map V.int,.int c,zD7 s ha,?_,PostE.kept p (Ext.refl s) rfl⟩;rw[zON]at er;unfold atI at er ⊢;rw[qAx];cases e:ixN ns.length i with
    |none=>rw[e]at er;cases er
    |some j=>
     rw[e]at er;have er':ns[j]?=some c:=er
     show(ns.map V.int)[j]?=some (.int c)
     rw[qAi,er'];rfl
  |str z=>
   cases(show x=.str z from h1)
   rw[Mi.ixD]at p
   by_cases hz:z.length<=100000
   ·rw[if_pos hz]at p;cases er:Mi.itA z.cps.toList i with
    |none=>rw[er]at p;exact p.elim
    |some c=>rw[er]at p;exact⟨c,big' hz,er,PostE.kept p (Ext.refl s) rfl⟩
   ·rw[if_neg hz]at p;exact p.elim
  |_=>exact p.elim
 |_=>cases d<;>exact p.elim
theorem zEQ{G:Hp}{d:Dt}{vs:List V}(h:RepL G [d] vs):∃x,vs=[x]/\Rep G d x:=by
 obtain⟨x,q,rfl,a,b⟩:=h
 cases(show q=[] from b)
 exact⟨x,rfl,a⟩
theorem zRF{G:Hp}{d e:Dt}{vs:List V}(h:RepL G [d,e] vs):∃x y,vs=[x,y]/\Rep G d x/\Rep G e y:=by
 obtain⟨x,q,rfl,a,b⟩:=h;obtain⟨y,rfl,c⟩:=zEQ b;exact⟨x,y,rfl,a,c⟩
theorem zDW:CBi (zPI Kc.K) Mi.lenD n:=by
 intro mg E G H ds vs Q s h p;cases ds with
 |nil=>exact p.elim
 |cons a0 r0=>
  cases r0 with
  |cons _ _=>cases a0<;>exact p.elim
  |nil=>
   cases a0 with
   |lst es=>
    obtain⟨x,rfl,a,xs,rfl,ha,ra⟩:=zEQ h;exact⟨xs,.inl (SqL.of (s _ _ ha)),by rw[ra.length];exact PostE.val p (Ext.refl s) rfl rfl⟩
   |tup es=>
    obtain⟨x,rfl,a,xs,rfl,ha,ra⟩:=zEQ h;exact⟨xs,.inr (SqT.of (s _ _ ha)),by rw[ra.length];exact PostE.val p (Ext.refl s) rfl rfl⟩
   |scr ns=>
    obtain⟨x,rfl,a,rfl,ha⟩:=zEQ h;refine⟨ns.map V.int,zD7 s ha,?_⟩;rw[qAx];exact PostE.val p (Ext.refl s) rfl rfl
   |str z=>
    obtain⟨x,rfl,hx⟩:=zEQ h
    cases(show x=.str z from hx)
    rw[Mi.lenD]at p
    by_cases hz:z.length<=100000
    ·rw[if_pos hz]at p;exact⟨big' hz,PostE.val p (Ext.refl s) rfl rfl⟩
    ·rw[if_neg hz]at p;exact p.elim
   |_=>exact p.elim
theorem zC3{G:Hp}:∀(ns:List Int),RepL G (ns.map Dt.int) (ns.map V.int)
 |[]=>rfl
 |_::r=>⟨_,_,rfl,rfl,zC3 r⟩
theorem zMD:CBi (zL2 Kc.K) Mi.listD 1:=by
 intro mg E G H ds vs Q s h p;cases ds with
 |nil=>exact p.elim
 |cons a0 r0=>
  cases r0 with
  |cons _ _=>cases a0<;>exact p.elim
  |nil=>
   cases a0 with
   |lst es=>
    obtain⟨x,rfl,a,xs,rfl,ha,ra⟩:=zEQ h;exact .inl ⟨xs,.inl (SqL.of (s _ _ ha)),fun l hl=>PostE.lst p (Ext.refl s) ra hl⟩
   |tup es=>
    obtain⟨x,rfl,a,xs,rfl,ha,ra⟩:=zEQ h;exact .inl ⟨xs,.inr (SqT.of (s _ _ ha)),fun l hl=>PostE.lst p (Ext.refl s) ra hl⟩
   |scr ns=>
    obtain⟨x,rfl,a,rfl,ha⟩:=zEQ h;exact .inl ⟨ns.map V.int,zD7 s ha,fun l hl=>PostE.lst p (Ext.refl s) (zC3 ns) hl⟩
   |_=>exact p.elim
theorem zTI{G H:Hp}{d:Dt}{x:V}(s:Same G H)(h:Rep G d x)(hd:Mi.tyD d ≠ ""):zEK H x=some (Mi.tyD d):=by
 cases d with
 |non=>cases h;rfl
 |bl _=>cases h;rfl
 |int _=>cases h;rfl
 |str _=>cases h;rfl
 |lst _=>obtain⟨a,xs,rfl,ha,_⟩:=h;unfold zEK;dsimp only;rw[s _ _ ha];rfl
 |tup _=>obtain⟨a,xs,rfl,ha,_⟩:=h;unfold zEK;dsimp only;rw[s _ _ ha];rfl
 |scr _=>exact absurd rfl hd
 |exc _ _ _=>exact absurd rfl hd
 |fn _ _=>exact absurd rfl hd
 |ins _ _=>exact absurd rfl hd
 |dct _=>exact absurd rfl hd
theorem zJZ{nm:String}(hn:nm∈["int","bool","str","list","tuple","dict"])(A:DE mg E ta ma k):DE mg E (tCB zRN (zDY ta (zDY (tC (.ty nm)) tNil))) (Mi.eIsi nm ma) n:=by
 intro G H σ ρ Q s w p;refine(zB0 A).step errE s w p fun d v G1 H1 S _ fr o p1=>?_
 have p2:=PostE.from p1 fr.ext;unfold Mi.isiD at p2
 split at p2
 ·exact p2.elim
 ·rename_i hd
  exact⟨Mi.tyD d,zTI fr.ext.in' o hd,hn,PostE.val p2 (Ext.refl fr.ext.in') rfl rfl⟩
end
end L3
namespace L3
open PySem PySem.Spec
open L2 hiding Rep RepL
open Mi (Dt Xn R okR zA3 optR zA0 zA6 zAC zAA zAB Rh Sl Ro EM TM AM FM IM SM Tg Out zAR zAQ zAU full frz frz1 frzAt)
variable[Kc]
def ItOk(J:It)(G:Hp)(ds:List Dt):Prop:=∀(i:Nat)(G1 H1:Hp),Same G G1->Same G1 H1->(i<ds.length->J.go i H1)/\(ds.length<=i->J.stop i H1)/\∀x H2 d,ds[i]?=some d->J.yld i H1 x H2->∃G2,Ext G1 H1 G2 H2/\Rep G2 d x
noncomputable def zMI(ind:Bool)(G:Hp):Hp:=if ind=true then(fun _=>none)else G
def zT9(mg:Str->Option Value)(E:XK)(G H:Hp)(ind:Bool)(r:R (List Dt))(Q:It->Hp->Prop):Prop:=match r with
 |none=>False
 |some (.error x)=>∀c da G' H',Ext G H G' H'->XRep mg x c da G' H'->E c da H'
 |some (.ok ds)=>∀J G' H',Ext G H G' H'->ItOk J (zMI ind G') ds->Q J H'
def DI(mg:Str->Option Value)(E:XK)(t:TI)(m:IM)(ind:Bool):Prop:=∀(G H:Hp)(σ:St)(ρ:Rh)(Q:It->Hp->Prop),Same G H->View G σ ρ->zT9 mg E G H ind (m ρ) Q->t σ H Q
section
variable{mg:Str->Option Value}{E:XK}{n k l:Nat}{ta te:TE}{ma me:EM}{t:TA}{m:AM}{ind:Bool}
theorem errI{G H:Hp}{Q:It->Hp->Prop}:Err mg E G H (fun r=>zT9 mg E G H ind r Q):=⟨fun h=>h,fun _ h=>h⟩
theorem errB{G H:Hp}{α β:Type}{P:R β->Prop}(e:Err mg E G H P)(g:α->R β):Err mg E G H (fun r=>P (zA3 r g)):=⟨fun h=>e.no h,fun x h=>e.er x h⟩
theorem DI.step{β:Type}{t:TI}{m:IM}(D:DI mg E t m ind){G H:Hp}{σ:St}{ρ:Rh}{Q:It->Hp->Prop}{P:R β->Prop}{f:List Dt->R β}(hE:Err mg E G H P)(s:Same G H)(w:View G σ ρ)(p:P (zA3 (m ρ) f))
  (h:∀ds J G' H',m ρ=okR ds->Ext G H G' H'->ItOk J (zMI ind G') ds->P (f ds)->Q J H'):t σ H Q:=by
 refine D G H σ ρ Q s w ?_;cases e:m ρ with
 |none=>rw[e]at p;exact hE.no p
 |some r=>
  rw[e]at p;cases r with
  |error x=>exact hE.er x p
  |ok ds=>exact fun J G' H' x i=>h ds J G' H' e x i p
theorem zOM{K:qA0}{G:Hp}{a:Addr}{xs:List V}{ds:List Dt}(ha:SqL K G a xs)(r:RepL G ds xs):ItOk (Itl K a) G ds:=by
 intro i G1 H1 s1 s2;have hS:SqL K H1 a xs:=(s1.trans s2).seq ha;refine⟨fun hi=>⟨xs,xs[i]'(by rw[r.length];exact hi),hS,by simp⟩,fun hi=>⟨xs,hS,by rw[r.length];exact hi⟩,fun x H2 d hd hy=>?_⟩;obtain⟨rfl,hy⟩:=hy;exact⟨G1,Ext.refl s2,Rep.mono s1 (zBM r hd (hy xs hS))⟩
theorem zOL{K:qA0}{G:Hp}{a:Addr}{xs:List V}{ds:List Dt}(ha:SqT K G a xs)(r:RepL G ds xs):ItOk (Itt K a) G ds:=by
 intro i G1 H1 s1 s2;have hS:SqT K H1 a xs:=zEP (s1.trans s2) ha;refine⟨fun hi=>⟨xs,xs[i]'(by rw[r.length];exact hi),hS,by simp⟩,fun hi=>⟨xs,hS,by rw[r.length];exact hi⟩,fun x H2 d hd hy=>?_⟩;obtain⟨rfl,hy⟩:=hy;exact⟨G1,Ext.refl s2,Rep.mono s1 (zBM r hd (hy xs hS))⟩
theorem zSM{G:Hp}(lo:Int)(k:Nat):ItOk (Itr lo k) G (Mi.nums lo k):=by
 intro i G1 H1 s1 s2;have hl:(Mi.nums lo k).length=k:=by simp[Mi.nums]
 refine⟨fun hi=>by rw[hl]at hi;exact hi,fun hi=>by rw[hl]at hi;exact hi,fun x H2 d hd hy=>?_⟩;obtain⟨rfl,rfl⟩:=hy;refine⟨G1,Ext.refl s2,?_⟩;unfold Mi.nums at hd;rw[qAi]at hd;cases e:(qAg k)[i]? with
 |none=>rw[e]at hd;cases hd
 |some j=>
  rw[e]at hd;cases hd;have hj:j=i:=by
   obtain⟨h1,h2⟩:=qA2.mp e;rw[qD3]at h2;exact h2.symm
  subst hj;rfl
theorem zIN(A:DA mg E t m 0):DI mg E (zSP t) (Mi.iR1 m) true:=by
 intro G H σ ρ Q s w p;refine A.step errI s w p fun ds vs G1 H1 S T _ fr o p1=>?_
 have r:=o.repL;cases ds with
 |nil=>exact qA4 p1
 |cons hd1 tl1=>
  cases hd1 with
  |int j=>
   cases tl1 with
   |nil=>
    obtain⟨x,rfl,hx⟩:=zEQ r
    cases(show x=.int j from hx)
    dsimp only at p1
    split at p1
    ·rename_i hz
     exact⟨j,rfl,by lia,by lia,p1 _ G1 H1 fr.ext (zSM 0 _)⟩
    ·exact p1.elim
   |cons _ _=>exact qA4 p1
  |_=>exact qA4 p1
theorem Ext.new{G H:Hp}(s:Same G H){T:Addr}(hT:H T=none)(o:HO):Ext G H (upd G T o) (upd H T o):=by
 refine⟨L2.same_new (s.free hT) o,L2.same_new hT o,fun b u e=>?_,fun b hb=>zA9 fun z=>hb (z▸hT)⟩
 by_cases z:b=T
 ·subst z;rw[zAD]at e ⊢;exact e
 ·rw[zA9 z]at e ⊢;exact s _ _ e
noncomputable def zEN:St->List (Nat×V)->St
 |σ,[]=>σ
 |σ,(i,v)::r=>zEN (σ.set i (some v)) r
inductive BsRep(G:Hp):List (Nat×Dt)->List (Nat×V)->Prop
 |nil:BsRep G [] []
 |cons {i d v bs ws}:Rep G d v->BsRep G bs ws->BsRep G ((i,d)::bs) ((i,v)::ws)
theorem View.set{G:Hp}{σ:St}{ρ:Rh}{i:Nat}{d:Dt}{v:V}(w:View G σ ρ)(r:Rep G d v):View G (σ.set i (some v)) (ρ.set i (some d)):=by
 refine⟨by simp[w.len],fun j e h=>?_,w.tab⟩;have hj:j<ρ.length:=by
  have:=(qA2.mp h).1
  simpa using this
 by_cases z:i=j
 ·subst z;rw[qAd hj]at h;cases h;exact⟨v,qAd (by rw[<- w.len];exact hj),r⟩
 ·rw[qAf z]at h;obtain⟨u,h1,h2⟩:=w.at j e h;exact⟨u,by rw[qAf z];exact h1,h2⟩
theorem View.sets{G:Hp}{bs ws}(h:BsRep G bs ws):∀{σ:St}{ρ:Rh},View G σ ρ->View G (zEN σ ws) (zAQ ρ bs):=by
 induction h with
 |nil=>exact fun w=>w
 |cons r _ ih=>exact fun w=>ih (w.set r)
def TgOk(g:TG)(tg:Tg):Prop:=∀(G H:Hp)(σ:St)(d:Dt)(x:V)(bs:List (Nat×Dt))(Q:St->Hp->Prop),Same G H->Rep G d x->zAR tg d=some bs->(∀ws,BsRep G bs ws->Q (zEN σ ws) H)->g x σ H Q
def zNY(g:TGs)(is:List Nat):Prop:=∀(G H:Hp)(σ:St)(ds:List Dt)(xs:List V)(Q:St->Hp->Prop),RepL G ds xs->ds.length=is.length->(∀ws,BsRep G (is.zip ds) ws->Q (zEN σ ws) H)->g xs σ H Q
theorem zC7(i:Nat):TgOk (zGU i) (.one i):=by
 intro G H σ d x bs Q s r e h;cases e;exact h [(i,x)] (.cons r .nil)
theorem zP8:zNY gNil []:=by
 intro G H σ ds xs Q r hl h;cases ds with
 |nil=>cases(show xs=[] from r);exact⟨rfl,h [] .nil⟩
 |cons _ _=>simp at hl
theorem zJ3(i:Nat){g:TGs}{is:List Nat}(hg:zNY g is):zNY (zSQ (zGU i) g) (i::is):=by
 intro G H σ ds xs Q r hl h;cases ds with
 |nil=>simp at hl
 |cons d ds=>
  obtain⟨x,q,rfl,a,b⟩:=r;exact⟨x,q,rfl,hg G H _ ds q Q b (by simpa using hl) fun ws hw=>h ((i,x)::ws) (.cons a hw)⟩
theorem zR4{K:qA0}{g:TGs}{is:List Nat}{k:Nat}(hg:zNY g is)(hk:is.length=k):TgOk (gTup K k g) (.tup is):=by
 intro G H σ d x bs Q s r e h;cases d with
 |tup ds=>
  obtain⟨a,xs,rfl,ha,ra⟩:=r;rw[zAR]at e
  by_cases hz:ds.length=is.length
  ·rw[if_pos hz]at e;cases e;exact⟨a,xs,rfl,SqT.of (s _ _ ha),by rw[ra.length,hz,hk],hg G H σ ds xs Q ra hz h⟩
  ·rw[if_neg hz]at e;cases e
 |_=>simp[zAR]at e
theorem zHD:∀(ws:List (Nat×V))(σ own:St),(∀p∈ws,σ.length<=p.1)->∃own':St,own'.length=own.length/\zEN (σ++own) ws=σ++own'
 |[],σ,own,_=>⟨own,rfl,rfl⟩
 |(i,v)::r,σ,own,h=>by
  have hi:σ.length<=i:=h (i,v) (by simp);rw[zEN,qDs _ _ hi];obtain⟨o,h1,h2⟩:=zHD r σ (own.set (i-σ.length) (some v)) fun p hp=>h p (by simp[hp])
  exact⟨o,by rw[h1,qEt],h2⟩
theorem BsRep.idx{G:Hp}{bs ws}(h:BsRep G bs ws):ws.map (·.1)=bs.map (·.1):=by
 induction h with
 |nil=>rfl
 |cons _ _ ih=>simp[ih]
theorem zMH{tg:Tg}{d:Dt}{bs:List (Nat×Dt)}(h:zAR tg d=some bs):∀i∈bs.map (·.1),i∈tg.idx:=by
 cases tg with
 |one i=>cases h;simp[Tg.idx]
 |tup is=>
  cases d with
  |tup ds=>
   rw[zAR]at h
   split at h
   ·cases h;intro i hi;obtain⟨p,hp,e⟩:=qCm.mp hi;rw[<- e];obtain⟨a,b⟩:=p;exact(qD0 hp).1
   ·cases h
  |_=>simp[zAR]at h
theorem zGZ{wi:TI}{g:TG}{tif:TT}{it:IM}{tg:Tg}{c:TM}(I:DI mg E wi it ind)(hT:TgOk g tg)(C:DT mg E tif c)(B:DE mg E te me n):DE mg E (zPB wi k g tif te) (Mi.eComp it k tg c me) (n+1):=by
 intro G H σ ρ Q s w p;refine I.step errE s w p fun ds J G1 H1 _ x1 io p1=>?_
 by_cases hz:ds.length<=100000/\(tg.idx.all fun i=>decide (ρ.length<=i))=true
 case neg=>rw[if_neg hz]at p1;exact p1.elim
 rw[if_pos hz]at p1;obtain⟨hz,hix⟩:=hz;have hb1:Same (zMI ind G1) G1:=by
  unfold zMI
  split
  ·exact fun b o e=>by cases e
  ·exact Same.refl _
 refine⟨fun i m acc H'=>m=ds.length-i/\i<=ds.length/\∃G' as S T,Fr G H G' H' S/\Same G1 G'/\OwnA G' H' n S as acc T/\as.length<=i/\PostE mg E G H (n+1) (zA3 (Mi.compGo ρ k tg c me (ds.drop i) as) fun es=>okR (.lst es)) Q,
  ⟨_,rfl,qB8 _,G1,[],fun _=>False,fun _ _=>False,⟨x1,fun _ z=>z.elim⟩,Same.refl _,⟨rfl,fun q d x h=>by simp at h,fun _ _ _ z=>z.elim,fun _ _ z=>z.elim⟩,qA6 _,by rw[qD5];exact p1⟩,?_⟩
 rintro i m acc H' ⟨rfl,hi,G',as,S,T,fr,sg,o,hl,p⟩
 obtain⟨j1,j2,j3⟩:=io i G' H' (hb1.trans sg) fr.ext.in'
 by_cases hlt:i<ds.length
 ·refine .inr ⟨j1 hlt,by rw[o.len];exact L2.big (by lia),fun acc' H''=>ds.length-(i+1)=ds.length-(i+1)/\i+1<=ds.length/\∃G' as S T,Fr G H G' H'' S/\Same G1 G'/\OwnA G' H'' n S as acc' T/\as.length<=i+1/\PostE mg E G H (n+1) (zA3 (Mi.compGo ρ k tg c me (ds.drop (i+1)) as) fun es=>okR (.lst es)) Q,
   fun acc' H'' q=>⟨ds.length-(i+1),by lia,q⟩,fun x H2 hy=>?_⟩
  have hd:ds[i]?=some ds[i]:=qAq hlt;obtain⟨G2,x2,r2⟩:=j3 x H2 ds[i] hd hy;rw[qBg hlt,Mi.compGo]at p;cases eb:zAR tg ds[i]with
  |none=>rw[eb]at p;exact p.elim
  |some bs=>
   rw[eb]at p;dsimp only at p;refine hT G2 H2 _ _ x bs _ x2.in' r2 eb fun ws hb=>?_
   have hsl:∀q∈ws,σ.length<=q.1:=fun q hq=>by
    have h1:q.1∈bs.map (·.1):=by rw[<- hb.idx];exact qE1 hq
    have h2:=qDh.mp hix q.1 (zMH eb q.1 h1);rw[<- w.len];exact of_decide_eq_true h2
   obtain⟨own,ho1,ho2⟩:=zHD ws σ (qA7 k none) hsl;refine⟨own,by rw[ho1,qCk],ho2,?_⟩;have x02:=fr.ext.trans x2;have w2:View G2 (zEN (σ++qA7 k none) ws) (zAQ (ρ++qA7 k none) bs):=by
    refine View.sets hb ⟨by simp[w.len],fun j d h=>?_,w.tab.trans x02.g⟩
    by_cases hj:j<ρ.length
    ·rw[qAc hj]at h;obtain⟨v,a,b⟩:=w.at j d h;exact⟨v,by rw[qAc (by rw[<- w.len];exact hj)];exact a,Rep.mono x02.g b⟩
    ·rw[qA9 (by lia),qBn]at h
     split at h<;>cases h
   refine C.step ((errB errE _).from x02) x2.in' w2 p fun b H3 _ s3 p3=>?_
   have x3:Ext G2 H2 G2 H3:=Ext.same x2.in' s3;have x03:=x02.trans x3;have newS:∀a,S a->H a=none/\G2 a=none/\H3 a≠none:=fun a ha=>by
    obtain⟨n1,n2,n3⟩:=fr.new a ha;exact⟨n1,(x2.old a n3).trans n2,s3.some (x2.h.some n3)⟩
   have own3:OwnA G2 H3 n S as acc T:=⟨o.len,fun q d y h1 h2=>(o.own q d y h1 h2).mono x2.g (x2.h.trans s3),o.dis,o.sub⟩
   cases b with
   |false=>exact⟨rfl,hlt,G2,as,S,T,⟨x03,newS⟩,sg.trans x2.g,own3,by lia,p3⟩
   |true=>
    refine B.step ((errB errE _).from x03) x3.in' w2 p3 fun e v G4 H4 S4 _ fr4 o4 p4=>?_
    have ap:∀q b,T q b->S4 b->False:=fun q b h1 h2=>(newS b (o.sub q b h1)).2.2 (fr4.new b h2).1
    refine⟨rfl,hlt,G4,as++[e],fun a=>S a\/S4 a,fun q b=>(q<as.length/\T q b)\/(q=as.length/\S4 b),⟨x03.trans fr4.ext,fun a ha=>?_⟩,sg.trans (x2.g.trans fr4.ext.g),⟨by simp[o.len],fun q d y h1 h2=>?_,fun q r b h1 h2=>?_,fun q b h=>?_⟩,by simp;lia,p4⟩
    ·rcases ha with ha|ha
     ·obtain⟨n1,n2,n3⟩:=newS a ha;exact⟨n1,(fr4.ext.old a n3).trans n2,fr4.ext.h.some n3⟩
     ·obtain⟨n1,n2,n3⟩:=fr4.new a ha;exact⟨x03.h.free n1,n2,n3⟩
    ·by_cases hq:q<as.length
     ·rw[qAc hq]at h1;rw[qAc (by rw[o.len];exact hq)]at h2;exact((own3.own q d y h1 h2).mono fr4.ext.g fr4.ext.h).sub fun b z=>.inl ⟨hq,z⟩
     ·rw[qA9 (by lia)]at h1;rw[qA9 (by rw[o.len];lia),o.len]at h2;have hq0:q-as.length=0:=by
       have:=(qA2.mp h1).1
       simp at this;lia
      rw[hq0]at h1 h2;simp at h1 h2;subst h1;subst h2;exact o4.sub fun b z=>.inr ⟨by lia,z⟩
    ·rcases h1 with⟨a1,t1⟩|⟨a1,t1⟩<;>rcases h2 with⟨a2,t2⟩|⟨a2,t2⟩
     ·exact o.dis q r b t1 t2
     ·exact(ap q b t1 t2).elim
     ·exact(ap r b t2 t1).elim
     ·lia
    ·rcases h with⟨_,z⟩|⟨_,z⟩
     ·exact .inl (o.sub q b z)
     ·exact .inr z
 ·have e:i=ds.length:=by lia
  subst e;refine .inl ⟨j2 (qA6 _),fun D hD=>?_⟩;rw[qDk,Mi.compGo]at p;exact p (.ref D) G' _ _ (fr.add hD _) ⟨D,acc,T,rfl,zAD,o.kids (fun b hb=>(fr.new b hb).2.2) hD _⟩
end
end L3
namespace L3
open PySem PySem.Spec
open L2 hiding Rep RepL
open Mi (Dt Xn R okR zA3 optR zA0 zA6 zAC zAA zAB Rh Sl Ro EM TM AM FM IM SM Tg Out zAR zAQ zAU full frz frz1 frzAt)
variable[Kc]
structure Sat(G0 H0 S0:Hp)(σ:St)(ρ:Ro)(G H:Hp)(As:Nat->Addr->Prop):Prop where
 ext:Ext G0 H0 G H
 stb:Same S0 G
 tab:Same (tabK Kc.K) G0
 len:ρ.length=σ.length
 «at»:∀(i:Nat)(d:Dt)(n:Nat),ρ[i]?=some (some (d,n))->∃v,σ[i]?=some (some v)/\Own G H n (As i) d v
 dis:∀i j a,As i a->As j a->i=j
 new:∀i a,As i a->H0 a=none/\G a=none/\H a≠none
section
variable{G0 H0 S0:Hp}{σ:St}{ρ:Ro}{G H:Hp}{As:Nat->Addr->Prop}
theorem Sat.grow(a:Sat G0 H0 S0 σ ρ G H As){H':Hp}(s:Same H H'):Sat G0 H0 S0 σ ρ G H' As:=
 ⟨a.ext.trans (Ext.same a.ext.in' s),a.stb,a.tab,a.len,fun i d n e=>let⟨v,h1,h2⟩:=a.at i d n e;⟨v,h1,h2.mono (Same.refl _) s⟩,a.dis,fun i b h=>let⟨n1,n2,n3⟩:=a.new i b h;⟨n1,n2,s.some n3⟩⟩
theorem Sat.wider(a:Sat G0 H0 S0 σ ρ G H As){G' H':Hp}(x:Ext G H G' H'):Sat G0 H0 S0 σ ρ G' H' As:=
 ⟨a.ext.trans x,a.stb.trans x.g,a.tab,a.len,fun i d n e=>let⟨v,h1,h2⟩:=a.at i d n e;⟨v,h1,h2.mono x.g x.h⟩,a.dis,fun i b h=>let⟨n1,n2,n3⟩:=a.new i b h;⟨n1,(x.old b n3).trans n2,x.h.some n3⟩⟩
theorem Sat.full(a:Sat G0 H0 S0 σ ρ G H As):∃J,Ext G0 H0 J H/\Same G J/\View J σ (full ρ):=by
 obtain⟨s1,s2⟩:=zD9 (S:=fun b=>∃i,As i b) a.ext.in';refine⟨over G H fun b=>∃i,As i b,⟨a.ext.g.trans s1,a.ext.h,s2,fun b hb=>?_⟩,s1,by simp[Mi.full,a.len],fun i d e=>?_,a.tab.trans (a.ext.g.trans s1)⟩
 ·have z:¬ ∃i,As i b:=fun⟨i,z⟩=>hb (a.new i b z).1
  rw[zCA z];exact a.ext.old b hb
 ·unfold Mi.full at e;rw[qAi]at e;cases e1:ρ[i]? with
  |none=>rw[e1]at e;cases e
  |some o=>
   rw[e1]at e;cases o with
   |none=>cases e
   |some sl=>
    obtain⟨d',n⟩:=sl;cases e;obtain⟨v,h1,h2⟩:=a.at i _ n e1;exact⟨v,h1,h2.rep s1 fun b o hb e=>by rw[zDJ ⟨i,hb⟩];exact e⟩
theorem Sat.put(a:Sat G0 H0 S0 σ ρ G H As){i n:Nat}{d:Dt}{v:V}{S:Addr->Prop}(o:Own G H n S d v)(hS:∀b,S b->H0 b=none/\G b=none/\H b≠none)(hd:∀j b,j≠i->As j b->S b->False) :
  Sat G0 H0 S0 (σ.set i (some v)) (ρ.set i (some (d,n))) G H (fun j=>if j=i then S else As j):=by
 refine⟨a.ext,a.stb,a.tab,by simp[a.len],fun j e k h=>?_,fun j l b h1 h2=>?_,fun j b h=>?_⟩
 ·have hj:j<ρ.length:=by
   have:=(qA2.mp h).1
   simpa using this
  by_cases z:i=j
  ·subst z;rw[qAd hj]at h;cases h;exact⟨v,qAd (by rw[<- a.len];exact hj),by rw[if_pos rfl];exact o⟩
  ·rw[qAf z]at h;obtain⟨u,h1,h2⟩:=a.at j e k h;exact⟨u,by rw[qAf z];exact h1,by rw[if_neg (fun q=>z q.symm)];exact h2⟩
 ·try dsimp only at h1 h2
  by_cases z1:j=i
  ·by_cases z2:l=i
   ·rw[z1,z2]
   ·rw[if_pos z1]at h1;rw[if_neg z2]at h2;exact(hd l b z2 h2 h1).elim
  ·by_cases z2:l=i
   ·rw[if_neg z1]at h1;rw[if_pos z2]at h2;exact(hd j b z1 h1 h2).elim
   ·rw[if_neg z1]at h1;rw[if_neg z2]at h2;exact a.dis j l b h1 h2
 ·try dsimp only at h
  by_cases z1:j=i
  ·rw[if_pos z1]at h;exact hS b h
  ·rw[if_neg z1]at h;exact a.new j b h
theorem Sat.set(a:Sat G0 H0 S0 σ ρ G H As){H':Hp}{i n:Nat}{d:Dt}{v:V}{S:Addr->Prop}(s:Same H H')(o:Own G H' n S d v)(hS:∀b,S b->H b=none/\G b=none/\H' b≠none) :
  Sat G0 H0 S0 (σ.set i (some v)) (ρ.set i (some (d,n))) G H' (fun j=>if j=i then S else As j):=
 (a.grow s).put o (fun b hb=>⟨a.ext.h.free (hS b hb).1,(hS b hb).2⟩) fun j b _ h1 h2=>(a.new j b h1).2.2 (hS b h2).1
theorem Sat.frz1(a:Sat G0 H0 S0 σ ρ G H As)(i:Nat):∃G1 As1,Sat G0 H0 S0 σ (Mi.frz1 i ρ) G1 H As1:=by
 unfold Mi.frz1;cases e1:ρ[i]? with
 |none=>exact⟨G,As,a⟩
 |some o=>
  cases o with
  |none=>exact⟨G,As,a⟩
  |some sl=>
   obtain⟨d,n⟩:=sl;dsimp only;obtain⟨v,h1,h2⟩:=a.at i d n e1;obtain⟨s1,s2⟩:=zD9 (S:=As i) a.ext.in';have x:Ext G0 H0 (over G H (As i)) H:=⟨a.ext.g.trans s1,a.ext.h,s2,fun b hb=>by
    have z:¬As i b:=fun z=>hb (a.new i b z).1
    rw[zCA z];exact a.ext.old b hb⟩
   have hv:(σ.set i (some v))=σ:=by
    have hi:i<σ.length:=(qA2.mp h1).1;have he:=(qA2.mp h1).2;rw[<- he,qDt]
   have b:Sat G0 H0 S0 σ (ρ.set i (some (d,0))) (over G H (As i)) H (fun j b=>j≠i/\As j b):=by
    refine⟨x,a.stb.trans s1,a.tab,by simp[a.len],fun j e k h=>?_,fun j l b p q=>a.dis j l b p.2 q.2,fun j b p=>?_⟩
    ·have hj:j<ρ.length:=by
      have:=(qA2.mp h).1
      simpa using this
     by_cases z:i=j
     ·subst z;rw[qAd hj]at h;cases h;exact⟨v,h1,h2.rep s1 fun b o hb e=>by rw[zDJ hb];exact e⟩
     ·rw[qAf z]at h;obtain⟨u,q1,q2⟩:=a.at j e k h;exact⟨u,q1,(q2.mono s1 (Same.refl _)).sub fun b hb=>⟨fun q=>z q.symm,hb⟩⟩
    ·obtain⟨n1,n2,n3⟩:=a.new j b p.2;have z:¬As i b:=fun z=>p.1 (a.dis j i b p.2 z)
     exact⟨n1,by rw[zCA z];exact n2,n3⟩
   exact⟨_,_,b⟩
theorem Sat.frzAt:∀(vs:List Nat){ρ:Ro}{G:Hp}{As:Nat->Addr->Prop},Sat G0 H0 S0 σ ρ G H As->∃G1 As1,Sat G0 H0 S0 σ (Mi.frzAt vs ρ) G1 H As1
 |[],_,_,_,a=>⟨_,_,a⟩
 |i::r,_,_,_,a=>by
  obtain⟨G1,As1,b⟩:=a.frz1 i;exact Sat.frzAt r b
theorem Sat.frz(a:Sat G0 H0 S0 σ ρ G H As):View G σ (Mi.frz ρ):=by
 refine⟨by simp[Mi.frz,a.len],fun i d e=>?_,a.tab.trans a.ext.g⟩;unfold Mi.frz at e;rw[qAi]at e;cases e1:ρ[i]? with
 |none=>rw[e1]at e;cases e
 |some o=>
  rw[e1]at e;cases o with
  |none=>cases e
  |some sl=>
   obtain⟨d',n⟩:=sl;obtain⟨v,h1,h2⟩:=a.at i d' n e1;simp only[Option.map_some,qG0]at e
   split at e
   ·rename_i hz
    cases e
    rcases hz with hz|hz
    ·subst hz;exact⟨v,h1,h2⟩
    ·exact⟨v,h1,Own.scalar (k:=0) (G2:=G) (H2:=H) (S2:=fun _=>False) h2 hz⟩
   ·cases e
theorem Sat.store(a:Sat G0 H0 S0 σ ρ G H As){i n:Nat}{d:Dt}{v:V}{p:Addr}{o:HO}{S:Addr->Prop}(hp:As i p)(hv:σ[i]?=some (some v))(w:Own G (upd H p o) n S d v)
  (hS:∀b,S b->As i b\/(H0 b=none/\G b=none/\H b≠none/\∀j,¬As j b)):Sat G0 H0 S0 σ (ρ.set i (some (d,n))) G (upd H p o) (fun j=>if j=i then S else As j):=by
 obtain⟨p1,p2,p3⟩:=a.new i p hp;have hn:∀b,H b≠none->upd H p o b≠none:=fun b hb=>by
  by_cases z:b=p
  ·subst z;rw[zAD];simp
  ·rw[zA9 z];exact hb
 refine⟨⟨a.ext.g,L2.Same.upd a.ext.h p1 o,L2.Same.upd a.ext.in' p2 o,a.ext.old⟩,a.stb,a.tab,by simp[a.len],fun j e k h=>?_,fun j l b h1 h2=>?_,fun j b h=>?_⟩
 ·have hj:j<ρ.length:=by
   have:=(qA2.mp h).1
   simpa using this
  by_cases z:i=j
  ·subst z;rw[qAd hj]at h;cases h;exact⟨v,hv,by rw[if_pos rfl];exact w⟩
  ·rw[qAf z]at h;obtain⟨u,h1,h2⟩:=a.at j e k h;exact⟨u,h1,by rw[if_neg (fun q=>z q.symm)];exact h2.upd fun q=>z (a.dis i j p hp q)⟩
 ·have key:∀j b,j≠i->As j b->S b->False:=fun j b hj h1 h2=>by
   rcases hS b h2 with q|⟨_,_,_,q⟩
   ·exact hj (a.dis j i b h1 q)
   ·exact q j h1
  try dsimp only at h1 h2
  by_cases z1:j=i
  ·by_cases z2:l=i
   ·rw[z1,z2]
   ·rw[if_pos z1]at h1;rw[if_neg z2]at h2;exact(key l b z2 h2 h1).elim
  ·by_cases z2:l=i
   ·rw[if_neg z1]at h1;rw[if_pos z2]at h2;exact(key j b z1 h1 h2).elim
   ·rw[if_neg z1]at h1;rw[if_neg z2]at h2;exact a.dis j l b h1 h2
 ·try dsimp only at h
  by_cases z1:j=i
  ·rw[if_pos z1]at h
   rcases hS b h with q|⟨q1,q2,q3,_⟩
   ·obtain⟨n1,n2,n3⟩:=a.new i b q;exact⟨n1,n2,hn b n3⟩
   ·exact⟨q1,q2,hn b q3⟩
  ·rw[if_neg z1]at h;obtain⟨n1,n2,n3⟩:=a.new j b h;exact⟨n1,n2,hn b n3⟩
end
def zD4(mg:Str->Option Value)(E:XK)(G0 H0 S0:Hp)(L:Nat)(r:R Out)(D:Ends):Prop:=match r with
 |none=>False
 |some (.error x)=>∀c da G' H',Ext G0 H0 G' H'->XRep mg x c da G' H'->E c da H'
 |some (.ok (.nx ρ))=>∀σ G H As,Sat G0 H0 S0 σ ρ G H As->D.nx σ H
 |some (.ok (.bk ρ))=>∀σ G H As,Sat G0 H0 S0 σ ρ G H As->D.bk σ H
 |some (.ok (.ct ρ))=>∀σ G H As,Sat G0 H0 S0 σ ρ G H As->D.ct σ H
 |some (.ok (.rt d))=>∀v G H S,Fr G0 H0 G H S->Own G H L S d v->D.rt v H
def DS(mg:Str->Option Value)(E:XK)(L:Nat)(t:TS)(m:SM):Prop:=∀(G0 H0 S0:Hp)(σ:St)(ρ:Ro)(G H:Hp)(As:Nat->Addr->Prop)(D:Ends),Sat G0 H0 S0 σ ρ G H As->zD4 mg E G0 H0 S0 L (m ρ) D->t D σ H
section
variable{mg:Str->Option Value}{E:XK}{L n k l:Nat}{te ta tb:TE}{e ea eb:EM}{t u:TS}{m m':SM}
theorem errS{G0 H0 S0:Hp}{D:Ends}:Err mg E G0 H0 (fun r=>zD4 mg E G0 H0 S0 L r D):=⟨fun h=>h,fun _ h=>h⟩
theorem zCD:DS mg E L zR6 Mi.sNil:=fun G0 H0 S0 σ ρ G H As D a p=>p σ G H As a
theorem zAM(A:DS mg E L t m)(B:DS mg E L u m'):DS mg E L (tSeq t u) (Mi.sSeq m m'):=by
 intro G0 H0 S0 σ ρ G H As D a p;refine A G0 H0 S0 σ ρ G H As _ a ?_;unfold Mi.sSeq at p;cases e:m ρ with
 |none=>rw[e]at p;exact p
 |some r=>
  rw[e]at p;cases r with
  |error x=>exact p
  |ok o=>
   cases o with
   |nx ρ'=>exact fun σ' G' H' As' a'=>B G0 H0 S0 σ' ρ' G' H' As' D a' p
   |rt d=>exact p
   |bk ρ'=>exact p
   |ct ρ'=>exact p
theorem zE5{tc:TT}{c:TM}(C:DT mg E tc c)(A:DS mg E L t m)(B:DS mg E L u m'):DS mg E L (tIfS tc t u) (Mi.sIf c m m'):=by
 intro G0 H0 S0 σ ρ G H As D a p;obtain⟨J,x,s,w⟩:=a.full;refine C.step (errS.from x) x.in' w p fun b H' _ sH p1=>?_
 cases b with
 |true=>exact A G0 H0 S0 σ ρ G H' As D (a.grow sH) p1
 |false=>exact B G0 H0 S0 σ ρ G H' As D (a.grow sH) p1
theorem whole{G0 H0 S0:Hp}{σ:St}{ρ:Ro}{G H J G1 H1:Hp}{As:Nat->Addr->Prop}{S:Addr->Prop}{d:Dt}{v:V}(a:Sat G0 H0 S0 σ ρ G H As)(s:Same G J)(fr:Fr J H G1 H1 S)(o:Own G1 H1 n S d v)(hn:n<1000)(hd:d.dep<=n)(hk:d.dep<=k) :
  Own G H1 k S d v/\∀b,S b->H b=none/\G b=none/\H1 b≠none:=
 ⟨o.at hd hk hn,fun b hb=>let⟨n1,n2,n3⟩:=fr.new b hb;⟨n1,a.ext.in'.free n1,n3⟩⟩
theorem zB3{i:Nat}(vs:List Nat)(A:DE mg E te e n)(hn:n<1000:=by decide):DS mg E L (tAsg te (zGU i)) (Mi.sSet i n vs e):=by
 intro G0 H0 S0 σ ρ G H As D a p;obtain⟨J,x,s,w⟩:=a.full;unfold Mi.sSet at p;cases ee:e (full ρ)with
 |none=>rw[ee]at p;exact p.elim
 |some r=>
  cases r with
  |error y=>exact A.step (errS.from x) x.in' w p fun d v G1 H1 S e1 fr o p1=>by rw[ee]at e1;cases e1
  |ok d=>
   by_cases hd:d.dep<=n
   ·refine A.step (errS.from x) x.in' w p fun d' v G1 H1 S e1 fr o p1=>?_
    rw[ee]at e1;cases e1;rw[if_pos hd]at p1;obtain⟨q1,q2⟩:=whole (k:=n) a s fr o hn hd hd;exact p1 _ G H1 _ (a.set fr.ext.h q1 q2)
   ·rw[ee]at p;have p':zD4 mg E G0 H0 S0 L (zA3 (e (frz (frzAt vs ρ))) fun d'=>okR (.nx ((frzAt vs ρ).set i (some (d',n))))) D:=by
     have p2:zD4 mg E G0 H0 S0 L (if d.dep<=n then okR (.nx (ρ.set i (some (d,n))))else zA3 (e (frz (frzAt vs ρ))) fun d'=>okR (.nx ((frzAt vs ρ).set i (some (d',n))))) D:=p;rw[if_neg hd]at p2;exact p2
    obtain⟨G1,As1,a1⟩:=Sat.frzAt vs a;refine A.step (errS.from a1.ext) a1.ext.in' a1.frz p' fun d' v G2 H2 S _ fr o p1=>?_
    exact p1 _ G2 H2 _ ((a1.wider fr.ext).put o (fun b hb=>let⟨n1,n2,n3⟩:=fr.new b hb;⟨a1.ext.h.free n1,n2,n3⟩) fun j b _ h1 h2=>(a1.new j b h1).2.2 (fr.new b h2).1)
theorem zBU(vs:List Nat)(A:DE mg E te e n)(hn:n<1000:=by decide):DS mg E L (tRet te) (Mi.sRet L n vs e):=by
 intro G0 H0 S0 σ ρ G H As D a p;obtain⟨J,x,s,w⟩:=a.full;unfold Mi.sRet at p;cases ee:e (full ρ)with
 |none=>rw[ee]at p;exact p.elim
 |some r=>
  cases r with
  |error y=>exact A.step (errS.from x) x.in' w p fun d v G1 H1 S e1 fr o p1=>by rw[ee]at e1;cases e1
  |ok d=>
   by_cases hd:d.dep<=n/\d.dep<=L
   ·refine A.step (errS.from x) x.in' w p fun d' v G1 H1 S e1 fr o p1=>?_
    rw[ee]at e1;cases e1;rw[if_pos hd]at p1;exact p1 v G1 H1 S (Fr.from x fr) (o.at hd.1 hd.2 hn)
   ·rw[ee]at p;have p2:zD4 mg E G0 H0 S0 L (if d.dep<=n/\d.dep<=L then okR (.rt d)else if n=L then zA3 (e (frz (frzAt vs ρ))) fun d'=>okR (.rt d')else none) D:=p;rw[if_neg hd]at p2
    by_cases hl:n=L
    ·rw[if_pos hl]at p2;subst hl;obtain⟨G1,As1,a1⟩:=Sat.frzAt vs a;refine A.step (errS.from a1.ext) a1.ext.in' a1.frz p2 fun d' v G2 H2 S _ fr o p1=>?_
     exact p1 v G2 H2 S (Fr.from a1.ext fr) o
    ·rw[if_neg hl]at p2;exact p2.elim
theorem zGY(i:Nat):DS mg E L (tRet (vM i)) (Mi.sRetV L i):=by
 intro G0 H0 S0 σ ρ G H As D a p;unfold Mi.sRetV at p;cases e1:ρ[i]? with
 |none=>rw[e1]at p;exact p.elim
 |some o=>
  rw[e1]at p;cases o with
  |none=>exact p.elim
  |some sl=>
   obtain⟨d,k⟩:=sl;obtain⟨v,h1,h2⟩:=a.at i d k e1;show vM i σ H D.rt;unfold vM;rw[h1];dsimp only at p
   split at p
   ·rename_i hz
    rcases hz with hz|hz|hz
    ·subst hz;exact p v G H (As i) ⟨a.ext,fun b hb=>a.new i b hb⟩ h2
    ·subst hz;obtain⟨s1,s2⟩:=zD9 (S:=As i) a.ext.in';refine p v (over G H (As i)) H (fun _=>False) ⟨⟨a.ext.g.trans s1,a.ext.h,s2,fun b hb=>?_⟩,fun _ z=>z.elim⟩ (h2.rep s1 fun b o hb e=>by rw[zDJ hb];exact e);have z:¬As i b:=fun z=>hb (a.new i b z).1
     rw[zCA z];exact a.ext.old b hb
    ·exact p v G H (As i) ⟨a.ext,fun b hb=>a.new i b hb⟩ (h2.at hz.1 hz.2.1 hz.2.2)
   ·exact p.elim
theorem Sat.puts{G0 H0 S0 G H:Hp}{bs:List (Nat×Dt)}{ws:List (Nat×V)}(h:BsRep G bs ws):∀{σ:St}{ρ:Ro}{As:Nat->Addr->Prop},Sat G0 H0 S0 σ ρ G H As->∃As',Sat G0 H0 S0 (zEN σ ws) (zAU ρ bs) G H As':=by
 induction h with
 |nil=>exact fun a=>⟨_,a⟩
 |cons r _ ih=>exact fun a=>ih (a.put (n:=0) (S:=fun _=>False) r (fun _ z=>z.elim) fun _ _ _ _ z=>z.elim)
theorem zOW(i:Nat)(A:DE mg E te e n)(hn:n<1000:=by decide):DS mg E L (zIC (tML appM (vM i) (zDY te tNil))) (Mi.sApp i n e):=by
 intro G0 H0 S0 σ ρ G H As D a p;obtain⟨J,x,s,w⟩:=a.full;unfold Mi.sApp at p;cases e1:ρ[i]? with
 |none=>rw[e1]at p;exact p.elim
 |some o=>
  rw[e1]at p
  match o,e1,p with
  |none,_,p=>exact p.elim
  |some (.lst ds,k+1),e1,p=>
   obtain⟨v,h1,q,xs,T,rfl,hq,kd⟩:=a.at i _ _ e1;unfold zIC tML vM;rw[h1];refine⟨xs,hq,?_⟩;refine A.step (errS.from x) x.in' w p fun d y G1 H1 S _ fr o p1=>?_
   split at p1
   ·rename_i hz
    obtain⟨q1,q2⟩:=whole (k:=k) a s fr o hn hz.2.1 hz.2.2;refine⟨xs,fr.ext.h _ _ hq,by rw[kd.len];exact L2.big (by lia),?_⟩;have hp:=kd.top;have a1:=a.grow fr.ext.h;have nS:¬S q:=fun z=>(a.new i q hp).2.2 (q2 q z).1
    have ap:∀r b,T r b->S b->False:=fun r b h1 h2=>(a.new i b (kd.sub r b h1)).2.2 (q2 b h2).1
    refine p1 σ G _ _ (a1.store (S:=fun b=>As i b\/S b) hp h1 ⟨q,_,fun r b=>(r<ds.length/\T r b)\/(r=ds.length/\S b),rfl,zAD,⟨by simp[kd.len],fun r d' z g1 g2=>?_,.inl hp,fun r z=>?_,fun r r' b z1 z2=>?_,fun r b z=>?_⟩⟩ fun b z=>?_)
    ·by_cases hr:r<ds.length
     ·rw[qAc hr]at g1;rw[qAc (by rw[kd.len];exact hr)]at g2;exact(((kd.own r d' z g1 g2).mono (Same.refl _) fr.ext.h).upd (kd.out r)).sub fun b z=>.inl ⟨hr,z⟩
     ·rw[qA9 (by lia)]at g1;rw[qA9 (by rw[kd.len];lia),kd.len]at g2;have hq0:r-ds.length=0:=by
       have:=(qA2.mp g1).1
       simp at this;lia
      rw[hq0]at g1 g2;simp at g1 g2;subst g1;subst g2;exact(q1.upd nS).sub fun b z=>.inr ⟨by lia,z⟩
    ·rcases z with⟨_,z⟩|⟨_,z⟩
     ·exact kd.out r z
     ·exact nS z
    ·rcases z1 with⟨c1,t1⟩|⟨c1,t1⟩<;>rcases z2 with⟨c2,t2⟩|⟨c2,t2⟩
     ·exact kd.dis r r' b t1 t2
     ·exact(ap r b t1 t2).elim
     ·exact(ap r' b t2 t1).elim
     ·lia
    ·rcases z with⟨_,z⟩|⟨_,z⟩
     ·exact .inl (kd.sub r b z)
     ·exact .inr z
    ·rcases z with z|z
     ·exact .inl z
     ·obtain⟨n1,n2,n3⟩:=q2 b z;exact .inr ⟨a.ext.h.free n1,n2,n3,fun j y=>(a.new j b y).2.2 n1⟩
   ·exact p1.elim
  |some (.lst ds,0),_,p=>exact p.elim
  |some (.non,_),_,p=>exact p.elim
  |some (.bl _,_),_,p=>exact p.elim
  |some (.int _,_),_,p=>exact p.elim
  |some (.str _,_),_,p=>exact p.elim
  |some (.tup _,_),_,p=>exact p.elim
  |some (.scr _,_),_,p=>exact p.elim
  |some (.exc _ _ _,_),_,p=>exact p.elim
  |some (.fn _ _,_),_,p=>exact p.elim
  |some (.ins _ _,_),_,p=>exact p.elim
  |some (.dct _,_),_,p=>exact p.elim
end
end L3
namespace L3
open PySem PySem.Spec
open L2 hiding Rep RepL
open Mi (Dt Xn R okR zA3 optR zA0 zA6 zAC zAA zAB Rh Sl Ro EM TM AM FM IM SM Tg Out zAR zAQ zAU full frz frz1 frzAt)
section
variable[Kc]{mg:Str->Option Value}{E:XK}{L n k l:Nat}{te ta tb:TE}{e ea eb:EM}{t u:TS}{m m':SM}
theorem Kids.set{G H:Hp}{S:Addr->Prop}{a p:Addr}{ds:List Dt}{xs:List V}{T:Nat->Addr->Prop}{S':Addr->Prop}{d:Dt}{v:V}{o:HO}(k:Kids (Own G H n) S a ds xs T)(q:Nat)(w:Own G (upd H p o) n S' d v)(hp:∀r,r≠q->¬T r p)(ha:¬S' a)
  (hd:∀r b,r≠q->T r b->S' b->False):Kids (Own G (upd H p o) n) (fun b=>S b\/S' b) a (ds.set q d) (xs.set q v) (fun r b=>if r=q then S' b else T r b):=by
 refine⟨by simp[k.len],fun r d' x h1 h2=>?_,.inl k.top,fun r=>?_,fun r r' b z1 z2=>?_,fun r b z=>?_⟩
 ·by_cases z:q=r
  ·subst z;have h:q<ds.length:=by
    have:=(qA2.mp h1).1
    simpa using this
   rw[qAd h]at h1;rw[qAd (by rw[k.len];exact h)]at h2;cases h1;cases h2;exact w.sub fun b hb=>by rw[if_pos rfl];exact hb
  ·rw[qAf z]at h1 h2;exact((k.own r d' x h1 h2).upd (hp r fun y=>z y.symm)).sub fun b hb=>by rw[if_neg (fun y=>z y.symm)];exact hb
 ·try dsimp only
  split
  ·exact ha
  ·exact k.out _
 ·try dsimp only at z1 z2
  by_cases h1:r=q<;>by_cases h2:r'=q
  ·rw[h1,h2]
  ·rw[if_pos h1]at z1;rw[if_neg h2]at z2;exact(hd r' b h2 z2 z1).elim
  ·rw[if_neg h1]at z1;rw[if_pos h2]at z2;exact(hd r b h1 z1 z2).elim
  ·rw[if_neg h1]at z1;rw[if_neg h2]at z2;exact k.dis _ _ b z1 z2
 ·try dsimp only at z
  by_cases h1:r=q
  ·rw[if_pos h1]at z;exact .inr z
  ·rw[if_neg h1]at z;exact .inl (k.sub _ b z)
theorem zOP{G0 H0 S0:Hp}{D:Ends}{g:TG}{tg:Tg}{J:It}{ds:List Dt}{GJ:Hp}(hT:TgOk g tg)(B:DS mg E L t m)(io:ItOk J GJ ds){σ:St}{ρ:Ro}{G H:Hp}{As:Nat->Addr->Prop}(a:Sat G0 H0 S0 σ ρ G H As)(sJ:Same GJ G)
  (p:zD4 mg E G0 H0 S0 L (Mi.forGo tg m ds ρ) D):zKV g t D σ J H:=by
 refine⟨fun i c σ H=>c=ds.length-i/\i<=ds.length/\∃ρ G As,Sat G0 H0 S0 σ ρ G H As/\Same GJ G/\zD4 mg E G0 H0 S0 L (Mi.forGo tg m (ds.drop i) ρ) D,
  ⟨_,rfl,qB8 _,ρ,G,As,a,sJ,by rw[qD5];exact p⟩,?_⟩
 rintro i c σ H ⟨rfl,hi,ρ,G,As,a,sJ,p⟩
 obtain⟨j1,j2,j3⟩:=io i G H sJ a.ext.in'
 by_cases hlt:i<ds.length
 ·refine .inr ⟨j1 hlt,fun σ' H'=>i+1<=ds.length/\∃ρ G As,Sat G0 H0 S0 σ' ρ G H' As/\Same GJ G/\zD4 mg E G0 H0 S0 L (Mi.forGo tg m (ds.drop (i+1)) ρ) D,fun σ' H' q=>⟨ds.length-(i+1),by lia,rfl,q⟩,fun x H2 hy=>?_⟩;have hd:ds[i]?=some ds[i]:=qAq hlt;obtain⟨G2,x2,r2⟩:=j3 x H2 ds[i] hd hy;rw[qBg hlt,Mi.forGo]at p;cases eb:zAR tg ds[i]with
  |none=>rw[eb]at p;exact p.elim
  |some bs=>
   rw[eb]at p
   try dsimp only at p
   refine hT G2 H2 _ _ x bs _ x2.in' r2 eb fun ws hb=>?_
   obtain⟨As2,a2⟩:=Sat.puts hb (a.wider x2);have a3:Sat G0 H0 GJ (zEN σ ws) (zAU ρ bs) G2 H2 As2:=⟨a2.ext,sJ.trans x2.g,a2.tab,a2.len,a2.at,a2.dis,a2.new⟩
   have key:∀(S1:Hp),Same S0 S1->Same GJ S1->Sat G0 H0 S1 (zEN σ ws) (zAU ρ bs) G2 H2 As2->t { D with nx:=fun σ' H'=>i+1<=ds.length/\∃ρ G As,Sat G0 H0 S0 σ' ρ G H' As/\Same GJ G/\zD4 mg E G0 H0 S0 L (Mi.forGo tg m (ds.drop (i+1)) ρ) D,ct:=fun σ' H'=>i+1<=ds.length/\∃ρ G As,Sat G0 H0 S0 σ' ρ G H' As/\Same GJ G/\zD4 mg E G0 H0 S0 L (Mi.forGo tg m (ds.drop (i+1)) ρ) D,bk:=D.nx } (zEN σ ws) H2:=by
    intro S1 s1 s2 a4;refine B G0 H0 S1 _ _ G2 H2 As2 _ a4 ?_;have back:∀{σ':St}{ρ':Ro}{G' H':Hp}{As':Nat->Addr->Prop},Sat G0 H0 S1 σ' ρ' G' H' As'->Sat G0 H0 S0 σ' ρ' G' H' As'/\Same GJ G':=fun a5=>⟨⟨a5.ext,s1.trans a5.stb,a5.tab,a5.len,a5.at,a5.dis,a5.new⟩,s2.trans a5.stb⟩
    cases em:m (zAU ρ bs)with
    |none=>rw[em]at p;exact p
    |some r=>
     rw[em]at p;cases r with
     |error y=>exact p
     |ok o=>
      cases o with
      |nx ρ'=>exact fun σ' G' H' As' a5=>⟨hlt,ρ',G',As',(back a5).1,(back a5).2,p⟩
      |ct ρ'=>exact fun σ' G' H' As' a5=>⟨hlt,ρ',G',As',(back a5).1,(back a5).2,p⟩
      |bk ρ'=>exact fun σ' G' H' As' a5=>p σ' G' H' As' (back a5).1
      |rt d=>exact p
   exact key G2 a2.stb (sJ.trans x2.g) ⟨a2.ext,Same.refl _,a2.tab,a2.len,a2.at,a2.dis,a2.new⟩
 ·have e:i=ds.length:=by lia
  subst e;rw[qDk,Mi.forGo]at p;exact .inl ⟨j2 (qA6 _),p σ G H As a⟩
theorem zHU{wi:TI}{it:IM}{g:TG}{tg:Tg}(vs:List Nat){ind:Bool}(I:DI mg E wi it ind)(hT:TgOk g tg)(B:DS mg E L t m):DS mg E L (fun D σ H=>wi σ H (zKV g t D σ)) (Mi.sFor vs it tg m):=by
 intro G0 H0 S0 σ ρ G H As D a p;obtain⟨G1,As1,a1⟩:=Sat.frzAt vs a;refine I.step (errS.from a1.ext) a1.ext.in' a1.frz p fun ds J G2 H2 _ x2 io p1=>?_
 refine zOP hT B io (a1.wider x2) ?_ p1;unfold zMI
 split
 ·exact fun b o e=>by cases e
 ·exact Same.refl _
theorem zF6{wi:TI}{it:IM}{i:Nat}(I:DI mg E wi it true)(B:DS mg E L t m):DS mg E L (fun D σ H=>wi σ H (zKV (zGU i) t D σ)) (Mi.sForR it i m):=by
 intro G0 H0 S0 σ ρ G H As D a p;obtain⟨J,x,s,w⟩:=a.full;refine I.step (errS.from x) x.in' w p fun ds J G2 H2 _ x2 io p1=>?_
 exact zOP (zC7 i) B io (a.grow x2.h) (fun b o e=>by cases e) p1
theorem dz(A:DE mg E te e 0):DE mg E te e 0:=A
theorem zBB{P N:Nat}{vs:List V}{H:Hp}{Q:VK}{E:XK}(h:spM mg L (Mi.runF P N m) vs H Q E):vs.length=P:=by
 obtain⟨G,ds,_,s,r,p⟩:=h;rw[r.length];unfold Mi.runF at p
 split at p
 ·rename_i h;exact h
 ·exact p.elim
theorem zCB{P:Nat}{N:List Str}{vs:List V}{H:Hp}{Q:VK}(B:DS mg E L t m)(h:spM mg L (Mi.runF P N.length m) vs H Q E):t { nx:=fun _ H'=>Q .non H',rt:=Q } (L2.start N vs) H:=by
 obtain⟨G,ds,tb,s,r,p⟩:=h;unfold Mi.runF at p
 split at p
 ·refine B G H G _ (Mi.startO N.length ds) G H (fun _ _=>False) _ ⟨Ext.refl s,Same.refl _,tb,?_,fun i d n e=>?_,fun _ _ _ z=>z.elim,fun _ _ z=>z.elim⟩ ?_
  ·unfold Mi.startO L2.start;simp[r.length]
  ·unfold Mi.startO at e
   by_cases hi:i<ds.length
   ·rw[qAc (by simpa using hi),qAi]at e;cases e1:ds[i]? with
    |none=>rw[e1]at e;cases e
    |some d'=>
     rw[e1]at e;cases e;have hv:vs[i]?=some (vs[i]'(by rw[r.length];exact hi)):=by simp
     refine⟨vs[i]'(by rw[r.length];exact hi),?_,zBM r e1 hv⟩;unfold L2.start;rw[qAc (by simpa[r.length]using hi),qAi,hv];rfl
   ·rw[qA9 (by simpa using hi),qBn]at e
    split at e<;>cases e
  ·cases em:m (Mi.startO N.length ds)with
   |none=>rw[em]at p;exact p
   |some r=>
    rw[em]at p;cases r with
    |error y=>exact p
    |ok o=>
     cases o with
     |nx ρ'=>exact fun σ' G' H' As' a=>PostE.val (d:=.non) p a.ext rfl rfl
     |rt d=>exact p
     |bk ρ'=>exact p.elim
     |ct ρ'=>exact p.elim
 ·exact p.elim
end
end L3
namespace L3
open PySem PySem.Spec
open L2 hiding Rep RepL
open Mi (Dt FM okR)
def sp0(K:qA0)(mg:Str->Option Value)(L:Nat)(f:FM):Sp:=fun vs H Q _=>@spM ⟨K⟩ mg L f vs H Q E0
end L3
namespace L3
open PySem PySem.Spec
open L2 hiding Rep RepL
open Mi (Dt Xn R okR zA3 optR zA0 zA6 zAC zAA zAB Rh Sl Ro EM TM AM FM IM SM OM Tg Out zAR zAQ zAU full frz frz1 frzAt)
section
variable[Kc]{mg:Str->Option Value}{E:XK}{L n k l:Nat}{te ta tb:TE}{e ea eb:EM}{t u:TS}{m m':SM}
theorem zOZ{f:List Dt->Option Dt}{g:Int->Int->Int}{r:List V->Hp->VK->Prop}(hr:∀i j H Q,Q (.int (g i j)) H->r [.int i,.int j] H Q)(hf:∀i j,f [.int i,.int j]=some (.int (g i j)))(hn:∀ds,(∀i j,ds≠[.int i,.int j])->f ds=none):CBi r f n:=by
 intro mg E G H ds vs Q s h p
 by_cases hd:∃i j,ds=[.int i,.int j]
 ·obtain⟨i,j,rfl⟩:=hd;obtain⟨x,y,rfl,hx,hy⟩:=zRF h
  cases(show x=.int i from hx)
  cases(show y=.int j from hy)
  rw[hf]at p;exact hr i j H Q (PostE.val p (Ext.refl s) rfl rfl)
 ·rw[hn ds fun i j e=>hd ⟨i,j,e⟩]at p;exact p.elim
theorem zJ2{f:List Dt->Option Dt}(h1:f []=none)(h2:∀x,f [x]=none)(h3:∀x y z r,f (x::y::z::r)=none)(h4:∀x y,(∀i j,[x,y]≠[.int i,.int j])->f [x,y]=none):∀ds,(∀i j,ds≠[.int i,.int j])->f ds=none:=by
 intro ds h
 match ds,h with
 |[],_=>exact h1
 |[x],_=>exact h2 x
 |[x,y],h=>exact h4 x y h
 |x::y::z::r,_=>exact h3 x y z r
theorem zT7:CBi (fun xs H Q=>∃i j,xs=[.int i,.int j]/\Q (.int (if j>i then j else i)) H) Mi.maxD n:=
 zOZ (g:=fun i j=>if j>i then j else i) (fun i j H Q q=>⟨i,j,rfl,q⟩) (fun _ _=>rfl) (zJ2 rfl (fun x=>by cases x<;>rfl) (fun x y z r=>by cases x<;>cases y<;>rfl) (fun x y h=>by cases x<;>cases y<;>first|rfl|exact absurd rfl (h _ _)))
theorem zT6:CBi (fun xs H Q=>∃i j,xs=[.int i,.int j]/\Q (.int (if j<i then j else i)) H) Mi.minD n:=
 zOZ (g:=fun i j=>if j<i then j else i) (fun i j H Q q=>⟨i,j,rfl,q⟩) (fun _ _=>rfl) (zJ2 rfl (fun x=>by cases x<;>rfl) (fun x y z r=>by cases x<;>cases y<;>rfl) (fun x y h=>by cases x<;>cases y<;>first|rfl|exact absurd rfl (h _ _)))
theorem zIL{G:Hp}{d:Dt}{v:V}(h:Rep G d v)(hd:d.dep=0):zDL v=true:=(zCQ (by lia) h).flat (qEz.mp (qAm (zDD (by lia)) (qD2 hd)))
theorem zM2{G:Hp}{d e:Dt}{v u:V}(h:Rep G d v)(h':Rep G e u)(hd:d.dep=0)(he:e.dep=0):eqV v u=Dt.eq d e:=by
 rw[<- zIQ (by lia) (by lia)];exact(zCQ (by lia) h).flatEq (zCQ (by lia) h') (qEz.mp (qAm (zDD (by lia)) (qD2 hd))) (qEz.mp (qAm (zDD (by lia)) (qD2 he)))
theorem zQ6{G:Hp}{d:Dt}{v:V}(h:Rep G d v)(hd:d.dep=0):∀{ds:List Dt}{vs:List V},RepL G ds vs->Dt.depL ds=0->vs.all zDL=true/\inV v vs=ds.any fun y=>Dt.eq y d
 |[],vs,r,_=>by cases(show vs=[] from r);exact⟨rfl,rfl⟩
 |e::ds,vs,r,hz=>by
  obtain⟨x,q,rfl,a,b⟩:=r;rw[Dt.depL]at hz;obtain⟨h1,h2⟩:=zQ6 h hd b (by lia);have he:e.dep=0:=by lia
  refine⟨by simp[zIL a he,h1],?_⟩;unfold inV at h2 ⊢;rw[qDc,qDc,h2,zM2 a h he hd]
theorem zTP{ng:Bool}:ROp (rInU Kc.K ng) (Mi.inD ng) n:=by
 intro mg E G H d e x y Q s h1 h2 p;cases e with
 |lst ys=>
  obtain⟨a,vs,rfl,ha,r⟩:=h2;unfold Mi.inD Mi.hasD at p;dsimp only at p
  by_cases hz:d.dep=0/\Dt.depL ys=0
  ·rw[if_pos hz]at p;obtain⟨g1,g2⟩:=zQ6 h1 hz.1 r hz.2;refine⟨vs,.inl (SqL.of (s _ _ ha)),zIL h1 hz.1,g1,?_⟩;rw[g2];exact PostE.val p (Ext.refl s) rfl rfl
  ·rw[if_neg hz]at p;exact p.elim
 |tup ys=>
  obtain⟨a,vs,rfl,ha,r⟩:=h2;unfold Mi.inD Mi.hasD at p;dsimp only at p
  by_cases hz:d.dep=0/\Dt.depL ys=0
  ·rw[if_pos hz]at p;obtain⟨g1,g2⟩:=zQ6 h1 hz.1 r hz.2;refine⟨vs,.inr (SqT.of (s _ _ ha)),zIL h1 hz.1,g1,?_⟩;rw[g2];exact PostE.val p (Ext.refl s) rfl rfl
  ·rw[if_neg hz]at p;exact p.elim
 |str z=>
  cases(show y=.str z from h2)
  cases d with
  |str w=>
   cases(show x=.str w from h1)
   obtain⟨⟨wl⟩⟩:=w;cases wl with
   |nil=>exact qA4 p
   |cons c tl1=>
    cases tl1 with
    |nil=>
     have p':PostE mg E G H n (okR (.bl (if ng=true then !decide (c∈z.cps.toList)else decide (c∈z.cps.toList)))) Q:=p;have q:=PostE.val (v:=.bl (if ng=true then !decide (c∈z.cps.toList)else decide (c∈z.cps.toList))) p' (Ext.refl s) rfl rfl;rw[<- StrLaws.found_one z c]at q;exact q
    |cons _ _=>exact qA4 p
  |_=>exact p.elim
 |_=>exact p.elim
def DO(mg:Str->Option Value)(E:XK)(t:TO)(m:OM):Prop:=∀(G H:Hp)(σ:St)(ρ:Rh)(Q:Option Int->Hp->Prop),Same G H->View G σ ρ ->
 (match m ρ with
  |none=>False
  |some (.error x)=>∀c da G' H',Ext G H G' H'->XRep mg x c da G' H'->E c da H'
  |some (.ok o)=>∀H',Same H H'->Q o H')->t σ H Q
theorem DO.step{β:Type}{t:TO}{m:OM}(D:DO mg E t m){G H:Hp}{σ:St}{ρ:Rh}{Q:Option Int->Hp->Prop}{P:R β->Prop}{f:Option Int->R β}(hE:Err mg E G H P)(s:Same G H)(w:View G σ ρ)(p:P (zA3 (m ρ) f))
  (h:∀b H',m ρ=okR b->Same H H'->P (f b)->Q b H'):t σ H Q:=by
 refine D G H σ ρ Q s w ?_;cases e:m ρ with
 |none=>rw[e]at p;exact hE.no p
 |some r=>
  rw[e]at p;cases r with
  |error x=>exact hE.er x p
  |ok b=>exact fun H' sH=>h b H' e sH p
theorem zQC:DO mg E zKT Mi.oNo:=fun G H σ ρ Q s w p=>p H (Same.refl _)
theorem do_e(A:DE mg E te e k):DO mg E (zR5 te) (Mi.oE e):=by
 intro G H σ ρ Q s w p;unfold Mi.oE at p;refine(zB0 A).step (P:=fun r=>match r with
  |none=>False
  |some (.error x)=>∀c da G' H',Ext G H G' H'->XRep mg x c da G' H'->E c da H'
  |some (.ok o)=>∀H',Same H H'->Q o H') ⟨fun h=>h,fun _ h=>h⟩ s w p fun d v G1 H1 S _ fr o p1=>?_
 cases d with
 |int i=>exact⟨i,o,p1 H1 fr.ext.h⟩
 |_=>exact p1.elim
theorem zK0(n d:Nat)(o:Option Int):Mi.cutIx n d o=HT.sIx n d o:=by cases o<;>rfl
theorem zHG{G:Hp}:∀{ds:List Dt}{xs:List V}(i:Nat),RepL G ds xs->RepL G (ds.drop i) (xs.drop i)
 |ds,xs,0,r=>by simpa using r
 |[],xs,i+1,r=>by cases(show xs=[] from r);exact rfl
 |d::ds,xs,i+1,r=>by
  obtain⟨x,q,rfl,a,b⟩:=r;exact zHG i b
theorem zHF{G:Hp}:∀{ds:List Dt}{xs:List V}(i:Nat),RepL G ds xs->RepL G (ds.take i) (xs.take i)
 |ds,xs,0,r=>by simp;exact rfl
 |[],xs,i+1,r=>by cases(show xs=[] from r);exact rfl
 |d::ds,xs,i+1,r=>by
  obtain⟨x,q,rfl,a,b⟩:=r;exact⟨x,_,rfl,a,zHF i b⟩
theorem zMU{G:Hp}{ds:List Dt}{xs:List V}(r:RepL G ds xs)(lo hi:Option Int):RepL G (Mi.cutA ds lo hi) (cutV xs lo hi):=by
 unfold Mi.cutA cutV;rw[zK0,zK0,r.length];exact zHF _ (zHG _ r)
def RSl(r:V->Option Int->Option Int->Hp->VK->Prop)(n:Nat):Prop:=∀(mg:Str->Option Value)(E:XK)(G H:Hp)(d:Dt)(x:V)(lo hi:Option Int)(Q:VK),Same G H->Rep G d x->PostE mg E G H n (optR (Mi.slD d lo hi)) Q->r x lo hi H Q
theorem zSY{r:V->Option Int->Option Int->Hp->VK->Prop}{tl th:TO}{ml mh:OM}(hr:RSl r n)(A:DE mg E te e k)(B:DO mg E tl ml)(C:DO mg E th mh):DE mg E (tSl r te tl th) (Mi.eSl e ml mh) n:=by
 intro G H σ ρ Q s w p;refine(zB0 A).step errE s w p fun d v G1 H1 S _ fr o p1=>?_
 refine B.step (errE.from fr.ext) fr.ext.in' (w.mono fr.ext.g) p1 fun lo H2 _ s2 p2=>?_
 have x2:=fr.ext.trans (Ext.same fr.ext.in' s2);refine C.step (errE.from x2) x2.in' (w.mono fr.ext.g) p2 fun hi H3 _ s3 p3=>?_
 have x3:=x2.trans (Ext.same x2.in' s3);exact hr mg E G1 H3 d v lo hi Q x3.in' o (PostE.from p3 x3)
theorem zJX(i:Nat){n0 n1:Nat}{t0 t1 t2:TE}{e0 e1 e2:EM}(Z:DE mg E t0 e0 n0)(A:DE mg E t1 e1 n1)(B:DE mg E t2 e2 n)(hn:n<1000:=by decide):DS mg E L (tAsg t2 (gSub (tOp (rIxU Kc.K) (vM i) t0) t1 setM)) (Mi.sItem2 i n e0 e1 e2):=by
 intro G0 H0 S0 σ ρ G H As D a p;obtain⟨J,x,s,w⟩:=a.full;refine B.step (errS.from x) x.in' w p fun d y G1 H1 S _ fr o p1=>?_
 cases er:ρ[i]? with
 |none=>rw[er]at p1;exact p1.elim
 |some sl=>
  rw[er]at p1
  match sl,er,p1 with
  |none,_,p=>exact p.elim
  |some (.lst rs,k+2),er,p1=>
   obtain⟨v,h1,q,xs,T,rfl,hq,kd⟩:=a.at i _ _ er;unfold gSub tOp vM;rw[h1];have x1:Ext J H J H1:=Ext.same x.in' fr.ext.h;refine(zB0 Z).step (errS.from (x.trans x1)) x1.in' w p1 fun z0 u0 G2 H2 S2 _ fr2 o2 p2=>?_
   cases z0 with
   |int y0=>
    cases(show u0=.int y0 from o2)
    dsimp only at p2;cases ei:Mi.ixA rs.length y0 with
    |none=>rw[ei]at p2;exact p2.elim
    |some c=>
     rw[ei]at p2;dsimp only at p2;cases erow:rs[c]? with
     |none=>rw[erow]at p2;exact p2.elim
     |some row=>
      rw[erow]at p2;cases row with
      |lst ds=>
       have hc:c<xs.length:=by rw[kd.len];exact(qA2.mp erow).1
       have hxc:xs[c]?=some xs[c]:=qAq hc;obtain⟨qr,ys,U,er2,hqr,kr⟩:=kd.own c _ _ erow hxc;have sH2:=fr.ext.h.trans fr2.ext.h;refine⟨xs,xs[c],.inl (SqL.of (sH2 _ _ hq)),?_,?_⟩
       ·unfold atI;rw[kd.len,<- zOK,ei];exact hxc
       have x2:Ext J H J H2:=Ext.same x.in' sH2;refine(zB0 A).step (errS.from (x.trans x2)) x2.in' w p2 fun z u G3 H3 S3 _ fr3 o3 p3=>?_
       cases z with
       |int z=>
        cases(show u=.int z from o3)
        dsimp only at p3;cases ez:Mi.ixA ds.length z with
        |none=>rw[ez]at p3;exact p3.elim
        |some c2=>
         rw[ez]at p3;dsimp only at p3
         split at p3
         ·rename_i hz
          rw[zOK]at ez;obtain⟨q1,q2⟩:=whole (k:=k) a s fr o hn hz.1 hz.2;have sH:=sH2.trans fr3.ext.h;rw[er2];refine⟨ys,c2,sH _ _ hqr,by rw[kr.len];exact ez,?_⟩;have a1:=a.grow sH;have tqr:T c qr:=kr.top;have iqr:As i qr:=kd.sub c qr tqr;have nS:¬S qr:=fun z=>(a.new i qr iqr).2.2 (q2 qr z).1
          have qne:q≠qr:=fun z=>kd.out c (z▸tqr)
          have fresh:∀b,As i b->S b->False:=fun b z1 z2=>(a.new i b z1).2.2 (q2 b z2).1
          have kr1:Kids (Own G H3 k) (T c) qr ds ys U:=kr.imp (fun _ _ _ _ w=>w.mono (Same.refl _) sH) fun _ z=>z
          have rowK:=kr1.set (p:=qr) (o:=.lst (ys.set c2 y)) c2 ((q1.mono (Same.refl _) (fr2.ext.h.trans fr3.ext.h)).upd nS) (fun r _=>kr.out r) nS (fun r b _ z1 z2=>fresh b (kd.sub c b (kr.sub r b z1)) z2);refine p3 σ G _ _ (a1.store (S:=fun b=>As i b\/S b) (d:=.lst (rs.set c (.lst (ds.set c2 d)))) (n:=k+2) (v:=.ref q) iqr h1 ⟨q,xs,fun r b=>if r=c then T c b\/S b else T r b,rfl,(zA9 qne).trans (sH _ _ hq),⟨by simp[kd.len],fun r d' xr g1 g2=>?_,.inl kd.top,fun r=>?_,fun r r' b z1 z2=>?_,fun r b z=>?_⟩⟩ fun b z=>?_)
          ·by_cases hr:c=r
           ·subst hr;rw[qAd (by rw[<- kd.len];exact hc)]at g1;cases g1;rw[hxc]at g2;cases g2;refine⟨qr,_,_,er2,zAD,rowK.imp (fun _ _ _ _ w=>w) fun b z=>?_⟩;rw[if_pos rfl];exact z
           ·rw[qAf hr]at g1;have nr:¬T r qr:=fun z=>hr (kd.dis c r qr tqr z)
            exact(((kd.own r d' xr g1 g2).mono (Same.refl _) sH).upd nr).sub fun b z=>by rw[if_neg (fun z=>hr z.symm)];exact z
          ·try dsimp only
           split
           ·exact fun z=>z.elim (kd.out c) fun z=>fresh q kd.top z
           ·exact kd.out r
          ·try dsimp only at z1 z2
           by_cases g1:r=c<;>by_cases g2:r'=c
           ·rw[g1,g2]
           ·rw[if_pos g1]at z1;rw[if_neg g2]at z2
            rcases z1 with z1|z1
            ·rw[g1];exact kd.dis c r' b z1 z2
            ·exact(fresh b (kd.sub r' b z2) z1).elim
           ·rw[if_neg g1]at z1;rw[if_pos g2]at z2
            rcases z2 with z2|z2
            ·rw[g2];exact kd.dis r c b z1 z2
            ·exact(fresh b (kd.sub r b z1) z2).elim
           ·rw[if_neg g1]at z1;rw[if_neg g2]at z2;exact kd.dis r r' b z1 z2
          ·try dsimp only at z
           by_cases g1:r=c
           ·rw[if_pos g1]at z
            rcases z with z|z
            ·exact .inl (kd.sub c b z)
            ·exact .inr z
           ·rw[if_neg g1]at z;exact .inl (kd.sub r b z)
          ·rcases z with z|z
           ·exact .inl z
           ·obtain⟨n1,n2,n3⟩:=q2 b z;exact .inr ⟨a.ext.h.free n1,n2,(fr2.ext.h.trans fr3.ext.h).some n3,fun j y=>(a.new j b y).2.2 n1⟩
         ·exact p3.elim
       |_=>exact p3.elim
      |_=>exact p2.elim
   |_=>exact p2.elim
  |some (.lst ds,0),_,p=>exact p.elim
  |some (.lst ds,1),_,p=>exact p.elim
  |some (.non,_),_,p=>exact p.elim
  |some (.bl _,_),_,p=>exact p.elim
  |some (.int _,_),_,p=>exact p.elim
  |some (.str _,_),_,p=>exact p.elim
  |some (.tup _,_),_,p=>exact p.elim
  |some (.scr _,_),_,p=>exact p.elim
  |some (.exc _ _ _,_),_,p=>exact p.elim
  |some (.fn _ _,_),_,p=>exact p.elim
  |some (.ins _ _,_),_,p=>exact p.elim
  |some (.dct _,_),_,p=>exact p.elim
end
end L3
namespace L3
open PySem PySem.Spec
open L2 hiding Rep RepL
open Mi (Dt Xn R okR zA3 optR zA0 zA6 zAC zAA zAB Rh Sl Ro EM TM AM FM IM SM OM Tg Out zAR zAQ zAU full frz frz1 frzAt)
section
variable[Kc]{mg:Str->Option Value}{E:XK}{L n k l:Nat}{te ta tb:TE}{e ea eb ma:EM}{t:TA}{m:AM}
theorem rs_u:RSl (rSlU Kc.K) 1:=by
 intro mg E G H d x lo hi Q s h p;cases d with
 |lst ds=>
  obtain⟨a,xs,rfl,ha,r⟩:=h;exact⟨xs,SqL.of (s _ _ ha),fun q hq=>PostE.lst p (Ext.refl s) (zMU r lo hi) hq⟩
 |str z=>
  cases(show x=.str z from h)
  rw[Mi.slD]at p
  by_cases hz:z.length<=100000
  ·rw[if_pos hz]at p;exact⟨big' hz,PostE.val p (Ext.refl s) rfl rfl⟩
  ·rw[if_neg hz]at p;exact p.elim
 |_=>exact p.elim
theorem zQD{tl th:TO}{ml mh:OM}(A:DE mg E te e k)(B:DO mg E tl ml)(C:DO mg E th mh):DE mg E (tSl (rSlU Kc.K) te tl th) (Mi.eSl e ml mh) 1:=zSY rs_u A B C
theorem zSL{G:Hp}(z:Str):ItOk (Its z) G (Mi.signsD z):=by
 intro i G1 H1 s1 s2;have hl:(Mi.signsD z).length=z.cps.size:=by simp[Mi.signsD]
 refine⟨fun hi=>by rw[hl]at hi;exact hi,fun hi=>by rw[hl]at hi;exact hi,fun x H2 d hd hy=>?_⟩;obtain⟨rfl,c,hc,rfl⟩:=hy;refine⟨G1,Ext.refl s2,?_⟩;unfold Mi.signsD at hd;rw[qAi]at hd;have hc':z.cps.toList[i]?=some c:=by simpa using hc
 rw[hc']at hd;cases hd;rfl
theorem zFZ(A:DE mg E ta ma k):DI mg E (iAny Kc.K ta) (Mi.iSq ma) false:=by
 intro G H σ ρ Q s w p;refine(zB0 A).step errI s w p fun d v G1 H1 S _ fr o p1=>?_
 cases d with
 |lst ds=>
  obtain⟨a,xs,rfl,ha,r⟩:=o;exact .inl ⟨⟨xs,SqL.of (fr.ext.in' _ _ ha)⟩,p1 _ G1 H1 fr.ext (zOM (SqL.of ha) r)⟩
 |tup ds=>
  obtain⟨a,xs,rfl,ha,r⟩:=o;exact .inr ⟨⟨xs,SqT.of (fr.ext.in' _ _ ha)⟩,p1 _ G1 H1 fr.ext (zOL (SqT.of ha) r)⟩
 |scr ns=>
  obtain⟨a,rfl,ha⟩:=o
  rcases ha with ha|ha
  ·exact .inl ⟨⟨_,fr.ext.in'.seq ha⟩,p1 _ G1 H1 fr.ext (zOM ha (zC3 ns))⟩
  ·exact .inr ⟨⟨_,zEP fr.ext.in' ha⟩,p1 _ G1 H1 fr.ext (zOL ha (zC3 ns))⟩
 |str z=>
  cases(show v=.str z from o)
  exact p1 _ G1 H1 fr.ext (zSL z)
 |_=>exact p1.elim
theorem zIZ:∀(xs ys:List Dt),(Mi.zipD xs ys).length=min xs.length ys.length
 |[],ys=>by simp[Mi.zipD]
 |_::_,[]=>by simp[Mi.zipD]
 |x::r,y::q=>by rw[Mi.zipD,qAv,zIZ r q,qAv,qAv];lia
theorem zJ0:∀(xs ys:List Dt)(i:Nat)(d:Dt),(Mi.zipD xs ys)[i]?=some d->∃x y,xs[i]?=some x/\ys[i]?=some y/\d=.tup [x,y]
 |[],ys,_,_,h=>by simp[Mi.zipD]at h
 |_::_,[],_,_,h=>by simp[Mi.zipD]at h
 |x::r,y::q,0,d,h=>by simp[Mi.zipD]at h;exact⟨x,y,by simp,by simp,h.symm⟩
 |x::r,y::q,i+1,d,h=>by
  rw[Mi.zipD]at h;obtain⟨a,b,h1,h2,h3⟩:=zJ0 r q i d (by simpa using h);exact⟨a,b,by simpa using h1,by simpa using h2,h3⟩
theorem zSK{K:qA0}{G:Hp}{a b:Addr}{xs ys:List V}{ds es:List Dt}(ha:G a=some (.lst xs))(r:RepL G ds xs)(hb:G b=some (.lst ys))(r':RepL G es ys):ItOk (Itz K a b) G (Mi.zipD ds es):=by
 intro i G1 H1 s1 s2;have hS:SqL K H1 a xs:=SqL.of (s2 _ _ (s1 _ _ ha));have hS':SqL K H1 b ys:=SqL.of (s2 _ _ (s1 _ _ hb));have l1:=r.length;have l2:=r'.length;rw[zIZ];refine⟨fun hi=>⟨xs,ys,xs[i]'(by lia),ys[i]'(by lia),hS,hS',by simp,by simp⟩,fun hi=>⟨xs,ys,hS,hS',by lia⟩,fun x H2 d hd hy=>?_⟩;obtain⟨T,u,v,rfl,hT,rfl,h1,h2⟩:=hy;obtain⟨p,q,g1,g2,rfl⟩:=zJ0 ds es i d hd;have x1:=Ext.new s2 hT (.tup [u,v]);exact⟨_,x1,T,_,rfl,zAD,_,_,rfl,Rep.mono (s1.trans x1.g) (zBM r g1 (h1 xs hS)),_,_,rfl,Rep.mono (s1.trans x1.g) (zBM r' g2 (h2 ys hS')),rfl⟩
theorem zSX(A:DA mg E t m 0):DI mg E (iZip Kc.K t) (Mi.iZi m) false:=by
 intro G H σ ρ Q s w p;refine A.step errI s w p fun ds vs G1 H1 S T _ fr o p1=>?_
 have r:=o.repL;cases ds with
 |nil=>exact p1.elim
 |cons a0 r0=>
  cases a0 with
  |lst xs=>
   cases r0 with
   |nil=>exact p1.elim
   |cons b0 r1=>
    cases r1 with
    |cons _ _=>cases b0<;>exact p1.elim
    |nil=>
     cases b0 with
     |lst ys=>
      obtain⟨x,y,rfl,⟨a,us,rfl,ha,ra⟩,⟨b,ws,rfl,hb,rb⟩⟩:=zRF r;exact⟨⟨us,SqL.of (fr.ext.in' _ _ ha)⟩,⟨ws,SqL.of (fr.ext.in' _ _ hb)⟩,p1 _ G1 H1 fr.ext (zSK ha ra hb rb)⟩
     |_=>exact p1.elim
  |_=>rcases r0 with _|⟨_,_|_⟩<;>exact p1.elim
def RMt(r:V->List V->Hp->VK->Prop)(f:Dt->List Dt->Option Dt)(n:Nat):Prop:=∀(mg:Str->Option Value)(E:XK)(G H:Hp)(z:Str)(ds:List Dt)(vs:List V)(Q:VK),Same G H->RepL G ds vs->PostE mg E G H n (optR (f (.str z) ds)) Q->r (.str z) vs H Q
theorem zT0{r:V->List V->Hp->VK->Prop}{f:Dt->List Dt->Option Dt}(hr:RMt r f n)(A:DE mg E te e k)(B:DA mg E t m 0):DE mg E (tBM Kc.K "str" r te t) (Mi.eMt f e m) n:=by
 intro G H σ ρ Q s w p;refine(zB0 A).step errE s w p fun d v G1 H1 S _ fr o p1=>?_
 cases d with
 |str z=>
  cases(show v=.str z from o)
  refine⟨rfl,?_⟩;have p2:PostE mg E G H n (zA3 (m ρ) fun xs=>optR (f (.str z) xs)) Q:=p1;refine B.step (errE.from fr.ext) fr.ext.in' (w.mono fr.ext.g) p2 fun ds vs G2 H2 S2 T2 _ fr2 o2 p3=>?_
  exact hr mg E G2 H2 z ds vs Q fr2.ext.in' o2.repL (PostE.from p3 (fr.ext.trans fr2.ext))
 |_=>exact p1.elim
theorem zRE{r:V->List V->Hp->VK->Prop}{f:Dt->List Dt->Option Dt}(hf:∀z ds,(∀c,ds≠[.str ⟨#[c]⟩])->f (.str z) ds=none)
  (hr:∀(mg:Str->Option Value)(E:XK)(G H:Hp)(z:Str)(c:Nat)(Q:VK),Same G H->PostE mg E G H n (optR (f (.str z) [.str ⟨#[c]⟩])) Q->r (.str z) [.str ⟨#[c]⟩] H Q):RMt r f n:=by
 intro mg E G H z ds vs Q s h p
 by_cases hd:∃c,ds=[.str ⟨#[c]⟩]
 ·obtain⟨c,rfl⟩:=hd;obtain⟨x,rfl,hx⟩:=zEQ h
  cases(show x=.str ⟨#[c]⟩ from hx)
  exact hr mg E G H z c Q s p
 ·rw[hf z ds fun c e=>hd ⟨c,e⟩]at p;exact p.elim
theorem zN4{f:Dt->List Dt->Option Dt}{z:Str}(h1:f (.str z) []=none)(h2:∀d,(∀y,d≠.str y)->f (.str z) [d]=none)(h3:∀d e r,f (.str z) (d::e::r)=none)(h4:f (.str z) [.str ⟨#[]⟩]=none)(h5:∀a b r,f (.str z) [.str ⟨⟨a::b::r⟩⟩]=none) :
  ∀ds,(∀c,ds≠[.str ⟨#[c]⟩])->f (.str z) ds=none:=by
 intro ds h
 match ds,h with
 |[],_=>exact h1
 |[.str ⟨⟨[]⟩⟩],_=>exact h4
 |[.str ⟨⟨[c]⟩⟩],h=>exact absurd rfl (h c)
 |[.str ⟨⟨a::b::r⟩⟩],_=>exact h5 a b r
 |[.non],_=>exact h2 _ fun _ e=>by cases e
 |[.bl _],_=>exact h2 _ fun _ e=>by cases e
 |[.int _],_=>exact h2 _ fun _ e=>by cases e
 |[.lst _],_=>exact h2 _ fun _ e=>by cases e
 |[.tup _],_=>exact h2 _ fun _ e=>by cases e
 |[.scr _],_=>exact h2 _ fun _ e=>by cases e
 |[.exc _ _ _],_=>exact h2 _ fun _ e=>by cases e
 |[.fn _ _],_=>exact h2 _ fun _ e=>by cases e
 |[.ins _ _],_=>exact h2 _ fun _ e=>by cases e
 |[.dct _],_=>exact h2 _ fun _ e=>by cases e
 |d::e::r,_=>exact h3 d e r
theorem zPH:RMt zSS Mi.findD n:=zRE (fun z=>zN4 rfl (fun d h=>by cases d<;>first|rfl|exact absurd rfl (h _)) (fun d e r=>by cases d<;>rfl) rfl fun a b r=>rfl) fun mg E G H z c Q s p=>by
 show Q (.int (Txt.find z ⟨#[c]⟩)) H;rw[zNQ];exact PostE.val p (Ext.refl s) rfl rfl
theorem zJ7{G:Hp}:∀{ds:List Dt}{zs:List Str}{xs:List V},Mi.strsD ds=some zs->RepL G ds xs->xs=zs.map V.str
 |[],zs,xs,h,r=>by cases h;exact r
 |.str b::ds,zs,xs,h,r=>by
  obtain⟨x,q,rfl,a,c⟩:=r;rw[Mi.strsD]at h;cases e:Mi.strsD ds with
  |none=>rw[e]at h;cases h
  |some cs=>
   rw[e]at h;cases h;rw[zJ7 e c,show x=.str b from a];rfl
 |.non::_,_,_,h,_=>by simp[Mi.strsD]at h
 |.int _::_,_,_,h,_=>by simp[Mi.strsD]at h
 |.bl _::_,_,_,h,_=>by simp[Mi.strsD]at h
 |.lst _::_,_,_,h,_=>by simp[Mi.strsD]at h
 |.tup _::_,_,_,h,_=>by simp[Mi.strsD]at h
 |.scr _::_,_,_,h,_=>by simp[Mi.strsD]at h
 |.exc _ _ _::_,_,_,h,_=>by simp[Mi.strsD]at h
 |.fn _ _::_,_,_,h,_=>by simp[Mi.strsD]at h
 |.ins _ _::_,_,_,h,_=>by simp[Mi.strsD]at h
 |.dct _::_,_,_,h,_=>by simp[Mi.strsD]at h
theorem zPG:RMt zSG Mi.joinD n:=by
 intro mg E G H z ds vs Q s h p;cases ds with
 |nil=>exact qA4 p
 |cons hd1 tl1=>
  cases hd1 with
  |lst es=>
   cases tl1 with
   |nil=>
    obtain⟨x,rfl,a,xs,rfl,ha,ra⟩:=zEQ h;have p':PostE mg E G H n (optR (match Mi.strsD es with
     |some zs=>@ite _ ((zs.map (·.length)).sum+zs.length*z.length<=100000) (qA1 _) (some (.str (Str.join z zs))) none
     |none=>none)) Q:=p
    cases e:Mi.strsD es with
    |none=>rw[e]at p';exact p'.elim
    |some zs=>
     rw[e]at p';dsimp only at p'
     split at p'
     ·rename_i hz
      exact⟨zs,by rw[<- zJ7 e ra];exact s _ _ ha,by lia,PostE.val p' (Ext.refl s) rfl rfl⟩
     ·exact p'.elim
   |cons _ _=>exact qA4 p
  |_=>exact qA4 p
end
end L3
namespace Mi
open PySem
noncomputable section
def noE{α:Type}(r:R α):R α:=match r with
 |some (.ok a)=>okR a
 |_=>none
def eCallN(f:FM)(am:AM):EM:=fun ρ=>zA3 (am ρ) fun ds=>noE (f ds)
def eMkX(c f:Str)(am:AM):EM:=fun ρ=>zA3 (am ρ) fun ds=>match ds with
 |[d]=>okR (.exc c f d)
 |_=>none
def sRaise(c f:Str)(am:AM):SM:=fun r=>zA3 (am (full r)) fun ds=>match ds with
 |[d]=>some (.error ⟨c,f,d⟩)
 |_=>none
def sRaise0(c:Str)(am:AM):SM:=fun r=>zA3 (am (full r)) fun ds=>@ite _ (ds.length<=1000) (qA1 _) (some (.error ⟨c,"",.non⟩)) none
def eAtX(hs:List Str)(f:Str)(a:EM):EM:=fun ρ=>zA3 (a ρ) fun d=>match d with
 |.exc c g x=>if c∈hs/\g=f then okR x else none
 |_=>none
def eIsX(ys ns:List Str)(a:EM):EM:=fun ρ=>zA3 (a ρ) fun d=>match d with
 |.exc c _ _=>if c∈ys then okR (.bl true)else if c∈ns then okR (.bl false)else none
 |_=>none
noncomputable def goneO(i:Nat):Out->Out
 |.nx r=>.nx (r.set i none)
 |.rt d=>.rt d
 |.bk r=>.bk (r.set i none)
 |.ct r=>.ct (r.set i none)
def sTry(vs:List Nat)(j:Option Nat)(e:EM)(hs:List Str)(i:Nat)(s:SM):SM:=fun r=>match e (frz (frzAt vs r))with
 |none=>none
 |some (.ok d)=>okR (.nx (match j with|none=>frzAt vs r|some j=>(frzAt vs r).set j (some (d,0))))
 |some (.error x)=>if x.cls∈hs then zA3 (s ((frzAt vs r).set i (some (.exc x.cls x.f x.d,0)))) fun o=>okR (goneO i o)else none
end
end Mi
namespace L3
open PySem PySem.Spec
open L2 hiding Rep RepL
open Mi (Dt Xn R okR zA3 optR zA0 zA6 zAC zAA zAB Rh Sl Ro EM TM AM FM IM SM OM Tg Out zAR zAQ zAU full frz frz1 frzAt)
section
variable[Kc]{mg:Str->Option Value}{E:XK}{L n k l:Nat}{te ta tb:TE}{e ea eb ma:EM}{t:TA}{m:AM}
theorem zNU{f:FM}(A:DA mg E t m 0):DE mg E (zID (spM mg n f) [] E0 t) (Mi.eCallN f m) n:=by
 intro G H σ ρ Q s w p;refine A.step errE s w p fun ds vs G1 H1 S T _ fr o p1=>?_
 refine⟨G1,ds,w.tab.trans fr.ext.g,fr.ext.in',by rw[qBi];exact o.repL,?_⟩;have p2:=PostE.from p1 fr.ext;cases e:f ds with
 |none=>rw[e]at p2;exact p2
 |some r=>
  rw[e]at p2;cases r with
  |error x=>exact p2.elim
  |ok d=>exact p2
def zEM(K:qA0)(f:Str):Sp:=fun vs H Q _=>∃e C y,vs=[.ref e,y]/\H e=some (xn e (.ref C) none)/\PySem.W.xcIn K C=true/\XSet K C f/\∀d,H d=none->d≠e->Q .non (upd (upd H d (.xd [(f,y)])) e (xn e (.ref C) (some d)))
theorem madeX{G H:Hp}{a e C:Addr}{f:Str}{y:V}{d:Dt}{o:HO}(s:Same G H)(ha:H a=none)(he:H e=none)(hne:a≠e)(r:Rep G d y) :
  Ext G H (upd (upd G a (.xd [(f,y)])) e o) (upd (upd H a (.xd [(f,y)])) e o)/\Rep (upd (upd G a (.xd [(f,y)])) e o) d y:=by
 have sg:Same G (upd (upd G a (.xd [(f,y)])) e o):=fun b u hb=>by
  have h1:b≠e:=fun z=>by rw[z]at hb;rw[s _ _ hb]at he;cases he
  have h2:b≠a:=fun z=>by rw[z]at hb;rw[s _ _ hb]at ha;cases ha
  rw[zA9 h1,zA9 h2];exact hb
 have sh:Same H (upd (upd H a (.xd [(f,y)])) e o):=fun b u hb=>by
  have h1:b≠e:=fun z=>by rw[z,he]at hb;cases hb
  have h2:b≠a:=fun z=>by rw[z,ha]at hb;cases hb
  rw[zA9 h1,zA9 h2];exact hb
 refine⟨⟨sg,sh,fun b u hb=>?_,fun b hb=>?_⟩,Rep.mono sg r⟩
 ·by_cases h1:b=e
  ·rw[h1,zAD]at hb;rw[h1,zAD];exact hb
  ·rw[zA9 h1]at hb;rw[zA9 h1]
   by_cases h2:b=a
   ·rw[h2,zAD]at hb;rw[h2,zAD];exact hb
   ·rw[zA9 h2]at hb;rw[zA9 h2];exact s _ _ hb
 ·have h1:b≠e:=fun z=>hb (by rw[z];exact he)
  have h2:b≠a:=fun z=>hb (by rw[z];exact ha)
  rw[zA9 h1,zA9 h2]
theorem zRG{G:Hp}{ds:List Dt}{vs:List V}(r:RepL G ds vs){d:Dt}(h:ds=[d]):∃y,vs=[y]/\Rep G d y:=by
 subst h;obtain⟨x,q,rfl,a,b⟩:=r
 cases(show q=[] from b)
 exact⟨x,rfl,a⟩
theorem zNS{c f:Str}{C:Addr}{E':XK}(hC:clK Kc.K c=some C)(hx:PySem.W.xcIn Kc.K C=true)(hs:XSet Kc.K C f)(A:DA mg E t m 0):DS mg E L (zJ4 Kc.K E (zJ5 C (zEM Kc.K f) E' t)) (Mi.sRaise c f m):=by
 intro G0 H0 S0 σ ρ G H As D a p;obtain⟨J,x,s,w⟩:=a.full;refine A.step (errS.from x) x.in' w p fun ds vs G1 H1 S T _ fr o p1=>?_
 cases ds with
 |nil=>exact qA4 p1
 |cons d tl1=>
  cases tl1 with
  |nil=>
   obtain⟨y,rfl,r⟩:=zRG o.repL rfl;refine⟨by show 1<=sizeLine;decide,fun e he=>⟨e,C,y,rfl,zAD,hx,hs,fun b hb hne=>⟨rfl,e,C,some b,rfl,zAD,hx,?_⟩⟩⟩;have hb':H1 b=none:=by rw[zA9 hne]at hb;exact hb
   have hu:upd (upd (upd (upd H1 e (xn e (.ref C) none)) b (.xd [(f,y)])) e (xn e (.ref C) (some b))) e (xo e (.ref C) (some b))=upd (upd H1 b (.xd [(f,y)])) e (xo e (.ref C) (some b)):=by
    funext z
    by_cases h1:z=e
    ·rw[h1,zAD,zAD]
    ·rw[zA9 h1,zA9 h1,zA9 h1]
     by_cases h2:z=b
     ·rw[h2,zAD,zAD]
     ·rw[zA9 h2,zA9 h2,zA9 h1]
   rw[hu];obtain⟨x2,r'⟩:=madeX (C:=C) (f:=f) (o:=xo e (.ref C) (some b)) fr.ext.in' hb' he hne r;exact p1 (.ref e) (some b) _ _ ((x.trans fr.ext).trans x2) ⟨e,C,rfl,zAD,hC,.inr ⟨b,_,y,rfl,by rw[zA9 hne,zAD],by simp[qBj],r'⟩⟩
  |cons _ _=>exact qA4 p1
theorem Sat.del{G0 H0 S0:Hp}{σ:St}{ρ:Ro}{G H:Hp}{As:Nat->Addr->Prop}(a:Sat G0 H0 S0 σ ρ G H As)(i:Nat):Sat G0 H0 S0 (σ.set i none) (ρ.set i none) G H As:=by
 refine⟨a.ext,a.stb,a.tab,by simp[a.len],fun j d n e=>?_,a.dis,a.new⟩
 by_cases z:i=j
 ·subst z;have hj:i<ρ.length:=by
   have:=(qA2.mp e).1
   simpa using this
  rw[qAd hj]at e;cases e
 ·rw[qAf z]at e;rw[qAf z];exact a.at j d n e
theorem zM0{G0 H0 S0:Hp}{i:Nat}{r:R Out}{D:Ends}(p:zD4 mg E G0 H0 S0 L (zA3 r fun o=>okR (Mi.goneO i o)) D):zD4 mg E G0 H0 S0 L r (zNK i D):=by
 cases r with
 |none=>exact p
 |some r=>
  cases r with
  |error x=>exact p
  |ok o=>
   cases o with
   |nx ρ=>exact fun σ G H As a=>p _ G H As (a.del i)
   |rt d=>exact p
   |bk ρ=>exact fun σ G H As a=>p _ G H As (a.del i)
   |ct ρ=>exact fun σ G H As a=>p _ G H As (a.del i)
theorem zOV{te:XK->TE}{hs:List Str}{c:Value}{i:Nat}{ts:TS}{sm:SM}(j:Option Nat)(vs:List Nat)(hh:∀c'∈hs,∃C,clK Kc.K c'=some C/\qBr Kc.K (.ref C) c=some true)(A:∀E',DE mg E' (te E') e 0)(B:DS mg E L ts sm) :
  DS mg E L (zO2 Kc.K c i (fun D E' σ H=>te (E' σ) σ H (fun v H1=>match j with|none=>D.nx σ H1|some j=>D.nx (σ.set j (some v)) H1)) ts) (Mi.sTry vs j e hs i sm):=by
 intro G0 H0 S0 σ ρ G H As D a p;obtain⟨G1,As1,a1⟩:=Sat.frzAt vs a;unfold Mi.sTry at p;refine(A _) G1 H σ (frz (frzAt vs ρ)) _ a1.ext.in' a1.frz ?_;cases ee:e (frz (frzAt vs ρ))with
 |none=>rw[ee]at p;exact p
 |some r=>
  rw[ee]at p;cases r with
  |ok d=>
   intro v G2 H2 S fr o;cases j with
   |none=>exact p σ G1 H2 As1 (a1.grow fr.ext.h)
   |some j=>exact p _ G2 H2 _ ((a1.wider fr.ext).put (i:=j) (S:=fun _=>False) (n:=0) (d:=d) (v:=v) o (fun _ z=>z.elim) (fun _ _ _ _ z=>z.elim))
  |error x=>
   by_cases hm:x.cls∈hs
   ·have p':zD4 mg E G0 H0 S0 L (zA3 (sm ((frzAt vs ρ).set i (some (.exc x.cls x.f x.d,0)))) fun o=>okR (Mi.goneO i o)) D:=by
     have p2:zD4 mg E G0 H0 S0 L (if x.cls∈hs then zA3 (sm ((frzAt vs ρ).set i (some (.exc x.cls x.f x.d,0)))) fun o=>okR (Mi.goneO i o)else none) D:=p;rw[if_pos hm]at p2;exact p2
    intro c' da G2 H2 x2 hX;obtain⟨e',C,rfl,h1,h2,h3⟩:=hX;obtain⟨C',hc1,hc2⟩:=hh _ hm;rw[h2]at hc1;cases hc1;refine⟨e',.ref C,rfl,x2.in' _ _ h1,hc2,?_⟩;exact B G0 H0 S0 _ _ G2 H2 _ (zNK i D) ((a1.wider x2).put (i:=i) (S:=fun _=>False) (n:=0) (d:=.exc x.cls x.f x.d) (v:=.ref e') ⟨e',C,da,rfl,.inr h1,h2,h3⟩ (fun _ z=>z.elim) (fun _ _ _ _ z=>z.elim)) (zM0 p')
   ·have p2:zD4 mg E G0 H0 S0 L (if x.cls∈hs then zA3 (sm ((frzAt vs ρ).set i (some (.exc x.cls x.f x.d,0)))) fun o=>okR (Mi.goneO i o)else none) D:=p;rw[if_neg hm]at p2;exact p2.elim
theorem zT1{f:Str}{hs:List Str}(hf:∀c∈hs,∃C,clK Kc.K c=some C/\Xc.XIs Kc.K C/\qA3 Kc.K (.ref C) f=some none)(A:DE mg E ta ma k)(hne:f ≠ "":=by decide):DE mg E (zO5 Kc.K ta f) (Mi.eAtX hs f ma) 0:=by
 intro G H σ ρ Q s w p;refine(zB0 A).step errE s w p fun d v G1 H1 S _ fr o p1=>?_
 cases d with
 |exc c g x=>
  obtain⟨e,C,da,rfl,hx,hc,r⟩:=o;dsimp only at p1
  split at p1
  ·rename_i hg
   obtain⟨hm,rfl⟩:=hg;obtain⟨C',hc',c1,c2⟩:=hf c hm;rw[hc]at hc';cases hc'
   rcases r with⟨_,z⟩|⟨a,gs,y,rfl,h1,h2,h3⟩
   ·exact absurd z hne
   ·exact⟨e,C,a,gs,y,rfl,hx.imp (fun z=>fr.ext.in' _ _ z) fun z=>fr.ext.in' _ _ z,fr.ext.in' _ _ h1,c1,c2,h2,PostE.kept p1 fr.ext h3⟩
  ·exact p1.elim
 |_=>exact p1.elim
noncomputable def kitV(K:qA0)(C:Addr):V->Option Bool
 |.ref c=>qB6 K (.ref C) (.ref c)
 |.ty n=>qB6 K (.ref C) (.type n)
 |_=>none
theorem zSN{ys ns:List Str}{ρ:Rh}{P:V->Hp->(V->Hp->Prop)->Prop}{b0:Addr->Bool->Prop}{G H:Hp}{σ:St}{Q:VK}(hy:∀c∈ys,∃C,clK Kc.K c=some C/\Xc.XIs Kc.K C/\b0 C true)(hn:∀c∈ns,∃C,clK Kc.K c=some C/\Xc.XIs Kc.K C/\b0 C false)(A:DE mg E ta ma k)(s:Same G H)(w:View G σ ρ)
  (p:PostE mg E G H 0 (Mi.eIsX ys ns ma ρ) Q) (h:∀e C d G1 H1 b,Ext G H G1 H1->isX H1 e C d->(∀a,d=some a->∃fs,H1 a=some (.xd fs))->Xc.XIs Kc.K C->b0 C b->(∀G2 H2,Ext G1 H1 G2 H2->Q (.bl b) H2)->P (.ref e) H1 Q):ta σ H fun x H1=>P x H1 Q:=by
 refine(zB0 A).step errE s w p fun d v G1 H1 S _ fr o p1=>?_
 cases d with
 |exc c g x=>
  obtain⟨e,C,da,rfl,hx,hc,r⟩:=o;have hx':isX H1 e C da:=hx.imp (fun z=>fr.ext.in' _ _ z) fun z=>fr.ext.in' _ _ z
  have hd:∀a,da=some a->∃fs,H1 a=some (.xd fs):=fun a ea=>by
   rcases r with⟨z,_⟩|⟨a',gs,y,z,h1,_⟩
   ·rw[z]at ea;cases ea
   ·rw[z]at ea;cases ea;exact⟨gs,fr.ext.in' _ _ h1⟩
  dsimp only at p1
  split at p1
  ·rename_i hm
   obtain⟨C',hc',c1,c2⟩:=hy c hm;rw[hc]at hc';cases hc';exact h e C da G1 H1 true fr.ext hx' hd c1 c2 fun G2 H2 x2=>PostE.val p1 (fr.ext.trans x2) rfl rfl
  ·split at p1
   ·rename_i hm
    obtain⟨C',hc',c1,c2⟩:=hn c hm;rw[hc]at hc';cases hc';exact h e C da G1 H1 false fr.ext hx' hd c1 c2 fun G2 H2 x2=>PostE.val p1 (fr.ext.trans x2) rfl rfl
   ·exact p1.elim
 |_=>exact p1.elim
theorem zMB{ys ns:List Str}{y:V}(hy:∀c∈ys,∃C,clK Kc.K c=some C/\Xc.XIs Kc.K C/\kitV Kc.K C y=some true)(hn:∀c∈ns,∃C,clK Kc.K c=some C/\Xc.XIs Kc.K C/\kitV Kc.K C y=some false)(A:DE mg E ta ma k) :
  DE mg E (tCB (zPJ Kc.K) (zDY ta (zDY (tC y) tNil))) (Mi.eIsX ys ns ma) 0:=by
 intro G H σ ρ Q s w p;refine zSN (P:=fun x H1 Q=>zPJ Kc.K [x,y] H1 Q) (b0:=fun C b=>kitV Kc.K C y=some b) hy hn A s w p fun e C d G1 H1 b x1 hx hd c1 c2 q=>?_
 refine⟨e,C,d,y,b,rfl,hx,hd,c1,q G1 H1 (Ext.refl x1.in'),?_⟩;cases y with
 |ref c=>exact .inl ⟨c,rfl,c2⟩
 |ty n=>exact .inr (.inl ⟨n,rfl,c2⟩)
 |_=>cases c2
end
end L3
namespace L3
open PySem PySem.Spec
open L2 hiding Rep RepL
open Mi (Dt Xn R okR zA3 optR zA0 zA6 zAC zAA zAB Rh Sl Ro EM TM AM FM IM SM OM Tg Out zAR zAQ zAU full frz frz1 frzAt)
section
variable{K:qA0}{C D:Addr}{dd:Option Addr}{cd:ClassData}{sl:Array (Option Value)}{b:Bool}
def xcD(C:Addr)(cd:ClassData)(sl:Array (Option Value)):Bool:=match cd.mro,sl.toList with
 |.ref C'::bm,[_,_,_,_,some (.builtin n),_]=>C'==C && !cd.hasDel&&PySem.W.excTail bm&&n == "ValueError.__new__" && cd.hasDict
 |_,_=>false
theorem zI9(h:K.lookup C=some ⟨.type "type",dd,.cls cd,sl⟩)(h':xcD C cd sl=true):PySem.W.xcIn K C=true:=by
 unfold PySem.W.xcIn;rw[h];exact h'
theorem zPS(h:qB3 K C=some cd)(h':PySem.W.excTail cd.mro=true):PySem.W.excOver K C=true:=by
 unfold PySem.W.excOver;rw[h];exact h'
theorem zF2(h1:qB3 K D=some cd)(h2:qB1 K (.ref D)=some (.type "type"))(h3:qAp K (.ref C) (.ref D)=some b):PySem.W.kitCls K (.ref C) (.ref D)=some b:=by
 show(if((qB3 K D).isSome&&qB1 K (.ref D)==some (.type "type"))=true then qAp K (.ref C) (.ref D)else none)=some b
 rw[h1,h2,if_pos (by rw[qE4,Bool.true_and];exact beq_self_eq_true _)];exact h3
theorem zJN(h1:qB3 K D=some cd)(h2:qB1 K (.ref D)=some (.type "type"))(h3:qAp K (.ref C) (.ref D)=some true):qB6 K (.ref C) (.ref D)=some true:=by
 unfold qB6
 split
 ·rfl
 ·exact zF2 h1 h2 h3
theorem zE9(h1:qB3 K D=some cd)(h2:qB1 K (.ref D)=some (.type "type"))(h3:qAp K (.ref C) (.ref D)=some false)(ne:(C==D)=false):qB6 K (.ref C) (.ref D)=some false:=by
 unfold qB6
 split
 ·rename_i z
  have:C=D:=Value.ref.inj (beq_iff_eq.mp z)
  rw[this,beq_self_eq_true]at ne;cases ne
 ·exact zF2 h1 h2 h3
theorem zF1(h3:qAp K (.ref C) (.type "ValueError")=some true):qB6 K (.ref C) (.type "ValueError")=some true:=by
 unfold qB6
 split
 ·rfl
 ·show(if PySem.W.kitMeta "ValueError" = true then qAp K (.ref C) (.type "ValueError")else none)=some true
  rw[if_pos (by decide +kernel)];exact h3
theorem zDB(h0:qAp K (.ref D) (.type "BaseException")=some true)(h1:qB3 K D=some cd)(h2:qB1 K (.ref D)=some (.type "type"))(h3:qAp K (.ref C) (.ref D)=some true):qBr K (.ref C) (.ref D)=some true:=by
 unfold qBr;rw[h0,if_pos (beq_self_eq_true _)];exact zF2 h1 h2 h3
end
structure XCls(K:qA0)(mg:Str->Option Value)(c:Str)(C:Addr):Prop where
 cl:clK K c=some C
 gm:mg c=some (.ref C)
 is:Xc.XIs K C
structure XIni(P:Program)(w:World)(K:qA0)(mg:Str->Option Value)(base:Heap)(c f:Str)(C:Addr):Prop extends XCls K mg c C where
 kp:qAe K (.ref C)=true
 st:XSet K C f
 fa:qA3 K (.ref C) f=some none
 ini:∃fI fd ps,qA3 K (.ref C) "__init__" = some (some (.ref fI))/\qB7 K (.ref fI)=true/\FnOk P w K mg base (CXe P w) 1 fI fd ps (zEM K f)/\Binds K fd ps []
theorem zRV{X:Cx}{c f:Str}{C:Addr}{k:Nat}{E:XK}{e:Expr}{es:List Expr}{t:TA}{p pos:Pos}(h:XIni X.prog X.w X.K X.mg X.base c f C)(hr:Room k X.A)(hk:2<=k)(hf:Flies X E)(hg:Gl X c)(ha:PA X (e::es) t)(hdb:(c==("__debug__":Str))=false:=by decide)
  (he:starEach (e::es) X.env=(false,eval e X.env)::starEach es X.env:=by rfl) (hpl:(backTo pos (starEach es X.env)).any (·.1)=false:=by rfl):PE X (.Call (.Name c p) (e::es) [] pos) (zJ5 C (zEM X.K f) E t):=by
 obtain⟨fI,fd,ps,h1,h2,F,hb⟩:=h.ini;exact zN1 h.is.xc h1 h2 F (hr.mono hk) hb hf.passes hg h.gm h.kp ha hdb he hpl
theorem zNH{K:qA0}{f a0 a1:Str}{vs:List V}{H:Hp}{Q:VK}{E:XK}(h:zEM K f vs H Q E) :
  tSeq (zIC (zO4 K (zDY (tVar 0) (zDY (tVar 1) tNil)))) (zO9 K (tVar 0) (tVar 1) f) { nx:=fun _ H'=>Q .non H',rt:=Q } (start [a0,a1] vs) H:=by
 obtain⟨e,C,y,rfl,he,hx,hs,q⟩:=h;exact⟨.ref e,rfl,y,rfl,e,C,none,[y],rfl,he,hx,(by show 1<=sizeLine;decide),y,rfl,.ref e,rfl,e,C,rfl,he,hs,q⟩
theorem zNI{K:qA0}{f:Str}{ps:List Str}(hp:ps.length=2):∀vs H Q E,zEM K f vs H Q E->vs.length=ps.length:=by
 rintro vs H Q E ⟨e,C,y,rfl,_⟩
 rw[hp];rfl
theorem zBO{K:qA0}{c:Str}{C:Addr}(h:qAo K mainGlobals c=some (some (.ref C))):clK K c=some C:=by unfold clK;rw[h]
theorem zFD:bootBuiltins "ValueError" = some (.type "ValueError"):=by decide +kernel
theorem zU6:qCp (.builtin "ValueError.__init__")=true:=by decide +kernel
noncomputable def zU5:Stmt->Stmt
 |.ClassDef _ _ _ body _ _ _ _ _ _ _=>body.getD 0 (.Pass ⟨0,0,0,0⟩)
 |s=>s
def spE(K:qA0)(mg:Str->Option Value)(L:Nat)(f:Mi.FM):Sp:=fun vs H Q E=>@spM ⟨K⟩ mg L f vs H Q E
section
variable[Kc]{mg:Str->Option Value}{E:XK}{L n k l:Nat}{te ta tb:TE}{e ea eb ma:EM}{t:TA}{m:AM}
theorem zEC{f:FM}{E':XK}(A:DA mg E t m 0):DE mg E (zID (sp0 Kc.K mg n f) [] E' t) (Mi.eCallN f m) n:=zNU A
theorem zH0{f:FM}(A:DA mg E t m 0):DE mg E (zID (spE Kc.K mg n f) [] E t) (Mi.eCall f m) n:=zD3 A
theorem zM4{P:Program}{w:World}{base:Heap}{c f:Str}{C:Addr}{E':XK}(h:XIni P w Kc.K mg base c f C)(A:DA mg E t m 0):DS mg E L (zJ4 Kc.K E (zJ5 C (zEM Kc.K f) E' t)) (Mi.sRaise c f m):=zNS h.cl h.is.xc h.st A
end
def zFQ(K:qA0):Sp:=fun vs H Q _=>∃(a:Addr)(ns:List Int),vs=[.ref a]/\Same (tabK K) H/\SqL K H a (ns.map V.int)/\ns.length<=63/\(∀i∈ns,i.natAbs.log2<2 ^ 20)/\∀H',Same (tabK K) H'->Q (.bl true) H'
theorem zNC{K:qA0}{mg:Str->Option Value}{L:Nat}{f:FM}(hf:∀ns:List Int,ns.length<=63->(∀i∈ns,i.natAbs.log2<2 ^ 20)->f [.scr ns]=okR (.bl true)):∀vs H Q E,zFQ K vs H Q E->sp0 K mg L f vs H Q E:=by
 letI:Kc:=⟨K⟩
 rintro vs H Q E ⟨a,ns,rfl,tb,hS,hl,hw,q⟩
 refine⟨H,[.scr ns],tb,Same.refl _,⟨_,_,rfl,⟨a,rfl,.inl hS⟩,rfl⟩,?_⟩;rw[hf ns hl hw];intro v G' H' S fr o
 cases(show v=.bl true by cases L<;>exact o)
 exact q H' (tb.trans fr.ext.h)
end L3
namespace Mi
open PySem
section
variable(ρ:Rh)(r:Ro)(a b c:EM)(s t:SM)(q q':TM)(am:AM)
@[simp] theorem x_eC(d:Dt):eC d ρ=okR d:=rfl
@[simp] theorem x_eV(i:Nat):eV i ρ=match ρ[i]? with|some (some d)=>okR d|_=>none:=rfl
@[simp] theorem x_eB(f:Dt->Dt->Option Dt):eB f a b ρ=zA3 (a ρ) fun x=>zA3 (b ρ) fun y=>optR (f x y):=rfl
@[simp] theorem x_eU(f:Dt->Option Dt):eU f a ρ=zA3 (a ρ) fun x=>optR (f x):=rfl
@[simp] theorem zEF:aNil ρ=okR []:=rfl
@[simp] theorem zBL:aCons a am ρ=zA3 (a ρ) fun x=>zA3 (am ρ) fun xs=>okR (x::xs):=rfl
@[simp] theorem zG6(f:FM):eCall f am ρ=zA3 (am ρ) f:=rfl
@[simp] theorem zQU(f:List Dt->Option Dt):eBi f am ρ=zA3 (am ρ) fun xs=>optR (f xs):=rfl
@[simp] theorem x_eLst:eLst am ρ=zA3 (am ρ) fun xs=>@ite _ (xs.length<=100000) (qA1 _) (okR (.lst xs)) none:=rfl
@[simp] theorem x_eTup:eTup am ρ=zA3 (am ρ) fun xs=>@ite _ (xs.length<=100000) (qA1 _) (okR (.tup xs)) none:=rfl
@[simp] theorem x_eIsi(n:String):eIsi n a ρ=zA3 (a ρ) fun x=>optR (isiD n x):=rfl
@[simp] theorem x_eAnd:eAnd a b ρ=zA3 (a ρ) fun x=>match x with | .bl k=>if k=true then b ρ else okR (.bl false)|_=>none:=rfl
@[simp] theorem x_eOr:eOr a b ρ=zA3 (a ρ) fun x=>match x with | .bl k=>if k=true then okR (.bl true)else b ρ|_=>none:=rfl
@[simp] theorem x_eNot:eNot a ρ=zA3 (a ρ) fun x=>match x with | .bl k=>okR (.bl (!k))|_=>none:=rfl
@[simp] theorem x_eChain(f g:Dt->Dt->Option Dt):zSU f g a b c ρ=zA3 (a ρ) fun x=>zA3 (b ρ) fun y=>zA3 (optR (f x y)) fun z=>match z with | .bl k=>if k=true then zA3 (c ρ) fun w=>optR (g y w)else okR (.bl false)|_=>none:=rfl
@[simp] theorem x_eIf:eIf q a b ρ=zA3 (q ρ) fun k=>if k=true then a ρ else b ρ:=rfl
@[simp] theorem x_tB:tB a ρ=zA3 (a ρ) fun x=>match x with | .bl k=>okR k|_=>none:=rfl
@[simp] theorem x_tM:tM a ρ=zA3 (a ρ) fun x=>match x with | .bl k=>okR k | .int i=>okR (i != 0) | .non=>okR false|_=>none:=rfl
@[simp] theorem zQP:tAn q q' ρ=zA3 (q ρ) fun k=>if k=true then q' ρ else okR false:=rfl
@[simp] theorem zQO:tOr q q' ρ=zA3 (q ρ) fun k=>if k=true then okR true else q' ρ:=rfl
@[simp] theorem zTC:tNo q ρ=zA3 (q ρ) fun k=>okR (!k):=rfl
@[simp] theorem zQN:tYes ρ=okR true:=rfl
@[simp] theorem zKN:sNil r=okR (.nx r):=rfl
@[simp] theorem zDS:sSeq s t r=zA3 (s r) fun o=>match o with | .nx ρ'=>t ρ'|o=>okR o:=rfl
@[simp] theorem zG5:sIf q s t r=zA3 (q (full r)) fun k=>if k=true then s r else t r:=rfl
@[simp] theorem x_sDrop:zTM a r=zA3 (a (full r)) fun _=>okR (.nx r):=rfl
@[simp] theorem x_sBreak:zR8 r=okR (.bk r):=rfl
@[simp] theorem x_sCont:zTO r=okR (.ct r):=rfl
@[simp] theorem x_sNever:zR7 r=none:=rfl
@[simp] theorem x_sRetN:zTK r=okR (.rt .non):=rfl
@[simp] theorem zJ1(i n:Nat)(vs:List Nat):sSet i n vs a r=zA3 (a (full r)) fun d=>if d.dep<=n then okR (.nx (r.set i (some (d,n))))else zA3 (a (frz (frzAt vs r))) fun d'=>okR (.nx ((frzAt vs r).set i (some (d',n)))):=rfl
@[simp] theorem zQQ(L n:Nat)(vs:List Nat):sRet L n vs a r=zA3 (a (full r)) fun d=>if d.dep<=n/\d.dep<=L then okR (.rt d)else if n=L then zA3 (a (frz (frzAt vs r))) fun d'=>okR (.rt d')else none:=rfl
@[simp] theorem x_sRetV(L i:Nat):sRetV L i r=match r[i]? with|some (some (d,k))=>if k=L\/L=0\/(d.dep<=k/\d.dep<=L/\k<1000)then okR (.rt d)else none|_=>none:=rfl
@[simp] theorem x_full_nil:full []=[]:=rfl
@[simp] theorem x_full_cons(o:Option Sl)(r:Ro):full (o::r)=o.map Prod.fst::full r:=rfl
@[simp] theorem x_frz_nil:frz []=[]:=rfl
@[simp] theorem x_frz_none(r:Ro):frz (none::r)=none::frz r:=rfl
@[simp] theorem x_frz_some(d:Dt)(n:Nat)(r:Ro):frz (some (d,n)::r)=(if n=0\/d.dep=0 then some d else none)::frz r:=rfl
@[simp] theorem x_frzAt_nil(r:Ro):frzAt [] r=r:=rfl
@[simp] theorem x_frzAt_cons(i:Nat)(v:List Nat)(r:Ro):frzAt (i::v) r=frzAt v (frz1 i r):=rfl
@[simp] theorem x_frz1(i:Nat)(r:Ro):frz1 i r=match r[i]? with|some (some (d,_))=>r.set i (some (d,0))|_=>r:=rfl
@[simp] theorem x_startO(n:Nat)(ds:List Dt):startO n ds=ds.map (fun d=>some (d,0))++qA7 (n-ds.length) none:=rfl
@[simp] theorem x_runF(P n:Nat)(ds:List Dt):runF P n s ds=if ds.length=P then zA3 (s (startO n ds)) endF else none:=rfl
@[simp] theorem x_end1(r:Ro):endF (.nx r)=okR .non:=rfl
@[simp] theorem x_end2(d:Dt):endF (.rt d)=okR d:=rfl
end
@[simp] theorem v_add(i j:Int):addD (.int i) (.int j)=some (.int (i+j)):=rfl
@[simp] theorem zQW(i j:Str):addD (.str i) (.str j)=@ite _ (i.length+j.length<=100000) (qA1 _) (some (.str (i++j))) none:=rfl
@[simp] theorem v_addL(i j:List Dt):addD (.lst i) (.lst j)=@ite _ (i.length+j.length<=100000) (qA1 _) (some (.lst (i++j))) none:=rfl
@[simp] theorem v_sub(i j:Int):subD (.int i) (.int j)=some (.int (i-j)):=rfl
@[simp] theorem zQV(i j:Int):mulD (.int i) (.int j)=@ite _ (((-18446744073709551616<i/\i<18446744073709551616)\/(-18446744073709551616<j/\j<18446744073709551616))\/i.natAbs.log2+j.natAbs.log2<=67108864) (qA1 _) (some (.int (i*j))) none:=rfl
@[simp] theorem v_div(i j:Int):divD (.int i) (.int j)=@ite _ (0<j/\j<1000000000000000000000000) (qA1 _) (some (.int (i/j))) none:=rfl
@[simp] theorem v_mod(i j:Int):modD (.int i) (.int j)=if 0<j then some (.int (i%j))else none:=rfl
@[simp] theorem v_pow(i j:Int):powD (.int i) (.int j)=@ite _ (0<=j/\j<=1000000/\i.natAbs<18446744073709551616) (qA1 _) (some (.int (i ^ j.toNat))) none:=rfl
@[simp] theorem v_neg(i:Int):negD (.int i)=some (.int (-i)):=rfl
@[simp] theorem v_cmp(p:Int->Int->Bool)(i j:Int):cmpD p (.int i) (.int j)=some (.bl (p i j)):=rfl
@[simp] theorem v_eq(x y:Dt):eqD x y=if x.dep<=40/\y.dep<=40 then some (.bl (Dt.eq x y))else none:=rfl
@[simp] theorem v_ne(x y:Dt):neD x y=if x.dep<=40/\y.dep<=40 then some (.bl (!Dt.eq x y))else none:=rfl
@[simp] theorem v_is(x:Dt):isD x .non=some (.bl (zCZ x)):=rfl
@[simp] theorem v_isnt(x:Dt):zU4 x .non=some (.bl (!zCZ x)):=rfl
@[simp] theorem v_isN1:zCZ .non=true:=rfl
@[simp] theorem v_isN2(i:Int):zCZ (.int i)=false:=rfl
@[simp] theorem v_isN3(i:List Dt):zCZ (.lst i)=false:=rfl
@[simp] theorem v_isN4(i:List Dt):zCZ (.tup i)=false:=rfl
@[simp] theorem v_isN5(i:Str):zCZ (.str i)=false:=rfl
@[simp] theorem v_isN6(i:Bool):zCZ (.bl i)=false:=rfl
@[simp] theorem v_ixL(xs:List Dt)(i:Int):ixD (.lst xs) (.int i)=itA xs i:=rfl
@[simp] theorem v_ixT(xs:List Dt)(i:Int):ixD (.tup xs) (.int i)=itA xs i:=rfl
@[simp] theorem v_ixS(ns:List Int)(i:Int):ixD (.scr ns) (.int i)=(itA ns i).map .int:=rfl
@[simp] theorem v_lenL(xs:List Dt):lenD [.lst xs]=some (.int xs.length):=rfl
@[simp] theorem v_lenT(xs:List Dt):lenD [.tup xs]=some (.int xs.length):=rfl
@[simp] theorem v_lenS(ns:List Int):lenD [.scr ns]=some (.int ns.length):=rfl
@[simp] theorem v_listL(xs:List Dt):listD [.lst xs]=some (.lst xs):=rfl
@[simp] theorem v_listT(xs:List Dt):listD [.tup xs]=some (.lst xs):=rfl
@[simp] theorem v_listS(ns:List Int):listD [.scr ns]=some (.lst (ns.map .int)):=rfl
@[simp] theorem v_dn:Dt.non.dep=0:=rfl
@[simp] theorem v_db(b:Bool):(Dt.bl b).dep=0:=rfl
@[simp] theorem v_di(b:Int):(Dt.int b).dep=0:=rfl
@[simp] theorem v_ds(b:Str):(Dt.str b).dep=0:=rfl
@[simp] theorem v_dS(b:List Int):(Dt.scr b).dep=1000:=by rw[Dt.dep]
@[simp] theorem v_dl(xs:List Dt):(Dt.lst xs).dep=Dt.depL xs+1:=by rw[Dt.dep]
@[simp] theorem v_dt(xs:List Dt):(Dt.tup xs).dep=Dt.depL xs+1:=by rw[Dt.dep]
@[simp] theorem v_dnil:Dt.depL []=0:=by rw[Dt.depL]
@[simp] theorem zEH(x:Dt)(r:List Dt):Dt.depL (x::r)=max x.dep (Dt.depL r):=by rw[Dt.depL]
@[simp] theorem v_e1(i j:Int):Dt.eq (.int i) (.int j)=decide (i=j):=by rw[Dt.eq];by_cases h:i=j<;>simp[h]
@[simp] theorem v_e2(i j:Str):Dt.eq (.str i) (.str j)=decide (i=j):=by rw[Dt.eq];by_cases h:i=j<;>simp[h]
@[simp] theorem v_e3(i j:Bool):Dt.eq (.bl i) (.bl j)=decide (i=j):=by rw[Dt.eq];by_cases h:i=j<;>simp[h]
@[simp] theorem v_e4(i j:List Dt):Dt.eq (.lst i) (.lst j)=Dt.eqL i j:=by rw[Dt.eq]
@[simp] theorem v_e5(i j:List Dt):Dt.eq (.tup i) (.tup j)=Dt.eqL i j:=by rw[Dt.eq]
@[simp] theorem v_e6:Dt.eq .non .non=true:=by rw[Dt.eq]
@[simp] theorem zF9:∀(ns:List Int),Dt.depL (ns.map Dt.int)=0
 |[]=>by simp
 |n::r=>by rw[qAj,zEH,zF9 r];rfl
@[simp] theorem zNT:∀(xs ys:List Dt),Dt.depL (xs++ys)=max (Dt.depL xs) (Dt.depL ys)
 |[],ys=>by simp
 |x::r,ys=>by rw[qDj,zEH,zEH,zNT r ys];exact(Nat.max_assoc _ _ _).symm
@[simp] theorem zEB:∀(ns ms:List Int),Dt.eqL (ns.map Dt.int) (ms.map Dt.int)=decide (ns=ms)
 |[],[]=>by simp[Dt.eqL]
 |[],_::_=>by simp[Dt.eqL]
 |_::_,[]=>by simp[Dt.eqL]
 |n::r,m::q=>by rw[qAj,qAj,Dt.eqL,zEB r q,v_e1];simp
theorem zJQ{α:Type}{xs:List α}{i:Int}{j:Nat}{v:α}(e:i=(j:Int))(h:xs[j]?=some v):itA xs i=some v:=by
 have hj:j<xs.length:=(qA2.mp h).1;subst e;unfold itA ixA;rw[if_pos (by lia),if_pos (by lia)]
 simpa using h
theorem zOJ{n:Nat}{i:Int}(h0:0<=i)(h1:i<n):ixA n i=some i.toNat:=by
 unfold ixA;rw[if_pos h0,if_pos h1]
theorem zJR{ns:List Int}{i:Int}(h0:0<=i)(h1:i<ns.length):itA (ns.map Dt.int) i=some (.int (ns.getD i.toNat 0)):=by
 refine zJQ (j:=i.toNat) (by lia) ?_;rw[qAi,qA5,qAq (by lia)];rfl
theorem zQ3{ns:List Int}{i:Int}(h0:0<=i)(h1:i<ns.length):itA ns i=some (ns.getD i.toNat 0):=by
 refine zJQ (j:=i.toNat) (by lia) ?_;rw[qA5,qAq (by lia)];rfl
@[simp] theorem set_int(ns:List Int)(i:Nat)(x:Int):(ns.map Dt.int).set i (.int x)=(ns.set i x).map Dt.int:=by rw[List.map_set]
theorem zK1{ρ:Rh}{k:Nat}{tg:Tg}{c:TM}{e:EM}(f:Dt->Dt):∀(ds acc:List Dt),(∀d∈ds,∃bs,zAR tg d=some bs/\c (zAQ (ρ++qA7 k none) bs)=okR true/\e (zAQ (ρ++qA7 k none) bs)=okR (f d))->compGo ρ k tg c e ds acc=okR (acc++ds.map f)
 |[],acc,_=>by simp[compGo]
 |d::ds,acc,h=>by
  obtain⟨bs,h1,h2,h3⟩:=h d (by simp);rw[compGo,h1];simp only;rw[h2,zA0,if_pos rfl,h3,zA0,zK1 f ds (acc++[f d]) fun d hd=>h d (by simp[hd])];simp
theorem zGV{tg:Tg}{b:SM}(Pv:Nat->Ro->Prop):∀(ds:List Dt)(i:Nat)(r:Ro),Pv i r->(∀(j:Nat)(d:Dt)(r:Ro),ds[j]?=some d->Pv (i+j) r->∃bs r',zAR tg d=some bs/\b (zAU r bs)=okR (.nx r')/\Pv (i+j+1) r') ->
  ∃r',forGo tg b ds r=okR (.nx r')/\Pv (i+ds.length) r'
 |[],i,r,h,_=>⟨r,by simp[forGo],by simpa using h⟩
 |d::ds,i,r,h,hs=>by
  obtain⟨bs,r1,h1,h2,h3⟩:=hs 0 d r (by simp) (by simpa using h);obtain⟨r2,h4,h5⟩:=zGV Pv ds (i+1) r1 (by simpa using h3) fun j e r he hp=>by
   have:=hs (j+1) e r (by simpa using he) (by rw[show i+(j+1)=i+1+j by lia];exact hp)
   rw[show i+1+j+1=i+(j+1)+1 by lia];exact this
  refine⟨r2,?_,by rw[qAv,show i+(ds.length+1)=i+1+ds.length by lia];exact h5⟩;rw[forGo,h1];simp only;rw[h2,zA0];exact h4
end Mi
namespace Mi
open PySem
section
variable(ρ:Rh)(r:Ro)(a:EM)(am:AM)(s:SM)
@[simp] theorem x_noE_ok{α:Type}(x:α):noE (okR x)=okR x:=rfl
@[simp] theorem x_noE_none{α:Type}:noE (none:R α)=none:=rfl
@[simp] theorem x_noE_err{α:Type}(e:Xn):noE (some (.error e):R α)=none:=rfl
@[simp] theorem x_eCallN(f:FM):eCallN f am ρ=zA3 (am ρ) fun ds=>noE (f ds):=rfl
@[simp] theorem x_eMkX(c f:Str):eMkX c f am ρ=zA3 (am ρ) fun ds=>match ds with|[d]=>okR (.exc c f d)|_=>none:=rfl
@[simp] theorem x_sRaise(c f:Str):sRaise c f am r=zA3 (am (full r)) fun ds=>match ds with|[d]=>some (.error ⟨c,f,d⟩)|_=>none:=rfl
@[simp] theorem x_eAtX(hs:List Str)(f:Str):eAtX hs f a ρ=zA3 (a ρ) fun d=>match d with | .exc c g x=>if c∈hs/\g=f then okR x else none|_=>none:=rfl
@[simp] theorem x_eIsX(ys ns:List Str):eIsX ys ns a ρ=zA3 (a ρ) fun d=>match d with | .exc c _ _=>if c∈ys then okR (.bl true)else if c∈ns then okR (.bl false)else none|_=>none:=rfl
@[simp] theorem x_gone_nx(i:Nat):goneO i (.nx r)=.nx (r.set i none):=rfl
@[simp] theorem x_gone_rt(i:Nat)(d:Dt):goneO i (.rt d)=.rt d:=rfl
theorem zL0{vs:List Nat}{j:Option Nat}{hs:List Str}{i:Nat}{x:Xn}(h:a (frz (frzAt vs r))=some (.error x))(hm:x.cls∈hs):sTry vs j a hs i s r=zA3 (s ((frzAt vs r).set i (some (.exc x.cls x.f x.d,0)))) fun o=>okR (goneO i o):=by
 unfold sTry;rw[h];exact if_pos hm
end
example (d:Dt):True:=trivial
end Mi
namespace L2
open PySem PySem.Spec PyProof.Rows
section
variable{X:Cx}
noncomputable def rXorU:R2:=fun x y H Q=>match x,y with
 |.int i,.int j=>Q (.int (Builtin.bitXor i j)) H
 |_,_=>False
def zRJ:R2:=fun x y H Q=>match x,y with
 |.ref l,.int k=>∃xs,H l=some (.lst xs)/\(-(2 ^ 63)<=k/\k<2 ^ 63)/\xs.length*k.toNat<=sizeLine/\∀p,H p=none->Q (.ref p) (upd H p (.lst (qA7 k.toNat xs).flatten))
 |_,_=>False
theorem zTG:OpR X (binaryOp .Mult) zRJ:=by
 intro pins s σ H x y v u Q I rx ry h;cases x<;>cases y<;>first
  |(obtain⟨xs,h1,h2,h3,h4⟩:=h;exact zS0 pins s σ H _ _ v u Q I rx ry ⟨_,_,xs,rfl,rfl,h1,h2.1,h2.2,h3,h4⟩)
  |exact qA4 h
end
section
variable{X:Cx}{K:qA0}
end
end L2
namespace Mi
open PySem
noncomputable section
noncomputable def xorD:Dt->Dt->Option Dt
 |.int i,.int j=>some (.int (Builtin.bitXor i j))
 |_,_=>none
noncomputable def repD:Dt->Dt->Option Dt
 |.lst xs,.int k=>@ite _ ((-4611686018427387904<=k/\k<4611686018427387904)/\xs.length*k.toNat<=100000) (qA1 _) (some (.lst (qA7 k.toNat xs).flatten)) none
 |_,_=>none
def tL(a:EM):TM:=fun ρ=>zA3 (a ρ) fun x=>match x with
 |.bl k=>okR k
 |.int i=>okR (i != 0)
 |.non=>okR false
 |.lst xs=>okR (!xs.isEmpty)
 |.tup xs=>okR (!xs.isEmpty)
 |_=>none
def iRv(e:AM):IM:=fun ρ=>zA3 (e ρ) fun vs=>match vs with
 |[.lst xs]=>okR xs.reverse
 |_=>none
noncomputable def zQ5:List Dt->Option (List Int)
 |[]=>some []
 |.int i::r=>(zQ5 r).map (i::·)
 |_::_=>none
def eMl(f:List Dt->List Dt->Option Dt)(a:EM)(am:AM):EM:=fun ρ=>zA3 (a ρ) fun x=>match x with
 |.lst xs=>zA3 (am ρ) fun ds=>optR (f xs ds)
 |_=>none
def sExt(i n:Nat)(e:EM):SM:=fun ρ=>match ρ[i]? with
 |some (some (.lst ds,k+1))=>zA3 (e (full ρ)) fun d=>match d with
  |.lst es=>@ite _ (ds.length+es.length<=100000/\Dt.depL es<=n/\Dt.depL es<=k) (qA1 _) (okR (.nx (ρ.set i (some (.lst (ds++es),k+1))))) none
  |_=>none
 |_=>none
noncomputable def low(i:Nat)(ρ:Ro):Ro:=match ρ[i]? with
 |some (some (.lst ds,_+1))=>ρ.set i (some (.lst ds,1))
 |_=>ρ
def zR9(i:Nat)(vs:List Nat)(e:EM):SM:=fun ρ=>match(frzAt vs (low i ρ))[i]? with
 |some (some (.lst ds,1))=>zA3 (e (frz (frzAt vs (low i ρ)))) fun d=>@ite _ (ds.length<=100000) (qA1 _) (okR (.nx ((frzAt vs (low i ρ)).set i (some (.lst (ds++[d]),1))))) none
 |_=>none
end
end Mi
namespace L3
open PySem PySem.Spec
open L2 hiding Rep RepL
open Mi (Dt Xn R okR zA3 optR zA0 zA6 zAC zAA zAB Rh Sl Ro EM TM AM FM IM SM Tg Out zAR zAQ zAU full frz frz1 frzAt)
section
variable[Kc]{mg:Str->Option Value}{E:XK}{L n k l:Nat}{te ta tb:TE}{e ea eb ma:EM}{t:TA}{m:AM}
theorem zMV{G:Hp}{ds es:List Dt}{xs ys:List V}(ra:RepL G ds xs)(rb:RepL G es ys):RepL G (ds++es) (xs++ys):=by
 refine zDI (by simp[ra.length,rb.length]) fun j d' x' e1 e2=>?_
 by_cases hj:j<ds.length
 ·rw[qAc hj]at e1;rw[qAc (by rw[ra.length];exact hj)]at e2;exact zBM ra e1 e2
 ·rw[qA9 (by lia)]at e1;rw[qA9 (by rw[ra.length];lia),ra.length]at e2;exact zBM rb e1 e2
theorem zJ9{G:Hp}{ds:List Dt}{xs:List V}(r:RepL G ds xs):∀k:Nat,RepL G (qA7 k ds).flatten (qA7 k xs).flatten
 |0=>rfl
 |k+1=>by rw[qBf,qBf,qBs,qBs];exact zMV r (zJ9 r k)
theorem zRB:ROp zRJ Mi.repD 1:=by
 intro mg E G H d e x y Q s h1 h2 p;cases d with
 |lst ds=>
  cases e with
  |int j=>
   obtain⟨a,xs,rfl,ha,ra⟩:=h1
   cases(show y=.int j from h2)
   rw[Mi.repD]at p
   split at p
   ·rename_i hz
    exact⟨xs,s _ _ ha,⟨by lia,by lia⟩,by rw[ra.length];exact big' hz.2,fun q hq=>PostE.lst p (Ext.refl s) (zJ9 ra _) hq⟩
   ·exact p.elim
  |_=>exact p.elim
 |_=>exact p.elim
end
end L3
namespace L3
open PySem PySem.Spec
open L2 hiding Rep RepL
open Mi (Dt Xn R okR zA3 optR zA0 zA6 zAC zAA zAB Rh Sl Ro EM TM AM FM IM SM Tg Out zAR zAQ zAU full frz frz1 frzAt)
section
variable[Kc]{G0 H0 S0:Hp}{σ:St}{ρ:Ro}{G H:Hp}{As:Nat->Addr->Prop}
end
section
variable[Kc]{mg:Str->Option Value}{E:XK}{L n k l:Nat}{te ta tb:TE}{e ea eb ma:EM}{t:TA}{m:AM}
end
end L3
namespace L3
open PySem PySem.Spec
open L2 hiding Rep RepL
open Mi (Dt Xn R okR zA3 optR zA0 zA6 zAC zAA zAB Rh Sl Ro EM TM AM FM IM SM Tg Out zAR zAQ zAU full frz frz1 frzAt)
structure XNo(K:qA0)(mg:Str->Option Value)(c:Str)(C:Addr):Prop extends XCls K mg c C where
 kp:qAe K (.ref C)=true
 ini:qA3 K (.ref C) "__init__" = some (some (.builtin "ValueError.__init__"))
theorem zRW{X:Cx}{c:Str}{C:Addr}{e:Expr}{es:List Expr}{t:TA}{p pos:Pos}(h:XNo X.K X.mg c C)(hg:Gl X c)(ha:PA X (e::es) t)(hdb:(c==("__debug__":Str))=false:=by decide)
  (he:starEach (e::es) X.env=(false,eval e X.env)::starEach es X.env:=by rfl) (hpl:(backTo pos (starEach es X.env)).any (·.1)=false:=by rfl):PE X (.Call (.Name c p) (e::es) [] pos) (zIB C t):=
 zL7 h.is.xc h.ini hg h.gm h.kp ha hdb he hpl
section
variable[Kc]{mg:Str->Option Value}{E:XK}{L n k l:Nat}{te ta tb:TE}{e ea eb ma:EM}{t:TA}{m:AM}
theorem zM5{c:Str}{C:Addr}(h:XNo Kc.K mg c C)(A:DA mg E t m 0):DS mg E L (zJ4 Kc.K E (zIB C t)) (Mi.sRaise0 c m):=by
 intro G0 H0 S0 σ ρ G H As D a p;obtain⟨J,x,s,w⟩:=a.full;refine A.step (errS.from x) x.in' w p fun ds vs G1 H1 S T _ fr o p1=>?_
 split at p1
 ·rename_i hz
  refine⟨by rw[o.len];exact big' (by lia),fun e he=>⟨e,C,none,rfl,zAD,h.is.xc,?_⟩⟩;have hu:upd (upd H1 e (xn e (.ref C) none)) e (xo e (.ref C) none)=upd H1 e (xo e (.ref C) none):=by
   funext z
   by_cases h1:z=e
   ·rw[h1,zAD,zAD]
   ·rw[zA9 h1,zA9 h1,zA9 h1]
  rw[hu];exact p1 (.ref e) none _ _ ((x.trans fr.ext).trans (Ext.new fr.ext.in' he _)) ⟨e,C,rfl,zAD,h.cl,.inl ⟨rfl,rfl⟩⟩
 ·exact p1.elim
end
end L3
namespace L2
open PySem PySem.Spec PyProof.Rows
section
variable{X:Cx}
end
section
variable{X:Cx}{K:qA0}
end
end L2
namespace Mi
open PySem
noncomputable section
def sumD:List Dt->Option Dt
 |[.lst ds]=>match zQ5 ds with
  |some ns=>@ite _ (ns.length<=100000/\∀n∈ns,-1000000<=n/\n<=1000000) (qA1 _) (some (.int ns.sum)) none
  |none=>none
 |_=>none
noncomputable def topI:List Int->Int
 |[]=>0
 |[x]=>x
 |x::y::r=>max x (topI (y::r))
def maxL:List Dt->Option Dt
 |[.int i,.int j]=>some (.int (if j>i then j else i))
 |[.lst ds]=>match zQ5 ds with
  |some (n::ns)=>some (.int (topI (n::ns)))
  |_=>none
 |_=>none
def sPopD(i:Nat)(e:EM):SM:=fun ρ=>match ρ[i]? with
 |some (some (.lst ds,k+1))=>zA3 (e (full ρ)) fun d=>match d with
  |.int z=>match ixA ds.length z with
   |some q=>@ite _ (ds.length<=1000000) (qA1 _) (okR (.nx (ρ.set i (some (.lst (ds.eraseIdx q),k+1))))) none
   |none=>none
  |_=>none
 |_=>none
def sApp2(i n:Nat)(e0 e:EM):SM:=fun ρ=>match ρ[i]? with
 |some (some (.lst rs,k+2))=>zA3 (e0 (full ρ)) fun y=>match y with
  |.int y=>match ixA rs.length y with
   |some p=>match rs[p]? with
    |some (.lst ds)=>zA3 (e (full ρ)) fun d=>@ite _ (ds.length<=100000/\d.dep<=n/\d.dep<=k) (qA1 _) (okR (.nx (ρ.set i (some (.lst (rs.set p (.lst (ds++[d]))),k+2))))) none
    |_=>none
   |none=>none
  |_=>none
 |_=>none
noncomputable def addAll(c:Int):List Dt->Option (List Dt)
 |[]=>some []
 |.lst ds::r=>@ite _ (ds.length<=100000) (qA1 _) ((addAll c r).map (.lst (ds++[.int c])::·)) none
 |_::_=>none
def sForApp(i r:Nat)(c:Int):SM:=fun ρ=>match ρ[i]? with
 |some (some (.lst rs,k+2))=>match addAll c rs with
  |some rs'=>if i≠r/\r<ρ.length then okR (.nx ((ρ.set i (some (.lst rs',k+2))).set r none))else none
  |none=>none
 |_=>none
end
end Mi
namespace L3
open PySem PySem.Spec
open L2 hiding Rep RepL
open Mi (Dt Xn R okR zA3 optR zA0 zA6 zAC zAA zAB Rh Sl Ro EM TM AM FM IM SM Tg Out zAR zAQ zAU full frz frz1 frzAt)
section
variable[Kc]{mg:Str->Option Value}{E:XK}{L n k l:Nat}{te ta tb:TE}{e ea eb ma:EM}{t:TA}{m:AM}
end
end L3
namespace L3
open PySem PySem.Spec
open L2 hiding Rep RepL
open Mi (Dt Xn R okR zA3 optR zA0 zA6 zAC zAA zAB Rh Sl Ro EM TM AM FM IM SM Tg Out zAR zAQ zAU full frz frz1 frzAt)
section
variable[Kc]{G0 H0 S0:Hp}{σ:St}{ρ:Ro}{G H:Hp}{As:Nat->Addr->Prop}
theorem Sat.forget(a:Sat G0 H0 S0 σ ρ G H As)(r:Nat)(v:V):Sat G0 H0 S0 (σ.set r (some v)) (ρ.set r none) G H As:=by
 refine⟨a.ext,a.stb,a.tab,by simp[a.len],fun j e k h=>?_,a.dis,a.new⟩
 by_cases z:r=j
 ·subst z;have hj:r<ρ.length:=by
   have:=(qA2.mp h).1
   simpa using this
  rw[qAd hj]at h;cases h
 ·rw[qAf z]at h;obtain⟨u,h1,h2⟩:=a.at j e k h;exact⟨u,by rw[qAf z];exact h1,h2⟩
theorem Sat.row(a:Sat G0 H0 S0 σ ρ G H As){i k c:Nat}{rs ds:List Dt}{q:Addr}(er:ρ[i]?=some (some (.lst rs,k+2)))(hv:σ[i]?=some (some (.ref q)))(ec:rs[c]?=some (.lst ds)) :
  ∃(xs:List V)(qr:Addr)(ys:List V),H q=some (.lst xs)/\xs.length=rs.length/\xs[c]?=some (.ref qr)/\H qr=some (.lst ys)/\ys.length=ds.length /\
   ∀(ds':List Dt)(ys':List V),ys'.length=ds'.length->(∀(r:Nat)(d:Dt)(z:V),ds'[r]?=some d->ys'[r]?=some z->(ds[r]?=some d/\ys[r]?=some z)\/(d.dep=0/\Rep G d z)) ->
    Sat G0 H0 S0 σ (ρ.set i (some (.lst (rs.set c (.lst ds')),k+2))) G (upd H qr (.lst ys')) As:=by
 obtain⟨v,h1,q',xs,T,rfl,hq,kd⟩:=a.at i _ _ er;rw[hv]at h1;cases h1;have hc:c<xs.length:=by rw[kd.len];exact(qA2.mp ec).1
 have hxc:xs[c]?=some xs[c]:=qAq hc;obtain⟨qr,ys,U,er2,hqr,kr⟩:=kd.own c _ _ ec hxc;refine⟨xs,qr,ys,hq,kd.len,by rw[hxc,er2],hqr,kr.len,fun ds' ys' hl hs=>?_⟩;have tqr:T c qr:=kr.top;have iqr:As i qr:=kd.sub c qr tqr;have qne:q≠qr:=fun z=>kd.out c (z▸tqr)
 have b:=a.store (S:=As i) (p:=qr) (o:=.lst ys') (d:=.lst (rs.set c (.lst ds'))) (n:=k+2) (v:=.ref q) iqr hv ⟨q,xs,T,rfl,(zA9 qne).trans hq,⟨by simp[kd.len],fun r d' xr g1 g2=>?_,kd.top,kd.out,kd.dis,kd.sub⟩⟩ fun b z=>.inl z
 ·refine⟨b.ext,b.stb,b.tab,b.len,fun j d n h=>?_,a.dis,fun j b' h=>?_⟩
  ·obtain⟨v,g1,g2⟩:=b.at j d n h;refine⟨v,g1,?_⟩
   by_cases z:j=i
   ·subst z;rw[if_pos rfl]at g2;exact g2
   ·rw[if_neg z]at g2;exact g2
  ·have:=b.new j b' (by
    by_cases z:j=i
    ·subst z;rw[if_pos rfl];exact h
    ·rw[if_neg z];exact h)
   exact this
 ·by_cases hr:c=r
  ·subst hr;rw[qAd (by rw[<- kd.len];exact hc)]at g1;cases g1;rw[hxc]at g2;cases g2;refine⟨qr,ys',U,er2,zAD,⟨hl,fun r d z e1 e2=>?_,tqr,kr.out,kr.dis,kr.sub⟩⟩
   rcases hs r d z e1 e2 with⟨g3,g4⟩|⟨g3,g4⟩
   ·exact(kr.own r d z g3 g4).upd (kr.out r)
   ·exact zOH g4 g3
  ·rw[qAf hr]at g1;exact(kd.own r d' xr g1 g2).upd fun z=>hr (kd.dis c r qr tqr z)
end
section
variable[Kc]{mg:Str->Option Value}{E:XK}{L n k l:Nat}{te ta tb:TE}{e ea eb ma:EM}{t:TA}{m:AM}
theorem addAll_len{c:Int}:∀{rs rs':List Dt},Mi.addAll c rs=some rs'->rs'.length=rs.length
 |[],rs',h=>by cases h;rfl
 |d::r,rs',h=>by
  cases d with
  |lst ds=>
   rw[Mi.addAll]at h
   split at h
   ·cases e:Mi.addAll c r with
    |none=>rw[e]at h;cases h
    |some q=>rw[e]at h;cases h;simp[addAll_len e]
   ·cases h
  |_=>cases h
theorem zI8{c:Int}:∀{rs rs':List Dt}{p:Nat},Mi.addAll c rs=some rs'->p<rs.length->∃ds,rs[p]?=some (.lst ds)/\rs'[p]?=some (.lst (ds++[.int c]))/\ds.length<=100000
 |[],rs',p,h,hp=>by simp at hp
 |d::r,rs',p,h,hp=>by
  cases d with
  |lst ds=>
   rw[Mi.addAll]at h
   split at h
   ·rename_i hz
    cases e:Mi.addAll c r with
    |none=>rw[e]at h;cases h
    |some q=>
     rw[e]at h;cases h;cases p with
     |zero=>exact⟨ds,rfl,rfl,hz⟩
     |succ p=>exact zI8 (p:=p) e (by simpa using hp)
   ·cases h
  |_=>cases h
theorem zM6(i r:Nat)(c:Int):DS mg E L (fun D σ H=>iAny Kc.K (vM i) σ H (zKV (zGU r) (zIC (tML appM (vM r) (zDY (tC (.int c)) tNil))) D σ)) (Mi.sForApp i r c):=by
 intro G0 H0 S0 σ ρ G H As D a p;unfold Mi.sForApp at p
 split at p
 ·rename_i rs k e1
  split at p
  ·rename_i rs' ea
   split at p
   ·rename_i hir
    obtain⟨v,h1,q,xs0,T0,rfl,hq0,kd0⟩:=a.at i _ _ e1;unfold iAny vM;rw[h1];refine .inl ⟨⟨xs0,SqL.of hq0⟩,?_⟩;have hil:i<ρ.length:=(qA2.mp e1).1;have hal:=addAll_len ea;refine⟨fun j cc σ H=>cc=rs.length-j/\j<=rs.length/\σ[i]?=some (some (.ref q))/\(j=0->σ.length=ρ.length)/\∃As,Sat G0 H0 S0 σ (if j=0 then ρ else(ρ.set i (some (.lst (rs'.take j++rs.drop j),k+2))).set r none) G H As,
     ⟨_,rfl,qB8 _,h1,fun _=>a.len.symm,As,by rw[if_pos rfl];exact a⟩,?_⟩
    rintro j cc σ H ⟨rfl,hj,hv,hsl,As,a⟩
    have er:(if j=0 then ρ else(ρ.set i (some (.lst (rs'.take j++rs.drop j),k+2))).set r none)[i]?=some (some (.lst (rs'.take j++rs.drop j),k+2)):=by
     by_cases z:j=0
     ·subst z;rw[if_pos rfl];simpa using e1
     ·rw[if_neg z,qAf (fun y=>hir.1 y.symm),qAd hil]
    obtain⟨v,h2,q',xs,T,e',hq,kd⟩:=a.at i _ _ er;rw[hv]at h2;cases h2;cases e';have hlen:(rs'.take j++rs.drop j).length=rs.length:=by simp[hal];lia
    by_cases hlt:j<rs.length
    ·obtain⟨ds,g1,g2,g3⟩:=zI8 ea hlt;have ec:(rs'.take j++rs.drop j)[j]?=some (.lst ds):=by
      rw[qA9 (by simp;lia)];simp[hal,qF0 (qBu hlt),g1]
     refine .inr ⟨⟨xs,xs[j]'(by rw[kd.len,hlen];exact hlt),SqL.of hq,by simp⟩,fun σ' H'=>j+1<=rs.length/\σ'[i]?=some (some (.ref q))/\(j+1=0->σ'.length=ρ.length)/\∃As,Sat G0 H0 S0 σ' (if j+1=0 then ρ else(ρ.set i (some (.lst (rs'.take (j+1)++rs.drop (j+1)),k+2))).set r none) G H' As,fun σ' H' y=>⟨rs.length-(j+1),by lia,rfl,y⟩,fun x H2 hy=>?_⟩;obtain⟨rfl,hy⟩:=hy;obtain⟨xs2,qr,ys,w1,w2,w3,w4,w5,w6⟩:=a.row er hv ec;have hx:=hy xs2 (SqL.of w1);rw[w3]at hx;cases hx;have hrl:r<σ.length:=by rw[<- a.len];by_cases z:j=0<;>simp[z,hir.2]
     show zIC (tML appM (vM r) (zDY (tC (.int c)) tNil)) _ (σ.set r (some (.ref qr))) _;unfold zIC tML vM;rw[qAd hrl];refine⟨ys,w4,?_⟩;unfold zDY tC tNil;dsimp only;refine⟨ys,w4,by rw[w5];exact L2.big (by lia),?_⟩;have a2:=(w6 (ds++[.int c]) (ys++[.int c]) (by simp[w5]) fun u d z e3 e4=>by
      by_cases hu:u<ds.length
      ·rw[qAc hu]at e3;rw[qAc (by rw[w5];exact hu)]at e4;exact .inl ⟨e3,e4⟩
      ·rw[qA9 (by lia)]at e3;rw[qA9 (by rw[w5];lia),w5]at e4;have hq0:u-ds.length=0:=by
        have:=(qA2.mp e3).1
        simp at this;lia
       rw[hq0]at e3 e4;simp at e3 e4;subst e3;subst e4;exact .inr ⟨rfl,rfl⟩).forget r (.ref qr)
     refine⟨hlt,by rw[qAf (fun y=>hir.1 y.symm)];exact hv,fun z=>by lia,As,?_⟩;rw[if_neg (by lia)];have eset:(rs'.take j++rs.drop j).set j (.lst (ds++[.int c]))=rs'.take (j+1)++rs.drop (j+1):=by
      have hj2:j<rs'.length:=by lia
      have gj:rs'[j]=.lst (ds++[.int c]):=by
       have:=qAq hj2
       rw[g2]at this;exact(qB5 this).symm
      rw[qDs _ _ (by simp;lia),List.take_succ_eq_append_getElem hj2,gj];simp only[qCr,qF0 (qBu hj2),Nat.sub_self];rw[qCi]
      congr 1
      rw[qBg hlt];rfl
     rw[eset]at a2
     by_cases z:j=0
     ·subst z;rw[if_pos rfl]at a2;exact a2
     ·rw[if_neg z]at a2;have e5:(((ρ.set i (some (.lst (rs'.take j++rs.drop j),k+2))).set r none).set i (some (.lst (rs'.take (j+1)++rs.drop (j+1)),k+2))).set r none=(ρ.set i (some (.lst (rs'.take (j+1)++rs.drop (j+1)),k+2))).set r none:=by
       rw[List.set_comm _ _ (fun y:r=i=>hir.1 y.symm),qFt,qFt]
      rw[e5]at a2;exact a2
    ·have ej:j=rs.length:=by lia
     subst ej;refine .inl ⟨⟨xs,SqL.of hq,by rw[kd.len,hlen];exact qA6 _⟩,?_⟩;have e6:rs'.take rs.length++rs.drop rs.length=rs':=by rw[<- hal,qDi,hal,qDk,qBi]
     by_cases z:rs.length=0
     ·rw[if_pos z]at a;have hrs:rs=[]:=qCt z;subst hrs
      have:rs'=[]:=qCt hal
      subst this;have e7:ρ.set i (some (.lst [],k+2))=ρ:=by
       have:=(qA2.mp e1).2
       rw[<- this,qDt]
      rw[e7]at p;refine p σ G H As ⟨a.ext,a.stb,a.tab,by simp[a.len],fun j d n h=>?_,a.dis,a.new⟩
      by_cases y:r=j
      ·subst y;rw[qAd hir.2]at h;cases h
      ·rw[qAf y]at h;exact a.at j d n h
     ·rw[if_neg z,e6]at a;exact p σ G H As a
   ·exact p.elim
  ·exact p.elim
 ·exact p.elim
end
end L3
namespace L2
open PySem PySem.Spec PyProof.Rows
section
variable{X:Cx}
end
end L2
namespace Mi
open PySem
noncomputable section
end
end Mi
namespace L3
open PySem PySem.Spec
open L2 hiding Rep RepL
open Mi (Dt Xn R okR zA3 optR zA0 zA6 zAC zAA zAB Rh Sl Ro EM TM AM FM IM SM Tg Out zAR zAQ zAU full frz frz1 frzAt)
section
variable[Kc]{mg:Str->Option Value}{E:XK}{L n k l:Nat}{te ta tb:TE}{e ea eb ma:EM}{t:TA}{m:AM}
end
end L3
namespace L2
open PySem PySem.Spec PyProof.Rows
section
variable{X:Cx}{x:Str}{j k:Nat}{ps:List Str}{sp:Sp}{e:Expr}{es:List Expr}{t:TA}{p pos:Pos}
end
end L2
namespace L2
open PySem PySem.Spec PyProof.Rows
end L2
namespace Mi
end Mi
namespace L3
open PySem PySem.Spec
open L2 hiding Rep RepL
open Mi (Dt Xn R okR zA3 optR zA0 zA6 zAC zAA zAB Rh Sl Ro EM TM AM FM IM SM Tg Out zAR zAQ zAU full frz frz1 frzAt)
section
variable[Kc]{mg:Str->Option Value}{E:XK}{L n n1:Nat}{t1 t2:TE}{e1 e2:EM}
end
end L3
namespace Mi
end Mi
namespace L3
open PySem PySem.Spec
open L2 hiding Rep RepL
open Mi (Dt Xn R okR zA3 optR zA0 zA6 zAC zAA zAB Rh Sl Ro EM TM AM FM IM SM Tg Out zAR zAQ zAU full frz frz1 frzAt)
section
variable[Kc]{mg:Str->Option Value}{E:XK}{L n:Nat}{te:TE}{e:EM}
end
end L3
namespace L2
open PySem PySem.Spec PyProof.Rows
section
variable{X:Cx}{e m1:Expr}{te ts:TE}{pos p2:Pos}
end
end L2
namespace Mi
open PySem
noncomputable section
end
end Mi
namespace L3
open PySem PySem.Spec
open PyProof.Rows (risingS sortedS ltCps_eq)
open L2 hiding Rep RepL
open Mi (Dt Xn R okR zA3 optR zA0 zA6 zAC zAA zAB Rh Sl Ro EM TM AM FM IM SM OM Tg Out zAR zAQ zAU full frz frz1 frzAt)
section
variable[Kc]{mg:Str->Option Value}{E:XK}{L n k l:Nat}{te ta tb:TE}{e ea eb ma:EM}{t:TA}{m:AM}
end
end L3
namespace L2
open PySem PySem.Spec PyProof.Rows
section
variable{X:Cx}{x:Str}{C:Addr}{p pos:Pos}
def zKU(C:Addr):TE:=fun σ H Q=>∀x dx,H x=none->H dx=none->dx≠x->Q (.ref x) (upd (upd H dx (.own x)) x (.ins C dx []))
theorem zL8(hmk:qBh X.K C=true)(hi:qA3 X.K (.ref C) "__init__" = some (some (.builtin "object.__init__")))(kp:qAe X.K (.ref C)=true)(hg:Gl X x)(hm:X.mg x=some (.ref C))
  (hdb:(x==("__debug__":Str))=false:=by decide):PE X (.Call (.Name x p) [] [] pos) (zKU C):=by
 intro pins s σ H Q I h;refine wpAny_Call_Name_kw (zCK I hg hm ?_ hdb);refine PySem.W.callWith_K0 I.kIn kp ?_;have hq:=h (s.heap.objs.size+1) s.heap.objs.size (I.hok.fresh (qC7 _)) (I.hok.fresh (qA6 _)) (qAn (qCq _));have I2:=Inv.made (C:=C) I;have Y:=qDe (M:=model X.prog X.w) I.kIn hmk;refine wpAny_call (zLN I.kIn hmk hi (fun self=>qFu (PySem.W.oi_bind self)) ?_);have hx:((s.heap.push qAs).push (qAw C s.heap.objs.size)).get? (s.heap.objs.size+1)=some (qAw C s.heap.objs.size):=by
  have:=Heap.get?_push_size (s.heap.push qAs) (o:=qAw C s.heap.objs.size) rfl
  rwa [Heap.size_push]at this
 have t1:qBw (model X.prog X.w) ((s.heap.push qAs).push (qAw C s.heap.objs.size)) (typeOf (.ref (s.heap.objs.size+1))) (.ref C):=(qEr hx).andThen .now;have t2:qBw (model X.prog X.w) ((s.heap.push qAs).push (qAw C s.heap.objs.size)) (isInstance (.ref (s.heap.objs.size+1)) (.type "object")) true:=t1.andThen (Y.top.keeps fun b o e=>Heap.get?_push_of_some _ (Heap.get?_push_of_some _ e));obtain⟨hh,g,d,t,os⟩:=s;refine codeAny_call_builtin PySem.W.oi_plain PySem.W.entry_oi (@PySem.W.check_slot (model X.prog X.w) _ _ _ "object.__init__" "object" "__init__" (.ref (hh.objs.size+1)) [] [] _ PySem.W.oi_kind PySem.W.oi_split t2 (PySem.W.oi_args (.ref (hh.objs.size+1))) ?_);rw[PySem.W.oi_run];exact wpAny_pure (And.intro rfl ⟨.ref _,_,I2,rfl,hq⟩)
end
def zG9(K:qA0)(fl:List Str):Sp:=fun vs H Q _=>∃(x C dx:Addr)(ys:List V),vs=.ref x::ys/\ys.length=fl.length/\H x=some (.ins C dx [])/\Cls K C/\(∀f∈fl,NoAttr K C f)/\Q .non (upd H x (.ins C dx (fl.zip ys)))
theorem zIK{K:qA0}{fl ps:List Str}(hp:ps.length=fl.length+1):∀vs H Q E,zG9 K fl vs H Q E->vs.length=ps.length:=by
 rintro vs H Q E ⟨x,C,dx,ys,rfl,hl,_⟩
 rw[hp,qAv,hl]
theorem zJT{K:qA0}{f a0 a1:Str}{vs:List V}{H:Hp}{Q:VK}{E:XK}(h:zG9 K [f] vs H Q E) :
  sFld K (tVar 0) (tVar 1) f { nx:=fun _ H'=>Q .non H',rt:=Q } (start [a0,a1] vs) H:=by
 obtain⟨x,C,dx,ys,rfl,hl,hx,hc,hn,q⟩:=h
 match ys,hl,q with
 |[y],_,q=>exact⟨y,rfl,.ref x,rfl,x,C,dx,[],rfl,hx,hc,hn f (by simp),by decide,q⟩
theorem zNG{K:qA0}{f g a0 a1 a2:Str}{vs:List V}{H:Hp}{Q:VK}{E:XK}(hfg:f≠g)(h:zG9 K [f,g] vs H Q E) :
  tSeq (sFld K (tVar 0) (tVar 1) f) (sFld K (tVar 0) (tVar 2) g) { nx:=fun _ H'=>Q .non H',rt:=Q } (start [a0,a1,a2] vs) H:=by
 obtain⟨x,C,dx,ys,rfl,hl,hx,hc,hn,q⟩:=h
 match ys,hl,q with
 |[y,z],_,q=>
  refine⟨y,rfl,.ref x,rfl,x,C,dx,[],rfl,hx,hc,hn f (by simp),by decide,z,rfl,.ref x,rfl,x,C,dx,putF f y [],rfl,zAD,hc,hn g (by simp),(by decide:1<1000),?_⟩;rw[zKQ,show putF g z (putF f y [])=[(f,y),(g,z)] from(show(if f=g then(f,z)::[]else(f,y)::putF g z [])=[(f,y),(g,z)] by rw[if_neg hfg];rfl)];exact q
def HasM(P:Program)(w:World)(K:qA0)(mg:Str->Option Value)(base:Heap)(C:Addr)(m:Str)(k:Nat)(ps:List Str)(sp:Sp):Prop:=
 ∃f fd,Cls K C/\Meth K C m f/\FnOk P w K mg base (CXe P w) k f fd ps sp/\Binds K fd ps []
section
variable{X:Cx}{m:Str}{k:Nat}{E:XK}{o e:Expr}{es:List Expr}{ta:TE}{t:TA}{apos pos:Pos}{tb:List (Addr×Sp)}
noncomputable def zH9(tb:List (Addr×Sp))(m:Str)(E:XK)(ta:TE)(t:TA):TE:=fun σ H Q=>ta σ H fun x H1=>∃a C dx fs sp,x=.ref a/\H1 a=some (.ins C dx fs)/\fs.lookup m=none/\(C,sp)∈tb/\t σ H1 fun vs H2=>sp (x::vs) H2 Q E
theorem zN0{pl:Sem Bool}(he:PE X o ta)(hM:∀p∈tb,∃j ps,j<=k/\HasM X.prog X.w X.K X.mg X.base p.1 m j ps p.2)(hr:Room k X.A)(hf:Flies X E)(ha:PA X (e::es) t)
  (hst:starEach (e::es) X.env=(false,eval e X.env)::starEach es X.env:=by rfl) (hpl:(backTo pos (starEach es X.env)).any (·.1)=false:=by rfl)
  (ht:eval (.Call (.Attribute o m apos) (e::es) [] pos) X.env=(do
   let ov <- eval o X.env
   standAt apos.atName
   let(f,first) <- holding [ov] (getMethod ov m pl)
   callWith pos f first (backTo pos (starEach (e::es) X.env)) (backToKw pos (keywordEach [] X.env))):=by rfl) :
  PE X (.Call (.Attribute o m apos) (e::es) [] pos) (zH9 tb m E ta t):=by
 intro pins s σ H Q I h;refine qCn (pl:=pl) (thn (he pins s σ H _ I h) fun u s1 z0=>?_) ht;obtain⟨x,H1,I1,rx,a,C,dx,fs,sp,ex,ea,l,ht,q⟩:=z0;subst ex;obtain rfl:u=Value.ref a:=rx;obtain⟨j,ps,hj,f,fd,c,hm,F,hb⟩:=hM _ ht;refine zFY I1 ea c hm l ?_;refine qBp (first:=[.ref a]) (h₀:=X.base) I.ok.mod.kin hm.kp (thn (ha pos pins s1 σ H1 _ I1 q) fun us s2 ⟨vs,H2,I2,r,q2⟩=>⟨I2.kIn,?_⟩) hst hpl;exact zOA (us:=.ref a::us) (vs:=.ref a::vs) (dvs:=[]) (ds:=[]) F (hr.mono hj) hb .nil hf.passes I2 (.cons rfl r) (by rw[qBi];exact q2)
theorem zEW:∀p∈([]:List (Addr×Sp)),∃j ps,j<=k/\HasM X.prog X.w X.K X.mg X.base p.1 m j ps p.2:=fun p h=>by simp at h
theorem zAW{C C':Addr}{sp:Sp}{j:Nat}{ps:List Str}(hc:C'=C)(h:HasM X.prog X.w X.K X.mg X.base C m j ps sp)(hj:j<=k)(hr:∀p∈tb,∃j ps,j<=k/\HasM X.prog X.w X.K X.mg X.base p.1 m j ps p.2) :
  ∀p∈(C',sp)::tb,∃j ps,j<=k/\HasM X.prog X.w X.K X.mg X.base p.1 m j ps p.2:=fun p hp=>by
 rcases qAa.mp hp with rfl|hp
 ·exact⟨j,ps,hj,by subst hc;exact h⟩
 ·exact hr p hp
end
structure OIs(K:qA0)(C:Addr):Prop where
 cl:Cls K C
 ha:qA3 K (.ref C) "__class__" = some (some (.builtin "object.__class__"))
 hn:qC3 K (.builtin "object.__class__") "__get__" = some (some (.builtin "getset_descriptor.__get__"))
 htk:qDn K (.builtin "object.__class__")=some true
 hm:qBm K C (.type "object")=some true
end L2
namespace Mi
open PySem
noncomputable section
noncomputable def svD:Dt->Option Sv
 |.int i=>some (.i i)
 |.str x=>some (.s x)
 |_=>none
def svsD:List Dt->Option (List Sv)
 |[]=>some []
 |d::r=>match svD d,svsD r with
  |some v,some vs=>some (v::vs)
  |_,_=>none
noncomputable def dSv:Sv->Dt
 |.i n=>.int n
 |.s x=>.str x
def eNew(c:Str)(fl:List Str)(am:AM):EM:=fun ρ=>zA3 (am ρ) fun ds=>match svsD ds with
 |some vs=>if vs.length=fl.length then okR (.ins c (fl.zip vs))else none
 |none=>none
def eNew0(c:Str):EM:=fun _=>okR (.ins c [])
def eFld(hs:List Str)(f:Str)(e:EM):EM:=fun ρ=>zA3 (e ρ) fun d=>match d with
 |.ins c fs=>if c∈hs then(match fs.lookup f with|some v=>okR (dSv v)|none=>none)else none
 |_=>none
def eMeth(tb:List (Str×FM))(m:Str)(e:EM)(am:AM):EM:=fun ρ=>zA3 (e ρ) fun d=>match d with
 |.ins c fs=>match tb.lookup c with
  |some g=>match fs.lookup m with
   |none=>zA3 (am ρ) fun ds=>g (d::ds)
   |some _=>none
  |none=>none
 |_=>none
def eIsO(ys ns:List Str)(e:EM):EM:=fun ρ=>zA3 (e ρ) fun d=>match d with
 |.ins c _=>if c∈ys then okR (.bl true)else if c∈ns then okR (.bl false)else none
 |_=>none
end
end Mi
namespace L3
open PySem PySem.Spec
open L2 hiding Rep RepL
open Mi (Dt Xn R okR zA3 optR zA0 zA6 zAC zAA zAB Rh Sl Ro EM TM AM FM IM SM OM Tg Out zAR zAQ zAU full frz frz1 frzAt)
theorem zCE{K:qA0}{c:Str}{C:Addr}(h:clK K c=some C):(clK K c).getD 0=C:=by rw[h];rfl
noncomputable def zFE(j:Nat):Stmt->Stmt
 |.ClassDef _ _ _ body _ _ _ _ _ _ _=>body.getD j (.Pass ⟨0,0,0,0⟩)
 |s=>s
structure OCls(K:qA0)(mg:Str->Option Value)(c:Str)(C:Addr):Prop where
 cl:clK K c=some C
 gm:mg c=some (.ref C)
 is:OIs K C
structure ONew(K:qA0)(mg:Str->Option Value)(c:Str)(C:Addr):Prop extends OCls K mg c C where
 mks:qBh K C=true
 ini:qA3 K (.ref C) "__init__" = some (some (.builtin "object.__init__"))
 kp:qAe K (.ref C)=true
structure OIni(P:Program)(w:World)(K:qA0)(mg:Str->Option Value)(base:Heap)(c:Str)(fl:List Str)(C:Addr):Prop extends OCls K mg c C where
 na:∀f∈fl,NoAttr K C f
 ini:∃fI fd ps,Mk K C fI/\FnOk P w K mg base (CXe P w) 1 fI fd ps (zG9 K fl)/\Binds K fd ps []
section
variable{X:Cx}{c:Str}{fl:List Str}{C:Addr}{k:Nat}{E:XK}{e:Expr}{es:List Expr}{t:TA}{p pos:Pos}
theorem zFU(h:OIni X.prog X.w X.K X.mg X.base c fl C)(hr:Room k X.A)(hk:2<=k)(hf:Flies X E)(hg:Gl X c)(ha:PA X (e::es) t)(hdb:(c==("__debug__":Str))=false:=by decide)
  (he:starEach (e::es) X.env=(false,eval e X.env)::starEach es X.env:=by rfl) (hpl:(backTo pos (starEach es X.env)).any (·.1)=false:=by rfl):PE X (.Call (.Name c p) (e::es) [] pos) (zPA C (zG9 X.K fl) [] E t):=by
 obtain⟨fI,fd,ps,M,F,hb⟩:=h.ini;exact zPR M F (hr.mono hk) hg h.gm hb .nil hf.passes ha hdb he hpl
theorem zPP(h:ONew X.K X.mg c C)(hg:Gl X c)(hdb:(c==("__debug__":Str))=false:=by decide):PE X (.Call (.Name c p) [] [] pos) (zKU C):=zL8 h.mks h.ini h.kp hg h.gm hdb
end
section
variable[Kc]{mg:Str->Option Value}{E:XK}{L n k l:Nat}{te ta tb:TE}{e ea eb ma:EM}{t:TA}{m:AM}
theorem zKW{G:Hp}:∀{ds:List Dt}{vs:List Mi.Sv}{xs:List V},Mi.svsD ds=some vs->RepL G ds xs->xs=vs.map svV
 |[],vs,xs,h,r=>by cases h;exact r
 |d::ds,vs,xs,h,r=>by
  obtain⟨x,q,rfl,a,b⟩:=r;rw[Mi.svsD]at h;cases e:Mi.svsD ds with
  |none=>rw[e]at h;cases e2:Mi.svD d<;>rw[e2]at h<;>cases h
  |some us=>
   rw[e]at h;have ih:=zKW e b;cases d with
   |int i=>cases h;cases(show x=.int i from a);rw[ih];rfl
   |str z=>cases h;cases(show x=.str z from a);rw[ih];rfl
   |_=>cases h
theorem zS9{G H:Hp}(s:Same G H){x dx:Addr}{o:HO}(hx:H x=none)(hdx:H dx=none)(hne:dx≠x):Ext G H (upd G x o) (upd (upd H dx (.own x)) x o):=by
 have gx:G x=none:=by
  cases e:G x with
  |none=>rfl
  |some u=>rw[s _ _ e]at hx;cases hx
 refine⟨fun b u e=>?_,fun b u e=>?_,fun b u e=>?_,fun b hb=>?_⟩
 ·by_cases z:b=x
  ·rw[z,gx]at e;cases e
  ·rw[zA9 z];exact e
 ·by_cases z:b=x
  ·rw[z,hx]at e;cases e
  ·by_cases y:b=dx
   ·rw[y,hdx]at e;cases e
   ·rw[zA9 z,zA9 y];exact e
 ·by_cases z:b=x
  ·rw[z,zAD]at e ⊢;exact e
  ·rw[zA9 z]at e;have e2:=s _ _ e
   by_cases y:b=dx
   ·rw[y,hdx]at e2;cases e2
   ·rw[zA9 z,zA9 y];exact e2
 ·by_cases z:b=x
  ·rw[z]at hb;exact absurd hx hb
  ·rw[zA9 z]
theorem zO1:∀(fl:List Str)(vs:List Mi.Sv),fl.zip (vs.map svV)=(fl.zip vs).map fun p=>(p.1,svV p.2)
 |[],_=>by simp
 |_::_,[]=>by simp
 |f::fl,v::vs=>by simp[zO1 fl vs]
theorem zG0{P:Program}{w:World}{base:Heap}{c:Str}{fl:List Str}{C:Addr}{E':XK}(h:OIni P w Kc.K mg base c fl C)(A:DA mg E t m 0):DE mg E (zPA C (zG9 Kc.K fl) [] E' t) (Mi.eNew c fl m) 0:=by
 intro G H σ ρ Q s w p;refine A.step errE s w p fun ds vs G1 H1 S T _ fr o p1=>?_
 cases e:Mi.svsD ds with
 |none=>rw[e]at p1;exact p1.elim
 |some us=>
  rw[e]at p1;dsimp only at p1
  split at p1
  ·rename_i hl
   have hv:=zKW e o.repL;intro x dx hx hdx hne;rw[qBi];refine⟨x,C,dx,vs,rfl,by rw[hv,qAx];exact hl,zAD,h.is.cl,h.na,rfl,?_⟩;rw[zKQ];exact PostE.kept p1 (fr.ext.trans (zS9 fr.ext.in' hx hdx hne)) ⟨x,C,dx,rfl,h.cl,by rw[zAD,hv,zO1]⟩
  ·exact p1.elim
theorem zQE{c:Str}{C:Addr}(h:ONew Kc.K mg c C):DE mg E (zKU C) (Mi.eNew0 c) 0:=by
 intro G H σ ρ Q s w p x dx hx hdx hne;exact PostE.kept p (zS9 s hx hdx hne) ⟨x,C,dx,rfl,h.cl,zAD⟩
theorem zGR(f:Str):∀fs:List (Str×Mi.Sv),(fs.map fun p=>(p.1,svV p.2)).lookup f=(fs.lookup f).map svV
 |[]=>rfl
 |(g,v)::r=>by
  rw[qAj,qAu,qAu,zGR f r];cases f==g<;>rfl
theorem zMC{f:Str}{hs:List Str}(hf:∀c∈hs,∃C,clK Kc.K c=some C/\OIs Kc.K C/\NoAttr Kc.K C f)(A:DE mg E ta ma k):DE mg E (tFld Kc.K ta f) (Mi.eFld hs f ma) n:=by
 intro G H σ ρ Q s w p;refine(zB0 A).step errE s w p fun d v G1 H1 S _ fr o p1=>?_
 cases d with
 |ins c fs=>
  obtain⟨a,C,dx,rfl,hc,ha⟩:=o;dsimp only at p1
  split at p1
  ·rename_i hm
   obtain⟨C',hc',c1,c2⟩:=hf c hm;rw[hc]at hc';cases hc';cases e:fs.lookup f with
   |none=>rw[e]at p1;exact p1.elim
   |some v=>
    rw[e]at p1;refine⟨a,C,dx,_,svV v,rfl,fr.ext.in' _ _ ha,c1.cl,c2,by rw[zGR,e];rfl,?_⟩;cases v with
    |i z=>exact PostE.val p1 fr.ext rfl rfl
    |s z=>exact PostE.val p1 fr.ext rfl rfl
  ·exact p1.elim
 |_=>exact p1.elim
theorem zJK{g:FM}{c:Str}:∀{tb:List (Str×FM)},tb.lookup c=some g->(c,g)∈tb
 |(d,h)::r,e=>by
  rw[qAu]at e;cases z:c==d with
  |true=>rw[z]at e;cases e;rw[beq_iff_eq.mp z];exact qB2 ..
  |false=>rw[z]at e;exact qAl _ (zJK e)
theorem zIO{tb:List (Str×FM)}{mn:Str}(A:DE mg E ta e k)(B:DA mg E t m 0):DE mg E (zH9 (tb.map fun p=>((clK Kc.K p.1).getD 0,spE Kc.K mg n p.2)) mn E ta t) (Mi.eMeth tb mn e m) n:=by
 intro G H σ ρ Q s w p;refine(zB0 A).step errE s w p fun d v G1 H1 S _ fr o p1=>?_
 cases d with
 |ins c fs=>
  obtain⟨a,C,dx,rfl,hc,ha⟩:=o;dsimp only at p1;cases e1:tb.lookup c with
  |none=>rw[e1]at p1;exact p1.elim
  |some g=>
   rw[e1]at p1;dsimp only at p1;cases e2:fs.lookup mn with
   |some _=>rw[e2]at p1;exact p1.elim
   |none=>
    rw[e2]at p1;dsimp only at p1;refine⟨a,C,dx,_,spE Kc.K mg n g,rfl,fr.ext.in' _ _ ha,by rw[zGR,e2];rfl,qCm.mpr ⟨(c,g),zJK e1,by rw[hc];rfl⟩,?_⟩;refine B.step (errE.from fr.ext) fr.ext.in' (w.mono fr.ext.g) p1 fun ds vs G2 H2 S2 T _ fr2 o2 p2=>?_
    exact⟨G2,.ins c fs::ds,(w.tab.trans fr.ext.g).trans fr2.ext.g,fr2.ext.in',⟨_,_,rfl,⟨a,C,dx,rfl,hc,fr2.ext.g _ _ ha⟩,o2.repL⟩,PostE.from p2 (fr.ext.trans fr2.ext)⟩
 |_=>exact p1.elim
end
end L3
namespace Mi
open PySem
noncomputable section
def zU2(c:Nat)(l:List Nat):Option Nat:=(posC c l.reverse).map fun i=>l.length-1-i
def rfindD(x:Dt)(ys:List Dt):Option Dt:=match x,ys with
 |.str z,[.str y]=>match y.cps.toList with
  |[c]=>some (.int (match zU2 c z.cps.toList with|some i=>(i:Int)|none=>-1))
  |_=>none
 |_,_=>none
noncomputable def upD:Dt->Option Dt
 |.str z=>match z.cps.toList with
  |[c]=>if 97<=c/\c<123 then some (.str ⟨#[c-32]⟩)else none
  |_=>none
 |_=>none
end
end Mi
namespace L2
open PySem PySem.Spec PyProof.Rows
section
variable{X:Cx}{m:Str}{k:Nat}{o e:Expr}{es:List Expr}{ta:TE}{t:TA}{apos pos:Pos}{tb:List (Addr×Sp)}
theorem zHI{pl:Sem Bool}(he:PE X.nox o ta)(hM:∀p∈tb,∃j ps,j<=k/\HasM X.prog X.w X.K X.mg X.base p.1 m j ps p.2)(hr:Room k X.A)(ha:PA X.nox (e::es) t)
  (hst:starEach (e::es) X.env=(false,eval e X.env)::starEach es X.env:=by rfl) (hpl:(backTo pos (starEach es X.env)).any (·.1)=false:=by rfl)
  (ht:eval (.Call (.Attribute o m apos) (e::es) [] pos) X.env=(do
   let ov <- eval o X.env
   standAt apos.atName
   let(f,first) <- holding [ov] (getMethod ov m pl)
   callWith pos f first (backTo pos (starEach (e::es) X.env)) (backToKw pos (keywordEach [] X.env))):=by rfl) :
  PEx X (.Call (.Attribute o m apos) (e::es) [] pos) (fun σ H Q E=>zH9 tb m E ta t σ H Q):=by
 intro pins s σ H Q E I h;refine qCn (pl:=pl) (thn (wpAny_mono (he pins s σ H _ (I.wish _) h) (fun _ _ ⟨v,H',I',r,q⟩=>(⟨v,H',I'.unwish,r,q⟩:EP X pins σ _ _ _)) fun _ _ z=>qA4 z) fun u s1 ⟨x,H1,I1,rx,a,C,dx,fs,sp,ex,ea,l,ht,q⟩=>?_) ht;subst ex;obtain rfl:u=Value.ref a:=rx;obtain⟨j,ps,hj,f,fd,c,hm,F,hb⟩:=hM _ ht;refine zFY I1 ea c hm l ?_;refine qBp (first:=[.ref a]) (h₀:=X.base) I.ok.mod.kin hm.kp (thn (PA.nox (M:=model X.prog X.w) ha pos I1 q) fun us s2 ⟨vs,H2,I2,r,q2⟩=>⟨I2.kIn,?_⟩) hst hpl;exact zPE (us:=.ref a::us) (vs:=.ref a::vs) (dvs:=[]) (ds:=[]) F (hr.mono hj) hb .nil I2 (.cons rfl r) (by rw[qBi];exact q2)
def upM:V->List V->Hp->VK->Prop:=fun x vs H Q=>match x,vs with
 |.str z,[]=>qD8 (Txt.upper z).length=false/\Q (.str (Txt.upper z)) H
 |_,_=>False
theorem zS8:MtR X "str.upper" upM:=by
 intro pins s σ H x vs v us Q I rx rv h;cases x with
 |str z=>
  cases vs with
  |nil=>
   obtain⟨t,rfl⟩:=rx;cases rv;exact SC.upper h.1 ⟨.str _,H,I.tok _,⟨_,rfl⟩,h.2⟩
  |cons _ _=>exact qA4 h
 |_=>exact qA4 h
end
section
variable{prog:Program}{w:World}{A:Around}{E:Value->Shared->Prop}{s:Shared}
end
section
variable{X:Cx}{pos:Pos}
end
theorem zQY:∀i,i<26->Txt.upper ⟨#[97+i]⟩=⟨#[65+i]⟩:=by decide +kernel
end L2
namespace L3
open PySem PySem.Spec
open L2 hiding Rep RepL
open Mi (Dt Xn R okR zA3 optR zA0 zA6 zAC zAA zAB Rh Sl Ro EM TM AM FM IM SM OM Tg Out zAR zAQ zAU full frz frz1 frzAt)
section
variable[Kc]{mg:Str->Option Value}{E:XK}{L n k l:Nat}{te ta tb:TE}{e ea eb ma:EM}{t:TA}{m:AM}
theorem zU9(A:DE mg E te e k):DE mg E (tBM0 Kc.K "str" upM te) (Mi.eU Mi.upD e) n:=by
 intro G H σ ρ Q s w p;refine(zB0 A).step errE s w p fun d v G1 H1 S _ fr o p1=>?_
 cases d with
 |str z=>
  cases(show v=.str z from o)
  refine⟨rfl,?_⟩;obtain⟨⟨l⟩⟩:=z;cases l with
  |nil=>exact qA4 p1
  |cons c tl1=>
   cases tl1 with
   |nil=>
    have p2:PostE mg E G H n (optR (if 97<=c/\c<123 then some (Dt.str ⟨#[c-32]⟩)else none)) Q:=p1
    split at p2
    ·rename_i hc
     have hu:=zQY (c-97) (by lia);rw[show 97+(c-97)=c by lia,show 65+(c-97)=c-32 by lia]at hu;refine⟨?_,?_⟩
     ·show qD8 (Txt.upper ⟨#[c]⟩).length=false;rw[hu];rfl
     ·show Q (.str (Txt.upper ⟨#[c]⟩)) H1;rw[hu];exact PostE.val p2 fr.ext rfl rfl
    ·exact p2.elim
   |cons _ _=>exact qA4 p1
 |_=>exact p1.elim
end
end L3
namespace L2
open PySem PySem.Spec PyProof.Rows
section
variable{prog:Program}{w:World}{A:Around}{E:Value->Shared->Prop}{s:Shared}
end
end L2
namespace L2
open PySem PySem.Spec PyProof.Rows
section
variable{prog:Program}{w:World}{A:Around}{R:Result->Shared->Prop}{I:Addr}{fp wr:List Addr}{G:Array GenState->Array GenState->Prop}{n:Nat}{St:Nat->Shared->Prop}{led:Bool}{z:Str}
end
end L2
namespace PySem
open PyProof.Rows
end PySem
namespace L2
open PySem PySem.Spec PyProof.Rows
section
variable{prog:Program}{w:World}{A:Around}{E:Value->Shared->Prop}{s:Shared}
end
end L2
namespace Mi
open PySem
noncomputable section
end
end Mi
namespace L2
open PySem PySem.Spec PyProof.Rows
section
variable{X:Cx}{pins:List (Addr×Obj)}{σ:List (Option V)}{H:Hp}{s:Shared}
end
end L2
namespace L3
open PySem PySem.Spec
open PyProof.Rows (risingS sortedS ltCps_eq)
open L2 hiding Rep RepL
open Mi (Dt Xn R okR zA3 optR zA0 zA6 zAC zAA zAB Rh Sl Ro EM TM AM FM IM SM OM Tg Out zAR zAQ zAU full frz frz1 frzAt)
section
variable[Kc]{mg:Str->Option Value}{E:XK}{L n k l:Nat}{te ta tb:TE}{e ea eb ma:EM}{t:TA}{m:AM}
end
end L3
namespace Mi
open PySem
noncomputable section
end
end Mi
namespace PySem
open Builtin Builtin.Str PySem.Spec
end PySem
namespace L2
open PySem PySem.Spec PyProof.Rows
section
variable{X:Cx}{pins:List (Addr×Obj)}{σ:List (Option V)}{H:Hp}{s:Shared}
end
end L2
namespace L3
open PySem PySem.Spec
open PyProof.Rows (risingS sortedS ltCps_eq)
open L2 hiding Rep RepL
open Mi (Dt Xn R okR zA3 optR zA0 zA6 zAC zAA zAB Rh Sl Ro EM TM AM FM IM SM OM Tg Out zAR zAQ zAU full frz frz1 frzAt)
section
variable[Kc]{mg:Str->Option Value}{E:XK}{L n k l:Nat}{te ta tb:TE}{e ea eb ma:EM}{t:TA}{m:AM}
end
end L3
namespace Mi
open PySem
noncomputable section
end
end Mi
namespace L2
open PySem PySem.Spec PyProof.Rows
section
variable{prog:Program}{w:World}{A:Around}{E:Value->Shared->Prop}{s:Shared}
end
section
variable{X:Cx}{pins:List (Addr×Obj)}{σ:List (Option V)}{H:Hp}{s:Shared}
end
end L2
namespace L3
open PySem PySem.Spec
open L2 hiding Rep RepL
open Mi (Dt Xn R okR zA3 optR zA0 zA6 zAC zAA zAB Rh Sl Ro EM TM AM FM IM SM OM Tg Out zAR zAQ zAU full frz frz1 frzAt)
section
variable[Kc]{mg:Str->Option Value}{E:XK}{L n k l:Nat}{te ta tb:TE}{e ea eb ma:EM}{t:TA}{m:AM}
end
end L3
namespace L2
open PySem PySem.Spec
section
variable{X:Cx}
end
end L2
namespace Mi
open PySem
noncomputable section
end
end Mi
namespace L2
open PySem PySem.Spec PyProof.Rows
section
variable{prog:Program}{w:World}{A:Around}{E:Value->Shared->Prop}{s:Shared}{T:String}{r:Addr}{fp:List Addr}{n:Nat}{P:Nat->Value->Prop}{St:Nat->Heap->Prop}
end
section
variable{prog:Program}{w:World}{A:Around}{E:Value->Shared->Prop}{s:Shared}{x:Str}{t:Tok}
end
end L2
namespace L2
open PySem PySem.Spec PyProof.Rows
section
variable{X:Cx}{pins:List (Addr×Obj)}{σ:List (Option V)}{H:Hp}{s:Shared}
end
end L2
namespace L3
open PySem PySem.Spec
open L2 hiding Rep RepL
open Mi (Dt Xn R okR zA3 optR zA0 zA6 zAC zAA zAB Rh Sl Ro EM TM AM FM IM SM OM Tg Out zAR zAQ zAU full frz frz1 frzAt)
section
variable[Kc]{mg:Str->Option Value}{E:XK}{L n k l:Nat}{te ta tb:TE}{e ea eb ma:EM}{t:TA}{m:AM}
end
end L3
namespace Mi
open PySem
noncomputable section
end
end Mi
namespace L3
open PySem PySem.Spec
open L2 hiding Rep RepL
open Mi (Dt Xn R okR zA3 optR zA0 zA6 zAC zAA zAB Rh Sl Ro EM TM AM FM IM SM OM Tg Out zAR zAQ zAU full frz frz1 frzAt)
section
variable[Kc]{mg:Str->Option Value}{E:XK}{L n k l:Nat}
end
end L3
namespace Mi
open PySem
noncomputable section
end
end Mi
namespace PySem
open Builtin Builtin.Str PySem.Spec
end PySem
namespace L2
open PySem PySem.Spec PyProof.Rows
section
variable{X:Cx}{pins:List (Addr×Obj)}{σ:List (Option V)}{H:Hp}{s:Shared}
end
end L2
namespace L3
open PySem PySem.Spec
open L2 hiding Rep RepL
open Mi (Dt Xn R okR zA3 optR zA0 zA6 zAC zAA zAB Rh Sl Ro EM TM AM FM IM SM OM Tg Out zAR zAQ zAU full frz frz1 frzAt)
section
variable[Kc]{mg:Str->Option Value}{E:XK}{L n k l:Nat}
end
end L3
namespace PySem
open Sem (wp)
section
variable{prog:Program}{w:World}{A:Around}{K:Type}[DecidableEq K]{knd:KeyKind prog w K}
end
end PySem
namespace Mi
open PySem
noncomputable section
noncomputable def kyD:Dt->Option (Sum Int Str)
 |.int i=>some (.inl i)
 |.str x=>some (.inr x)
 |_=>none
noncomputable def swD:Dt->Option Sw
 |.non=>some .non
 |.bl b=>some (.bl b)
 |.int i=>some (.int i)
 |.str x=>some (.str x)
 |_=>none
noncomputable def getW(kvs:List (Sum Int Str×Sw))(k:Sum Int Str):Option Sw:=(kvs.find? fun p=>decide (p.1=k)).map (·.2)
noncomputable def putW(kvs:List (Sum Int Str×Sw))(k:Sum Int Str)(v:Sw):List (Sum Int Str×Sw):=
 if(kvs.any fun p=>decide (p.1=k))=true then kvs.map (fun p=>if p.1=k then(p.1,v)else p)else kvs++[(k,v)]
def zST:EM:=fun _=>okR (.dct [])
def dinD(ng:Bool)(x y:Dt):Option Dt:=match y with
 |.dct kvs=>match kyD x with
  |some k=>some (.bl (if ng=true then !(getW kvs k).isSome else(getW kvs k).isSome))
  |none=>none
 |_=>none
def zTN(i:Nat)(e1 e2:EM):SM:=fun ρ=>zA3 (e2 (full ρ)) fun v=>match ρ[i]? with
 |some (some (.dct kvs,k+1))=>zA3 (e1 (full ρ)) fun y=>match kyD y,swD v with
  |some q,some u=>@ite _ (kvs.length<=100000) (qA1 _) (okR (.nx (ρ.set i (some (.dct (putW kvs q u),k+1))))) none
  |_,_=>none
 |_=>none
def zOG:List Dt->Option (List (Sum Int Str×Sw))
 |[]=>some []
 |.tup [a,b]::r=>match kyD a,swD b,zOG r with
  |some k,some v,some q=>some ((k,v)::q)
  |_,_,_=>none
 |_::_=>none
def zTL(i:Nat)(e:EM):SM:=fun ρ=>match ρ[i]? with
 |some (some (.dct kvs,k+1))=>zA3 (e (full ρ)) fun d=>match d with
  |.lst ds=>match zOG ds with
   |some ps=>@ite _ (kvs.length+ps.length<=50000) (qA1 _) (okR (.nx (ρ.set i (some (.dct (ps.foldl (fun m p=>putW m p.1 p.2) kvs),k+1))))) none
   |none=>none
  |_=>none
 |_=>none
end
end Mi
namespace L2
open PySem PySem.Spec PyProof.Rows
section
variable{X:Cx}
variable{o e:Expr}{es:List Expr}{to:TE}{t:TA}{name:Str}{apos cpos:Pos}{T id:String}{r:V->List V->Hp->VK->Prop}
end
end L2
namespace L3
open PySem PySem.Spec
open L2 hiding Rep RepL
open Mi (Dt Xn R okR zA3 optR zA0 zA6 zAC zAA zAB Rh Sl Ro EM TM AM FM IM SM OM Tg Out zAR zAQ zAU full frz frz1 frzAt)
section
variable[Kc]{mg:Str->Option Value}{E:XK}{L n k l:Nat}{te ta tb tx td:TE}{e ea eb ex ed ma:EM}{t:TA}{m:AM}
end
end L3
namespace Mi
open PySem
noncomputable section
end
end Mi
namespace L2
open PySem PySem.Spec PyProof.Rows
section
variable{X:Cx}{pins:List (Addr×Obj)}{σ:List (Option V)}{H:Hp}{s:Shared}
end
section
variable{X:Cx}
end
end L2
namespace L3
open PySem PySem.Spec
open L2 hiding Rep RepL
open Mi (Dt Xn R okR zA3 optR zA0 zA6 zAC zAA zAB Rh Sl Ro EM TM AM FM IM SM OM Tg Out zAR zAQ zAU full frz frz1 frzAt)
section
variable[Kc]{mg:Str->Option Value}{E:XK}{L n k l:Nat}{te ta tb:TE}{e ea eb ma:EM}{t:TA}{m:AM}
end
end L3
namespace Mi
open PySem
noncomputable section
end
end Mi
namespace L2
open PySem PySem.Spec PyProof.Rows
section
variable{X:Cx}{e m1:Expr}{te ts:TE}{pos p2:Pos}
end
end L2
namespace L3
open PySem PySem.Spec
open L2 hiding Rep RepL
open Mi (Dt Xn R okR zA3 optR zA0 zA6 zAC zAA zAB Rh Sl Ro EM TM AM FM IM SM OM Tg Out zAR zAQ zAU full frz frz1 frzAt)
section
variable[Kc]{mg:Str->Option Value}{E:XK}{L n k l:Nat}
end
end L3
namespace Mi
open PySem
noncomputable section
end
end Mi
namespace L2
open PySem PySem.Spec PyProof.Rows
section
variable{X:Cx}
end
end L2
namespace L3
open PySem PySem.Spec PyProof.Rows
open L2 hiding Rep RepL
open Mi (Dt R Rh EM TM SM AM IM Xn Sl Ro Out okR zA3 optR full frz frzAt)
section
variable[Kc]{mg:Str->Option Value}{E:XK}{n L:Nat}{te ta tb:TE}{e:EM}{m m':SM}
end
end L3
namespace Mi
open PySem
noncomputable section
end
end Mi
namespace L2
open PySem PySem.Spec PyProof.Rows
section
variable{X:Cx}{tg:Expr}
end
section
variable{prog:Program}{w:World}{A:Around}{E:Value->Shared->Prop}{s:Shared}
end
section
variable{X:Cx}
end
end L2
namespace L3
open PySem PySem.Spec
open PyProof.Rows (risingS sortedS ltCps_eq)
open L2 hiding Rep RepL
open Mi (Dt Xn R okR zA3 optR zA0 zA6 zAC zAA zAB Rh Sl Ro EM TM AM FM IM SM OM Tg Out zAR zAQ zAU full frz frz1 frzAt)
section
variable[Kc]{mg:Str->Option Value}{E:XK}{L n k l:Nat}{t:TA}{m:AM}
end
end L3
namespace Mi
open PySem
noncomputable section
end
end Mi
namespace L3
open PySem PySem.Spec
open L2 hiding Rep RepL
open Mi (Dt Xn R okR zA3 optR zA0 zA6 zAC zAA zAB Rh Sl Ro EM TM AM FM IM SM OM Tg Out zAR zAQ zAU full frz frz1 frzAt)
section
variable[Kc]{mg:Str->Option Value}{E:XK}{L n k l:Nat}{te:TE}{e:EM}
section
variable{G0 H0 S0:Hp}{σ:St}{ρ:Ro}{G H:Hp}{As:Nat->Addr->Prop}
end
end
end L3
namespace Mi
open PySem
noncomputable section
end
end Mi
namespace L2
open PySem PySem.Spec PyProof.Rows
section
variable{X:Cx}
end
end L2
namespace L3
open PySem PySem.Spec
open L2 hiding Rep RepL
open Mi (Dt Xn R okR zA3 optR zA0 zA6 zAC zAA zAB Rh Sl Ro EM TM AM FM IM SM OM Tg Out zAR zAQ zAU full frz frz1 frzAt)
section
variable[Kc]{mg:Str->Option Value}{E:XK}{L n k l:Nat}{te ta tb tx td:TE}{e ea eb ex ed ma:EM}{t:TA}{m:AM}
end
end L3
namespace Mi
open PySem
noncomputable section
end
end Mi
namespace L2
open PySem PySem.Spec PyProof.Rows
section
variable{prog:Program}{w:World}{A:Around}{E:Value->Shared->Prop}{s:Shared}
end
section
variable{X:Cx}
end
end L2
namespace L3
open PySem PySem.Spec
open L2 hiding Rep RepL
open Mi (Dt Xn R okR zA3 optR zA0 zA6 zAC zAA zAB Rh Sl Ro EM TM AM FM IM SM OM Tg Out zAR zAQ zAU full frz frz1 frzAt)
section
variable[Kc]{mg:Str->Option Value}{E:XK}{L n k l:Nat}
end
end L3
namespace Mi
open PySem
noncomputable section
end
end Mi
namespace L2
open PySem PySem.Spec PyProof.Rows
section
variable{prog:Program}{w:World}{A:Around}{E:Value->Shared->Prop}{s:Shared}
end
section
variable{X:Cx}{o:Expr}{td:TE}{p apos cpos pos:Pos}
end
end L2
namespace L3
open PySem PySem.Spec
open PyProof.Rows (risingS sortedS ltCps_eq)
open L2 hiding Rep RepL
open Mi (Dt Xn R okR zA3 optR zA0 zA6 zAC zAA zAB Rh Sl Ro EM TM AM FM IM SM OM Tg Out zAR zAQ zAU full frz frz1 frzAt)
section
variable[Kc]{mg:Str->Option Value}{E:XK}{L n k l:Nat}{te ta td:TE}{e ea ed:EM}
end
end L3
namespace Mi
open PySem
noncomputable section
end
end Mi
namespace L2
open PySem
end L2
namespace L2
open PySem PySem.Spec PyProof.Rows
section
variable{prog:Program}{w:World}{A:Around}{E:Value->Shared->Prop}{s:Shared}
end
section
variable{prog:Program}{w:World}{A:Around}{R:Result->Shared->Prop}{I:Addr}{fp wr:List Addr}{G:Array GenState->Array GenState->Prop}{n:Nat}{St:Nat->Shared->Prop}{led:Bool}{items:Array Value}{ns:List Int}
end
end L2
namespace PySem
open PyProof.Rows
end PySem
namespace L2
open PySem PySem.Spec PyProof.Rows
section
variable{prog:Program}{w:World}{A:Around}{E:Value->Shared->Prop}{s:Shared}
end
section
variable{X:Cx}{pins:List (Addr×Obj)}{σ:List (Option V)}{H:Hp}{s:Shared}
end
end L2
namespace L3
open PySem PySem.Spec
open L2 hiding Rep RepL
open Mi (Dt Xn R okR zA3 optR zA0 zA6 zAC zAA zAB Rh Sl Ro EM TM AM FM IM SM OM Tg Out zAR zAQ zAU full frz frz1 frzAt)
section
variable[Kc]{mg:Str->Option Value}{E:XK}{L n k l:Nat}{te ta tb:TE}{e ea eb ma:EM}{t:TA}{m:AM}
end
end L3
namespace Mi
open PySem
noncomputable section
end
end Mi
namespace L2
open PySem PySem.Spec PyProof.Rows
section
variable{prog:Program}{w:World}{A:Around}{E:Value->Shared->Prop}{s:Shared}
end
section
variable{X:Cx}{K:qA0}
end
section
variable{X:Cx}{e m1:Expr}{te ts:TE}{pos p2:Pos}
end
end L2
namespace L2
open PySem PySem.Spec PyProof.Rows
section
variable{prog:Program}{w:World}{A:Around}{R:Result->Shared->Prop}{I:Addr}{fp wr:List Addr}{G:Array GenState->Array GenState->Prop}{n:Nat}{St:Nat->Shared->Prop}{led:Bool}{items:Array Value}{zs:List Str}
end
end L2
namespace PySem
open PyProof.Rows
end PySem
namespace L2
open PySem PySem.Spec PyProof.Rows
section
variable{X:Cx}{pins:List (Addr×Obj)}{σ:List (Option V)}{H:Hp}{s:Shared}
end
end L2
namespace L3
open PySem PySem.Spec
open L2 hiding Rep RepL
open Mi (Dt Xn R okR zA3 optR zA0 zA6 zAC zAA zAB Rh Sl Ro EM TM AM FM IM SM OM Tg Out zAR zAQ zAU full frz frz1 frzAt)
section
variable[Kc]{mg:Str->Option Value}{E:XK}{L n k l:Nat}{te ta tb:TE}{e ea eb ma:EM}{t:TA}{m:AM}
end
end L3
namespace L2
open PySem
theorem uw1{P:List Value->Prop}(h:∀a,P [a]):∀us:List Value,us.length=1->P us
 |[a],_=>h a
theorem uw2{P:List Value->Prop}(h:∀a b,P [a,b]):∀us:List Value,us.length=2->P us
 |a::us,hl=>uw1 (P:=fun us=>P (a::us)) (h a) us (qFv hl)
theorem uw3{P:List Value->Prop}(h:∀a b c,P [a,b,c]):∀us:List Value,us.length=3->P us
 |a::us,hl=>uw2 (P:=fun us=>P (a::us)) (h a) us (qFv hl)
theorem oi{p q:Prop}(h:p\/q:=by first|exact qFr rfl|exact qFs rfl):p\/q:=h
end L2
namespace L3
open PySem PyProof.Rows
open L2 hiding Rep RepL
section
variable{P:Program}{w:World}{K:qA0}{mg:Str->Option Value}{base:Heap}{x:Str}{st:Stmt}{N ps:List Str}{k:Nat}{sp:Sp}
theorem mkD{K:qA0}{h:Heap}{mg:Str->Option Value}{nm:Str}{st:Stmt}{f:Addr}{oc kV dc pm cd ct:Value}{od an:Option Addr}{sl:Array (Option Value)}(X:K.In h)(G:h.Ns mainGlobals mg)(a:qAo K mainGlobals nm=some (some (.ref f)))(l:K.lookup f=some ⟨oc,od,.func (qAt nm nm (zB2 st) (zAP st) (zA8 st) .none kV dc pm an cd ct),sl⟩)(c:qAy K cd nm=true)(k:qAe K (.ref f)=true):Def K mg nm st:=⟨f,_,zCC (st:=st) l c k,qBa X G a⟩
end
section
variable{X:Cx}{pos:Pos}
end
end L3
namespace Mi
open PySem
noncomputable section
end
end Mi
namespace L3
open PySem PySem.Spec
open L2 hiding Rep RepL
open Mi (Dt Xn R okR zA3 optR zA0 zA6 zAC zAA zAB Rh Sl Ro EM TM AM FM IM SM Tg Out zAR zAQ zAU full frz frz1 frzAt)
section
variable[Kc]
section
variable{G0 H0 S0:Hp}{σ:St}{ρ:Ro}{G H:Hp}{As:Nat->Addr->Prop}
end
variable{mg:Str->Option Value}{E:XK}{L n k l:Nat}{te ta tb:TE}{e ea eb ma:EM}{t:TA}{m:AM}
end
end L3
namespace Mi
open PySem
noncomputable def lamF(n:Nat)(e:EM):FM:=fun ds=>if ds.length=n then e (ds.map some)else none
end Mi
namespace L3
open PySem PySem.Spec
open L2 hiding Rep RepL
open Mi (Dt Xn R okR zA3 optR zA0 zA6 zAC zAA zAB Rh Sl Ro EM TM AM FM IM SM Tg Out zAR zAQ zAU full frz frz1 frzAt)
variable[Kc]
section
variable{G H:Hp}{cl:Addr}{co:Obj}
mutual
theorem Rep.del(hc:G cl=some (cel co)):∀{d:Dt}{v:V},d.dep<=40->Rep G d v->Rep (del G cl) d v
 |.non,_,_,h=>h
 |.bl _,_,_,h=>h
 |.int _,_,_,h=>h
 |.str _,_,_,h=>h
 |.lst ds,_,hd,h=>by
  obtain⟨a,xs,e,e',r⟩:=h;exact⟨a,xs,e,(zOX (zN6 e' hc (by simp))).trans e',RepL.del hc (by rw[Dt.dep]at hd;lia) r⟩
 |.tup ds,_,hd,h=>by
  obtain⟨a,xs,e,e',r⟩:=h;exact⟨a,xs,e,(zOX (zN6 e' hc (by simp))).trans e',RepL.del hc (by rw[Dt.dep]at hd;lia) r⟩
 |.scr _,_,h,_=>by rw[Dt.dep]at h;lia
 |.exc _ _ _,_,h,_=>by rw[Dt.dep]at h;lia
 |.ins _ _,_,h,_=>by rw[Dt.dep]at h;lia
 |.dct _,_,h,_=>by rw[Dt.dep]at h;lia
 |.fn _ _,_,h,_=>by rw[Dt.dep]at h;lia
theorem RepL.del(hc:G cl=some (cel co)):∀{ds:List Dt}{xs:List V},Dt.depL ds<=40->RepL G ds xs->RepL (del G cl) ds xs
 |[],_,_,h=>h
 |d::r,_,hd,h=>by
  rw[Dt.depL]at hd;obtain⟨x,q,e,a,b⟩:=h;exact⟨x,q,e,Rep.del hc (by lia) a,RepL.del hc (by lia) b⟩
end
end
variable{mg:Str->Option Value}{E:XK}{n:Nat}
end L3
namespace L3
open PySem PySem.Spec
open L2 hiding Rep RepL
open Mi (Dt EM FM okR)
end L3
namespace L3
open PySem PySem.Spec PyProof.Rows
open L2 hiding Rep RepL
structure Tabs(K:qA0)(ts:List Addr):Prop where
 no:∀P∈ts,K.lookup P=none
 «in»:∀x∈makers,∀P,codP K x=some P->(lamK K x).isSome=true->P∈ts/\∃c,qBk K c P=true
theorem zH8{K:qA0}{ts:List Addr}(T:Tabs K ts){P:Addr}{u:HO}(h:tabK K P=some u):P∈ts/\(∃q,u=.lam q)/\∃c,qBk K c P=true:=by
 unfold tabK at h;cases e:makers.find? fun x=>codP K x==some P&&(lamK K x).isSome with
 |none=>rw[e]at h;cases h
 |some x=>
  rw[e]at h;cases h;have h1:=List.mem_of_find?_eq_some e;have h2:=List.find?_some e;simp only[qBd,beq_iff_eq]at h2;obtain⟨a,b⟩:=T.in x h1 P h2.1 h2.2;exact⟨a,⟨_,rfl⟩,b⟩
theorem zLS{P:Program}{w:World}{K:qA0}{mg mb:Str->Option Value}{CX:CXT}{k:Nat}{fa a:Addr}{fd:FuncData}{x:Str}{sp:Sp}{s₁:Shared}{vs:List Value}{ns:List Int}{ts:List Addr}
  (KX:K.In s₁.heap) (hT:∀P∈ts,s₁.heap.get? P=some (qDw #[])) (T:Tabs K ts) (hns:s₁.heap.Ns mainGlobals mg) (hb:s₁.heap.Ns builtinsNs mb) (hbb:∀x:Str,x ≠ "__name__" -> mb x=bootBuiltins x) (hlim:s₁.heap.NoLimit)
  (hbm:∃bm ob,mg "__builtins__" = some (.ref bm)/\bm≠builtinsNs/\s₁.heap.get? bm=some ob/\ob.cls=.type "module" /\ ob.dict=some builtinsNs/\ob.data=.plain) (hg:s₁.gens=#[])
  (ha:s₁.heap.get? a=some { cls:=.type "list",data:=.seq vs.toArray }) (hi:IntsAre vs ns) (hl:ns.length<=sizeLine) (hr:Room k callerA)
  (F:∀base:Heap,K.In base->base.Ns mainGlobals mg->FnOk P w K mg base CX k fa fd [x] sp) (hbind:∀(s:Shared)(u:Value),BindsTo s fd ⟨[u],[]⟩ [(x,u)])
  (hsp:∀H:Hp,Same (tabK K) H->SqL K H a (ns.map V.int)->sp [.ref a] H (fun v H'=>v=.bl true/\Same (tabK K) H') fun _ _ _=>False)
  (hCX:∀H e s',CX [] H s₁ (fun _ _ _=>False) e s'->False) :
  codeAny (model P w) callerA (.call (.ref fa) ⟨[.ref a],[]⟩) (fun r s'=>r=.ok (.ret (.bool true))/\OldK s₁.heap s'.heap/\s'.os=s₁.os/\AllBare s'.gens) s₁:=by
 have rv:=zH7 hi;have lenV:=hi.length;have tabO:∀{b:Addr}{u:HO},tabK K b=some u->s₁.heap.get? b=some (qDw #[]):=fun e=>hT _ (zH8 T e).1
 have core:∀H:Hp,(∀b u,H b=some u->(b=a/\∃o xs,u=.frz o (.lst xs))\/tabK K b=some u)->Same (tabK K) H->SqL K H a (ns.map V.int)->HOk P w H s₁.heap->(∀b,H b≠none->K.lookup b=none) ->
   codeAny (model P w) callerA (.call (.ref fa) ⟨[.ref a],[]⟩) (fun r s'=>r=.ok (.ret (.bool true))/\OldK s₁.heap s'.heap/\s'.os=s₁.os/\AllBare s'.gens) s₁:=by
  intro H hO hTab hS hok hK;have base_of:∀{b:Addr}{o:Obj},s₁.heap.get? b=some o->H b=none->(hidT s₁.heap H).get? b=some o:=fun e n=>zNJ e n
  have noA:∀{b:Addr}{o:Obj},s₁.heap.get? b=some o->(∀v,o.data≠.fields v)->(∀v n,o.data≠.seq v n)->H b=none:=fun{b o} e d1 d2=>by
   cases q:H b with
   |none=>rfl
   |some u=>
    rcases hO b u q with⟨z,_⟩|z
    ·subst z;rw[ha]at e;cases e;exact absurd rfl (d2 _ _)
    ·rw[tabO z]at e;cases e;exact absurd rfl (d1 _)
  have nsK:∀{b:Addr}{m:Str->Option Value},s₁.heap.Ns b m->(hidT s₁.heap H).Ns b m:=fun{b m} ⟨o,es,ep,e,d,r⟩=>⟨o,es,ep,base_of e (noA e (fun v z=>by rw[d]at z;cases z) fun v n z=>by rw[d]at z;cases z),d,r⟩
  have hKb:K.In (hidT s₁.heap H):=fun b o e=>base_of (KX b o e) (by
   cases q:H b with
   |none=>rfl
   |some u=>rw[hK b (by rw[q];simp)]at e;cases e)
  have hM:Mod K mg (hidT s₁.heap H):=⟨hKb,nsK hns,⟨mb,nsK hb,hbb⟩,let⟨mc,h1,h2⟩:=hlim;⟨mc,nsK h1,h2⟩,let⟨bm,ob,e1,e2,e3,e4,e5,e6⟩:=hbm;⟨bm,ob,e1,e2,base_of e3 (noA e3 (fun v z=>by rw[e6]at z;cases z) fun v n z=>by rw[e6]at z;cases z),e4,e5,e6⟩⟩
  have e0:Env0 P w K mg (hidT s₁.heap H) callerA [] s₁ H:=⟨rfl,hM,fun b o e=>zPW e,qD2 (zLZ _ _),trivial,fun b hb=>absurd (show b∈([]:List Addr) from hb) (by simp),hok,.of_eq hg⟩
  refine codeAny_mono ((F _ hKb (nsK hns)).run callerA [] s₁ H ⟨[.ref a],[]⟩ [.ref a] [.ref a] _ _ hr e0 (hbind s₁ (.ref a)) (.cons rfl .nil) (hsp H hTab hS)) fun r s' h=>?_
  cases r with
  |error e=>exact(hCX H e s' h).elim
  |ok fl=>
   cases fl with
   |next=>exact qA4 h
   |brk=>exact qA4 h
   |cont=>exact qA4 h
   |ret u=>
    obtain⟨v,H',os,bare,un,hok',r',q,qT⟩:=h;subst q;obtain rfl:u=Value.bool true:=r';refine⟨rfl,⟨fun b o e=>?_,fun b o e=>un.there b o e (by simp)⟩,os,bare⟩;cases q:H b with
    |none=>exact .inl (un.keep b o e q (by intro z;exact absurd (show b∈([]:List Addr) from z) (by simp)) (by simp))
    |some u=>
     rcases hO b u q with⟨_,ob,xs,rfl⟩|z
     ·have z2:=un.frzs b ob _ q;obtain⟨e1,_⟩:=hok b _ q;obtain⟨e2,_⟩:=hok' b _ z2;rw[e]at e1;cases e1;exact .inl e2
     ·obtain⟨hts,⟨qq,rfl⟩,c,hc⟩:=zH8 T z;obtain⟨ps,e2,_⟩:=hok' b _ (qT _ _ z);have e3:=hT b hts;rw[e3]at e;cases e;exact .inr (.inl ⟨((PySem.W.codeHd_of_K KX hc).tab e3).isCodeTable,rfl,#[],ps,rfl,by rw[e2];simp⟩)
 have tOk:∀{H:Hp}{b:Addr}{u:HO},tabK K b=some u->ObjOk P w H s₁.heap b u:=fun{H b u} z=>by
  obtain⟨hts,⟨q,rfl⟩,_⟩:=zH8 T z;exact⟨#[],hT b hts,trivial,fun pos cv y=>by simp[codeAmong]at y⟩
 have nta:tabK K a=none:=by
  cases z:tabK K a with
  |none=>rfl
  |some u=>have:=tabO z;rw[ha]at this;cases this
 cases hk:K.lookup a with
 |some o=>
  have e:=KX a o hk;rw[ha]at e;cases e;exact core (tabK K) (fun b u z=>.inr z) (Same.refl _) (.inr ⟨_,vs.toArray,_,hk,rfl,rfl,rfl,by rw[qAh,lenV];exact hl,by simpa using rv⟩) (fun b u z=>tOk z) fun b z=>by
   cases y:tabK K b with
   |none=>exact absurd y z
   |some u=>exact T.no b (zH8 T y).1
 |none=>
  refine core (upd (tabK K) a (.frz { cls:=.type "list",data:=.seq vs.toArray } (.lst (ns.map V.int)))) (fun b u z=>?_) (fun b u z=>?_) (.inl (.inr ⟨{ cls:=.type "list",data:=.seq vs.toArray },zAD⟩)) (fun b u z=>?_) fun b z=>?_
  ·by_cases hb:b=a
   ·subst hb;rw[zAD]at z;cases z;exact .inl ⟨rfl,_,_,rfl⟩
   ·rw[zA9 hb]at z;exact .inr z
  ·rw[zA9 (zAI z nta)];exact z
  ·by_cases hb:b=a
   ·subst hb;rw[zAD]at z;cases z;exact⟨ha,by rw[qAx];exact hl,vs,_,rv,ha⟩
   ·rw[zA9 hb]at z;exact tOk z
  ·by_cases hb:b=a
   ·subst hb;exact hk
   ·rw[zA9 hb]at z;cases y:tabK K b with
    |none=>exact absurd y z
    |some u=>exact T.no b (zH8 T y).1
theorem zML{l:qD1}{n k:Nat}{q:Program}{loose:List Str}{XP:(Str->Option Value)->Heap->Prop}{YP:World->Heap->Prop}{d:DefRec}{K:Params->qA0}{CX:World->CXT}{sp:World->Sp}{x:Str}{ts:List Addr}
  (hn:l.most=some n) (hn2:n<=sizeLine) (hdf:d.params.defaults=[]) (hr:Room k callerA)
  (hY:∀(w:World)(h:Heap),YP w h->(K w.params).In h/\∀P∈ts,h.get? P=some (qDw #[]))
  (F:∀(w:World)(mg:Str->Option Value)(fa:Addr)(h:Heap),(K w.params).In h->h.Ns mainGlobals mg->mg d.name=some (.ref fa) ->
   Tabs (K w.params) ts/\∃fd:FuncData,(∀(s:Shared)(u:Value),BindsTo s fd ⟨[u],[]⟩ [(x,u)]) /\
    ∀base:Heap,(K w.params).In base->base.Ns mainGlobals mg->FnOk l.prog w (K w.params) mg base (CX w) k fa fd [x] (sp w))
  (hsp:∀(w:World)(H:Hp)(a:Addr)(ns:List Int),ns.length<=n->(∀i∈ns,i.natAbs.log2<2 ^ 20)->Same (tabK (K w.params)) H->SqL (K w.params) H a (ns.map V.int)->sp w [.ref a] H (fun v H'=>v=.bl true/\Same (tabK (K w.params)) H') fun _ _ _=>False)
  (hCX:∀(w:World)(H:Hp)(s:Shared)(e:Value)(s':Shared),CX w [] H s (fun _ _ _=>False) e s'->False) :
  qE6 q loose XP YP l.row.toRowW d [] (fun f vs=>qEf f vs):=by
 refine Att.attach_callW hn hdf fun w s₀ s₁ mg mb fa o pm cd doc a vs ns G Y ho hd hcd hmg hobj hints hlen hw hg=>?_
 obtain⟨KX,hT⟩:=hY w _ Y;obtain⟨T,fd,hb,hF⟩:=F w mg fa _ KX G.T.g hmg;exact zLS KX hT T G.T.g G.T.b G.T.builtins G.T.nolimit G.T.bmain hg hobj hints (qAm hlen hn2) hr hF hb (fun H hO hS=>hsp w H a ns hlen hw hO hS) fun H e s'=>hCX w H s₁ e s'
end L3
namespace L2
open PySem PySem.Spec PyProof.Rows
section
variable{X:Cx}
end
end L2
namespace L3
open PySem PyProof.Rows
open L2 hiding Rep RepL
section
variable{P:Program}{w:World}{K:qA0}{mg:Str->Option Value}{base:Heap}{x:Str}{st:Stmt}{N ps:List Str}{k:Nat}{sp:Sp}{T:Addr}
end
end L3
namespace L3
open PySem PyProof.Rows
open L2 hiding Rep RepL
structure Mk1(K:qA0)(ts:List Addr)(x:Str)(r:Option Addr):Prop where
 cod:codP K x=r
 lam:(lamK K x).isSome=r.isSome
 hd:∀P,r=some P->P∈ts/\∃c,qBk K c P=true
theorem mk1_none{K:qA0}{ts:List Addr}{x:Str}(a:qAo K mainGlobals x=some none):Mk1 K ts x none:=
 ⟨by unfold codP;rw[a],by unfold lamK;rw[a];rfl,fun _ z=>by cases z⟩
structure Tb(K:qA0)(ts:List Addr)(r1 r2 r3:Option Addr):Prop where
 m1:Mk1 K ts "turned_at" r1
 m2:Mk1 K ts "exchanged_at" r2
 m3:Mk1 K ts "pivoted" r3
section
variable{K:qA0}{ts:List Addr}{r1 r2 r3:Option Addr}
theorem Tb.tabs(T:Tb K ts r1 r2 r3)(no:∀P∈ts,K.lookup P=none):Tabs K ts:=⟨no,fun x hx P h _=>by
 unfold makers at hx;simp only[qAa,qAk,or_false]at hx
 rcases hx with rfl|rfl|rfl
 ·exact T.m1.hd P (T.m1.cod.symm.trans h)
 ·exact T.m2.hd P (T.m2.cod.symm.trans h)
 ·exact T.m3.hd P (T.m3.cod.symm.trans h)⟩
end
def TbE(K:qA0)(ts:List Addr):Prop:=∃r1 r2 r3,Tb K ts r1 r2 r3
theorem zU7{K:qA0}{c P:Addr}{d:Option Addr}{vs:Array Value}{s:Array (Option Value)}(lc:K.lookup c=some ⟨.type "code",d,.fields vs,s⟩)(h:qBk [(c,⟨.type "code",d,.fields vs,s⟩)] c P=true):qBk K c P=true:=by
 unfold qBk at h ⊢;rw[lc]
 simpa using h
structure MkS(K:qA0)(mg:Str->Option Value)(ts:List Addr)(x:Str)(st:Stmt)(P:Addr):Prop where
 ex:∃f fd c,Fun K x x st f fd/\mg x=some (.ref f)/\fd.code=.ref c/\qBk K c P=true
 lam:lamK K x=zND (zAP st)
 mk1:Mk1 K ts x (some P)
theorem mkS{K:qA0}{h:Heap}{mg:Str->Option Value}{ts:List Addr}{nm:Str}{st:Stmt}{f c P:Addr}{oc kV dc pm ct:Value}{od an d:Option Addr}{sl s:Array (Option Value)}{vs:Array Value}(X:K.In h)(G:h.Ns mainGlobals mg)(a:qAo K mainGlobals nm=some (some (.ref f)))
  (l:K.lookup f=some ⟨oc,od,.func (qAt nm nm (zB2 st) (zAP st) (zA8 st) .none kV dc pm an (.ref c) ct),sl⟩) (e:qAy K (.ref c) nm=true) (k:qAe K (.ref f)=true)
  (lc:K.lookup c=some ⟨.type "code",d,.fields vs,s⟩) (h11:vs[11]?=some (.ref P)) (hh:qBk [(c,⟨.type "code",d,.fields vs,s⟩)] c P=true) (hl:(zND (zAP st)).isSome=true) (hP:P∈ts):MkS K mg ts nm st P:=by
 have hC:=zU7 lc hh;have hlam:lamK K nm=zND (zAP st):=by unfold lamK;rw[a];dsimp only;rw[l]
 refine⟨⟨f,_,c,zCC (st:=st) l e k,qBa X G a,rfl,hC⟩,hlam,⟨?_,by rw[hlam,hl];rfl,fun P' z=>by cases z;exact⟨hP,c,hC⟩⟩⟩;unfold codP;rw[a];dsimp only;rw[l];dsimp only;rw[lc];dsimp only;rw[h11]
theorem with1{K:qA0}{mg:Str->Option Value}{ts:List Addr}{x:Str}{st:Stmt}{P:Addr}{C:Prop}(M:MkS K mg ts x st P)(r:MkS K mg ts x st P->TbE K ts/\C):TbE K ts/\C:=r M
theorem zU0{K:Params->qA0}{as ts:List Addr}(e:∀P,as=(K P).map (·.1))(h:∀P∈ts,P∉as)(q:Params):∀P∈ts,(K q).lookup P=none:=fun P hP=>by
 rw[List.lookup_eq_none_iff];intro p hp
 have:p.1∈as:=by rw[e q];exact qE1 hp
 have ne:P≠p.1:=fun z=>h P hP (z▸this)
 simpa using ne
theorem walk_ofM{l:qD1}{n k:Nat}{q:Program}{loose:List Str}{XP:(Str->Option Value)->Heap->Prop}{d:DefRec}{K:Params->qA0}{x:Str}{as ts:List Addr}{e:∀P,as=(K P).map (·.1)}
  (hn:l.most=some n) (h63:n<=63) (hdf:d.params.defaults=[]) (hr:Room k callerA) (hts:∀P∈ts,P∉as)
  (F:∀(w:World)(mg:Str->Option Value)(fa:Addr)(h:Heap),(K w.params).In h->h.Ns mainGlobals mg->mg d.name=some (.ref fa) ->
   TbE (K w.params) ts/\∃fd:FuncData,(∀(s:Shared)(u:Value),BindsTo s fd ⟨[u],[]⟩ [(x,u)]) /\
    ∀base:Heap,(K w.params).In base->base.Ns mainGlobals mg->FnOk l.prog w (K w.params) mg base CX0 k fa fd [x] (zFQ (K w.params))) :
  qE6 q loose XP (qFd K as e ts).says l.row.toRowW d [] (fun f vs=>qEf f vs):=
 zML (K:=K) (ts:=ts) (CX:=fun _=>CX0) (sp:=fun w=>zFQ (K w.params)) hn (qAm h63 (by decide)) hdf hr (fun w h Y=>⟨PySem.W.km_in_of Y,PySem.W.km_tabs_of Y⟩)
  (fun w mg fa h KX G hm=>let⟨⟨_,_,_,T⟩,r⟩:=F w mg fa h KX G hm;⟨T.tabs (zU0 e hts w.params),r⟩)
  (fun _ _ a ns hl hw hT hS=>⟨a,ns,rfl,hT,hS,qAm hl h63,hw,fun _ z=>⟨rfl,z⟩⟩) fun _ _ _ _ _ z=>z
end L3
namespace Mi
end Mi
namespace L3
open PySem PySem.Spec
open L2 hiding Rep RepL
open Mi (Dt okR)
variable[Kc]{mg:Str->Option Value}{E:XK}{L:Nat}
end L3
namespace Mi
end Mi
namespace L2
open PySem PySem.Spec PyProof.Rows
section
variable{X:Cx}
end
end L2
namespace L3
open PySem PySem.Spec
open L2 hiding Rep RepL
open Mi (Dt okR)
variable[Kc]{n:Nat}
end L3
namespace L3
open PySem PySem.Spec
open L2 hiding Rep RepL
section
variable[Kc]{mg:Str->Option Value}{E:XK}{L:Nat}
theorem zO6{P N:Nat}{vs:List V}{H:Hp}{Q:VK}(h:spM mg L (Mi.runF P N fun _=>none) vs H Q E):False:=by
 obtain⟨G,ds,_,s,r,p⟩:=h;unfold Mi.runF at p
 split at p<;>exact p.elim
end
end L3
namespace Mi
open PySem
noncomputable section
end
end Mi
namespace L2
open PySem PySem.Spec PyProof.Rows
section
variable{X:Cx}
end
end L2
namespace L3
open PySem PySem.Spec
open L2 hiding Rep RepL
open Mi (Dt Xn R okR zA3 optR zA0 zA6 zAC zAA zAB Rh Sl Ro EM TM AM FM IM SM Tg Out full frz frz1 frzAt)
section
variable[Kc]{mg:Str->Option Value}{E:XK}{L:Nat}{tA tB:TT}{A B:TM}
end
end L3
namespace L2
open PySem PySem.Spec PyProof.Rows
section
variable{X:Cx}{m:Str}{k:Nat}{E:XK}{o:Expr}{ta:TE}{apos pos:Pos}{tb:List (Addr×Sp)}
end
end L2
namespace Mp
noncomputable section
open Mi PySem
def zI7:SM:=(sSeq (sSet 2 9 [] (eLst aNil))
 (sSeq (sForR (iR1 (aCons (eBi maxD (aCons (eV 1) (aCons (eBi minD (aCons (eC (.int 63)) (aCons (eBi lenD (aCons (eV 0) aNil)) aNil))) aNil))) aNil)) 3 (sSeq (sSet 4 0 [] (eC (.int 0)))
 (sSeq (sIf (tB (eB (cmpD fun i j=>decide (i<j)) (eV 3) (eBi lenD (aCons (eV 0) aNil)))) (sSet 4 0 [0,3] (eB modD (eB ixD (eV 0) (eV 3)) (eC (.int 1000003)))) sNil)
 (sSeq (sSet 5 0 [4,3] (eB modD (eB mulD (eB modD (eB addD (eB mulD (eB addD (eV 4) (eC (.int 1))) (eC (.int 48271))) (eB mulD (eB mulD (eV 3) (eV 3)) (eC (.int 7919)))) (eC (.int 1000000007))) (eC (.int 40692))) (eC (.int 2147483399))))
 (sApp 2 1 (eB addD (eB mulD (eV 5) (eC (.int 2147483647))) (eB modD (eB addD (eB mulD (eV 5) (eC (.int 69621))) (eV 3)) (eC (.int 2147483647)))))))))
 (sRetV 9 2)))
def zBK:FM:=runF 2 6 zI7
def zFG:SM:=(sRet 2 2 [0] (eComp (iSq (eV 0)) 1 (.one 1) Mi.tYes (eBi listD (aCons (eV 1) aNil))))
def zBI:FM:=runF 1 1 zFG
def zFO:SM:=(sSeq (sSet 3 2 [1] (eComp (iR1 (aCons (eV 1) aNil)) 1 (.one 7) Mi.tYes (eB repD (eLst (aCons (eC (.int 0)) aNil)) (eV 1))))
 (sSeq (sForR (iR1 (aCons (eV 1) aNil)) 4 (sForR (iR1 (aCons (eB addD (eV 4) (eC (.int 1))) aNil)) 5 (sSeq (sSet 6 0 [0,5,4,1] (eB ixD (eV 0) (eB modD (eB addD (eB mulD (eV 4) (eV 1)) (eV 5)) (eBi lenD (aCons (eV 0) aNil)))))
 (sSeq (sSet 6 0 [6,5,4] (eB modD (eB divD (eV 6) (eB addD (eB addD (eC (.int 1)) (eB mulD (eC (.int 7)) (eV 4))) (eB mulD (eC (.int 61)) (eV 5)))) (eC (.int 2))))
 (sIf (Mi.tOr (tB (eB neD (eV 4) (eV 5))) (tM (eV 2))) (sSeq (sItem2 3 0 (eV 4) (eV 5) (eV 6))
 (sItem2 3 0 (eV 5) (eV 4) (eV 6))) sNil)))))
 (sRetV 2 3)))
def zBJ:FM:=runF 3 7 zFO
def zBE:SM:=(sSeq (sIf (Mi.tOr (tB (eB neD (eBi lenD (aCons (eV 1) aNil)) (eC (.int 1)))) (tB (eB (inD true) (eV 1) (eV 0)))) (sRaise "NoLetter" "letter" (aCons (eV 1) aNil)) sNil)
 (sRet 0 0 [1,0] (eMt findD (eV 0) (aCons (eV 1) aNil))))
def zAL:FM:=runF 2 2 zBE
def zH4:SM:=(sSeq (sSet 2 0 [0,1] (eB ixD (eLst (aCons (eTup (aCons (eC (.int 1)) (aCons (eC (.int 0)) (aCons (eC (.int 3)) (aCons (eC (.int 2)) aNil))))) (aCons (eTup (aCons (eC (.int 2)) (aCons (eC (.int 3)) (aCons (eC (.int 0)) (aCons (eC (.int 1)) aNil))))) (aCons (eTup (aCons (eC (.int 3)) (aCons (eC (.int 2)) (aCons (eC (.int 1)) (aCons (eC (.int 0)) aNil))))) aNil)))) (eB ixD (eV 0) (eB divD (eV 1) (eC (.int 4))))))
 (sRet 1 1 [1,2] (eB addD (eB subD (eV 1) (eB modD (eV 1) (eC (.int 4)))) (eB ixD (eV 2) (eB modD (eV 1) (eC (.int 4)))))))
def zGQ:FM:=runF 2 3 zH4
def zI6:SM:=(sSeq (sSet 3 9 [] (eLst aNil))
 (sSeq (sSet 4 0 [2] (eV 2))
 (sSeq (zO8 (Mi.tOr (tB (eB eqD (eV 3) (eLst aNil))) (tB (eB neD (eV 4) (eV 2)))) (sSeq (sApp 3 0 (eV 4))
 (sSeq (sApp 3 1 (eCall zGQ (aCons (eV 1) (aCons (eV 4) aNil))))
 (sSet 4 0 [0,3] (eB ixD (eV 0) (eB ixD (eV 3) (eU negD (eC (.int 1)))))))))
 (sRetV 9 3))))
def zHQ:FM:=runF 3 5 zI6
def zH3:SM:=(sSeq (sSet 2 1 [] zST)
 (sSeq (sSet 3 9 [] (eLst aNil))
 (sSeq (sForR (iR1 (aCons (eBi lenD (aCons (eV 0) aNil)) aNil)) 4 (sIf (tB (eB (dinD true) (eV 4) (eV 2))) (sSeq (sSet 5 9 [0,1,4] (eCall zHQ (aCons (eV 0) (aCons (eV 1) (aCons (eV 4) aNil)))))
 (sSeq (sFor [5] (iSq (eV 5)) (.one 6) (zTN 2 (eV 6) (eC (.bl true))))
 (zR9 3 [5] (eV 5)))) sNil))
 (sRetV 1 3))))
def m__law_rounds:FM:=runF 2 7 zH3
def zNX:SM:=(sRet 0 0 [1,0] (eB xorD (eV 1) (eB addD (eV 0) (eC (.int 1)))))
def zNA:FM:=runF 2 2 zNX
def zI5:SM:=(sSeq (sSet 2 0 [1] (eB divD (eV 1) (eC (.int 4))))
 (sRet 1 1 [2,0,1] (eB addD (eB mulD (eV 2) (eC (.int 4))) (eCall zNA (aCons (eB ixD (eV 0) (eV 2)) (aCons (eB modD (eV 1) (eC (.int 4))) aNil))))))
def zDU:FM:=runF 2 3 zI5
def zKM:SM:=(sSeq (sSet 3 1 [2,1] (eLst (aCons (eV 2) (aCons (eCall zDU (aCons (eV 1) (aCons (eV 2) aNil))) aNil))))
 (sSeq (zO8 (tB (eB neD (eB ixD (eV 0) (eB ixD (eV 3) (eU negD (eC (.int 1))))) (eV 2))) (sSeq (sSet 4 0 [0,3] (eB ixD (eV 0) (eB ixD (eV 3) (eU negD (eC (.int 1))))))
 (sExt 3 0 (eLst (aCons (eV 4) (aCons (eCall zDU (aCons (eV 1) (aCons (eV 4) aNil))) aNil))))))
 (sRetV 1 3)))
def zKF:FM:=runF 3 5 zKM
def zIT:SM:=(sSeq (sSet 2 9 [] (eLst aNil))
 (sSeq (sSet 3 1 [] zST)
 (sSeq (sForR (iR1 (aCons (eBi lenD (aCons (eV 0) aNil)) aNil)) 4 (sIf (tB (eB (dinD true) (eV 4) (eV 3))) (sSeq (sSet 5 1 [0,1,4] (eCall zKF (aCons (eV 0) (aCons (eV 1) (aCons (eV 4) aNil)))))
 (sSeq (zR9 2 [5] (eV 5))
 (zTL 3 (eComp (iSq (eV 5)) 1 (.one 6) Mi.tYes (eTup (aCons (eV 6) (aCons (eC (.bl true)) aNil))))))) sNil))
 (sRetV 1 2))))
def m_rounds_of:FM:=runF 2 6 zIT
def zFF:SM:=(sSeq (sIf (Mi.tOr (tNo (tM (eIsi "list" (eV 0)))) (tB (eB neD (eBi lenD (aCons (eV 0) aNil)) (eBi lenD (aCons (eV 1) aNil))))) (sRet 0 0 [] (eC (.bl false))) sNil)
 (sSeq (sFor [0,1] (iZi (aCons (eV 0) (aCons (eV 1) aNil))) (.tup [2,3]) (sSeq (sIf (Mi.tOr (tNo (tM (eIsi "list" (eV 2)))) (tB (eB neD (eBi lenD (aCons (eV 2) aNil)) (eBi lenD (aCons (eV 3) aNil))))) (sRet 0 0 [] (eC (.bl false))) sNil)
 (sFor [2] (iSq (eV 2)) (.one 4) (sIf (Mi.tOr (tNo (tM (eIsi "int" (eV 4)))) (tM (eIsi "bool" (eV 4)))) (sRet 0 0 [] (eC (.bl false))) sNil))))
 (sRet 0 0 [0,1] (eB eqD (eV 0) (eV 1)))))
def zBD:FM:=runF 2 5 zFF
def zDQ:SM:=(sRet 2 2 [2] (eCallN zBI (aCons (eV 2) aNil)))
def zA1:FM:=runF 3 3 zDQ
noncomputable def zDO:SM:=(fun _=>none)
def zBH:FM:=runF 3 6 zDO
def zFI:SM:=(sSeq (sSet 3 0 [1,0] (eCall zAL (aCons (eV 1) (aCons (eFld ["Swap"] "one" (eV 0)) aNil))))
 (sSeq (sSet 4 0 [1,0] (eCall zAL (aCons (eV 1) (aCons (eFld ["Swap"] "other" (eV 0)) aNil))))
 (sSeq (sIf (tB (eB neD (eB ixD (eB ixD (eV 2) (eV 3)) (eV 4)) (eC (.int 1)))) (sRaise0 "NoCross" (aCons (eC (.str "the letters do not cross in the web")) aNil)) sNil)
 (sRet 2 2 [2,3,4] (eCallN zBH (aCons (eV 2) (aCons (eV 3) (aCons (eV 4) aNil))))))))
def zA5:FM:=runF 3 5 zFI
noncomputable def zFN:SM:=(fun _=>none)
def zC0:FM:=runF 2 3 zFN
def zFH:SM:=(sRet 2 2 [2,1,0] (eCallN zC0 (aCons (eV 2) (aCons (eCall zAL (aCons (eV 1) (aCons (eFld ["Turn"] "letter" (eV 0)) aNil))) aNil))))
def zA7:FM:=runF 3 3 zFH
def zE7:SM:=(sSeq (sSet 3 0 [] (eC .non))
 (sSeq (sTry [1,2,0] none (eMeth [("Turn",zA7),("Swap",zA5),("Mirror",zA1),("Shift",zA1)] "done_web" (eV 0) (aCons (eV 1) (aCons (eV 2) aNil))) ["NoLetter"] 4 (sSet 3 0 [4] (eAtX ["NoLetter"] "letter" (eV 4))))
 (sRetV 0 3)))
def zBA:FM:=runF 3 5 zE7
def zDP:SM:=(sSeq (sSet 3 9 [] (eLst aNil))
 (sSeq (sTry [1,2,0] none (eMeth [("Turn",zA7),("Swap",zA5),("Mirror",zA1),("Shift",zA1)] "done_web" (eV 0) (aCons (eV 1) (aCons (eV 2) aNil))) ["RoundError","NoLetter","NoCross"] 4 (sSet 3 1 [4] (eLst (aCons (eIsX ["NoCross"] ["RoundError","NoLetter"] (eV 4)) (aCons (eIsX ["NoLetter"] ["RoundError","NoCross"] (eV 4)) (aCons (eIsX ["RoundError","NoLetter","NoCross"] [] (eV 4)) aNil))))))
 (sRetV 1 3)))
def zAO:FM:=runF 3 5 zDP
def zMJ:SM:=(sSeq (sSet 1 9 [0] (eCall zBK (aCons (eV 0) (aCons (eC (.int 20)) aNil))))
 (sSeq (sSet 2 1 [1] (eB addD (eC (.int 1)) (eB modD (eB ixD (eV 1) (eC (.int 0))) (eC (.int 10)))))
 (sSeq (sSet 3 2 [2,1] (eCall zBJ (aCons (eSl (eV 1) (oE (eC (.int 3))) oNo) (aCons (eV 2) (aCons (eC (.bl false)) aNil)))))
 (sSeq (sSet 4 0 [] (eC (.str "abcdefghijklmnopqrstuvwxyz")))
 (sSeq (sSet 5 0 [4,2,1] (eMt joinD (eC (.str "")) (aCons (eComp (iR1 (aCons (eV 2) aNil)) 1 (.one 16) Mi.tYes (eB ixD (eV 4) (eB addD (eB modD (eB ixD (eV 1) (eC (.int 1))) (eC (.int 6))) (eB mulD (eC (.int 2)) (eV 16))))) aNil)))
 (sSeq (sSet 6 2 [15,3] (eComp (iSq (eV 3)) 1 (.one 16) Mi.tYes (eBi listD (aCons (eV 16) aNil))))
 (sSeq (sForR (iR1 (aCons (eV 2) aNil)) 7 (sForR (iR1 (aCons (eV 2) aNil)) 8 (sSeq (sSet 9 0 [5,7,8] (eNew "Swap" ["one","other"] (aCons (eB ixD (eV 5) (eV 7)) (aCons (eB ixD (eV 5) (eV 8)) aNil))))
 (sIf (tAn (tB (eB eqD (eB ixD (eB ixD (eV 3) (eV 7)) (eV 8)) (eC (.int 0)))) (tB (eB neD (eCall zAO (aCons (eV 9) (aCons (eV 5) (aCons (eV 6) aNil)))) (eLst (aCons (eC (.bl true)) (aCons (eC (.bl false)) (aCons (eC (.bl true)) aNil))))))) (sRet 0 0 [] (eC (.bl false))) sNil))))
 (sSeq (sSet 10 0 [4,1] (eB ixD (eV 4) (eB addD (eB modD (eB ixD (eV 1) (eC (.int 1))) (eC (.int 6))) (eC (.int 1)))))
 (sSeq (sSet 11 0 [5,2,1] (eB ixD (eV 5) (eB modD (eB ixD (eV 1) (eC (.int 2))) (eV 2))))
 (sSeq (sSet 12 1 [10,11] (eLst (aCons (eV 10) (aCons (eC (.str "")) (aCons (eU upD (eV 11)) (aCons (eB addD (eV 11) (eV 11)) aNil))))))
 (sSeq (sIf (tB (eB (cmpD fun i j=>decide (j<i)) (eV 2) (eC (.int 1)))) (sSet 12 1 [12,5] (eB addD (eV 12) (eLst (aCons (eSl (eV 5) oNo (oE (eC (.int 2)))) (aCons (eSl (eV 5) (oE (eU negD (eC (.int 2)))) oNo) (aCons (eV 5) aNil)))))) sNil)
 (sSeq (sFor [12] (iSq (eV 12)) (.one 13) (sFor [13,11,10] (iSq (eLst (aCons (eNew "Turn" ["letter"] (aCons (eV 13) aNil)) (aCons (eNew "Swap" ["one","other"] (aCons (eV 13) (aCons (eV 11) aNil))) (aCons (eNew "Swap" ["one","other"] (aCons (eV 11) (aCons (eV 13) aNil))) (aCons (eNew "Swap" ["one","other"] (aCons (eV 13) (aCons (eV 10) aNil))) aNil)))))) (.one 9) (sSeq (sIf (tB (eB neD (eCall zAO (aCons (eV 9) (aCons (eV 5) (aCons (eV 6) aNil)))) (eLst (aCons (eC (.bl false)) (aCons (eC (.bl true)) (aCons (eC (.bl true)) aNil)))))) (sRet 0 0 [] (eC (.bl false))) sNil)
 (sIf (tB (eB neD (eCall zBA (aCons (eV 9) (aCons (eV 5) (aCons (eV 6) aNil)))) (eV 13))) (sRet 0 0 [] (eC (.bl false))) sNil))))
 (sSeq (sFor [1] (iSq (eLst (aCons (eNew0 "Mirror") (aCons (eNew "Shift" ["by"] (aCons (eB subD (eB modD (eB ixD (eV 1) (eC (.int 2))) (eC (.int 99))) (eC (.int 49))) aNil)) aNil)))) (.one 9) (sSeq (sSet 14 2 [5,6,9] (eMeth [("Turn",zA7),("Swap",zA5),("Mirror",zA1),("Shift",zA1)] "done_web" (eV 9) (aCons (eV 5) (aCons (eV 6) aNil))))
 (sSeq (sIf (tNo (tM (eCall zBD (aCons (eV 14) (aCons (eV 3) aNil))))) (sRet 0 0 [] (eC (.bl false))) sNil)
 (sSeq (sForApp 14 15 1)
 (sApp 14 9 (eLst aNil))))))
 (sRet 0 0 [6,3] (eB eqD (eV 6) (eV 3))))))))))))))))
def zHP:FM:=runF 1 16 zMJ
end
end Mp
namespace Mp
open Mi PySem
end Mp
namespace Mi
open PySem
section
variable(ρ:Rh)(r:Ro)(a:EM)(am:AM)
@[simp] theorem x_tL:tL a ρ=zA3 (a ρ) fun x=>match x with | .bl k=>okR k | .int i=>okR (i != 0) | .non=>okR false | .lst xs=>okR (!xs.isEmpty) | .tup xs=>okR (!xs.isEmpty)|_=>none:=rfl
@[simp] theorem x_eMl(f:List Dt->List Dt->Option Dt):eMl f a am ρ=zA3 (a ρ) fun x=>match x with | .lst xs=>zA3 (am ρ) fun ds=>optR (f xs ds)|_=>none:=rfl
@[simp] theorem x_iRv:iRv am ρ=zA3 (am ρ) fun vs=>match vs with|[.lst xs]=>okR xs.reverse|_=>none:=rfl
@[simp] theorem v_xor(i j:Int):xorD (.int i) (.int j)=some (.int (Builtin.bitXor i j)):=rfl
@[simp] theorem v_rep(xs:List Dt)(k:Int):repD (.lst xs) (.int k)=@ite _ ((-4611686018427387904<=k/\k<4611686018427387904)/\xs.length*k.toNat<=100000) (qA1 _) (some (.lst (qA7 k.toNat xs).flatten)) none:=rfl
end
end Mi
namespace Mi
open PySem
@[simp] theorem okR_inj{α:Type}{a b:α}:okR a=okR b↔a=b:=⟨fun h=>by cases h;rfl,fun h=>by rw[h]⟩
@[simp] theorem zH6(vs:List Nat)(it:IM)(tg:Tg)(b:SM)(r:Ro):sFor vs it tg b r=zA3 (it (frz (frzAt vs r))) fun ds=>forGo tg b ds (frzAt vs r):=rfl
@[simp] theorem zEE(it:IM)(i:Nat)(b:SM)(r:Ro):sForR it i b r=zA3 (it (full r)) fun ds=>forGo (.one i) b ds r:=rfl
@[simp] theorem zQS(e:EM)(ρ:Rh):iSq e ρ=zA3 (e ρ) fun d=>match d with | .lst xs=>okR xs | .tup xs=>okR xs | .scr ns=>okR (ns.map .int) | .str z=>okR (signsD z)|_=>none:=rfl
@[simp] theorem x_iEn(e:AM)(ρ:Rh):iEn e ρ=zA3 (e ρ) fun vs=>match vs with|[.lst xs]=>okR (zQB 0 xs)|_=>none:=rfl
@[simp] theorem x_iZi(e:AM)(ρ:Rh):iZi e ρ=zA3 (e ρ) fun vs=>match vs with|[.lst xs,.lst ys]=>okR (zipD xs ys)|_=>none:=rfl
theorem zIA{e:AM}{ρ:Rh}{n:Nat}(h:e ρ=okR [.int n])(hn:n<=100000):iR1 e ρ=okR (nums 0 n):=by
 unfold iR1;rw[h,zA0];dsimp only;rw[if_pos (by lia)];simp
theorem zGL(n:Nat):nums 0 n=(qAg n).map fun i:Nat=>Dt.int (i:Int):=by
 unfold nums;exact qE0 fun i _=>by simp
def nxR(x:R Out)(P:Ro->Prop):Prop:=match x with
 |some (.ok (.nx r))=>P r
 |_=>False
@[simp] theorem x_nxR(r:Ro)(P:Ro->Prop):nxR (okR (.nx r)) P=P r:=rfl
theorem zD2{x:R Out}{P:Ro->Prop}(h:nxR x P):∃r',x=okR (.nx r')/\P r':=by
 unfold nxR at h
 split at h
 ·exact⟨_,rfl,h⟩
 ·exact h.elim
theorem zBV{x:R Out}{P:Ro->Prop}{r:Ro}(h:x=okR (.nx r))(hp:P r):nxR x P:=by rw[h];exact hp
theorem zLK{i j:Int}(h:-18446744073709551616<i)(h':i<18446744073709551616):mulD (.int i) (.int j)=some (.int (i*j)):=by
 rw[zQV,if_pos (.inl (.inl ⟨h,h'⟩))]
theorem zLJ{i j:Int}(h:-18446744073709551616<j)(h':j<18446744073709551616):mulD (.int i) (.int j)=some (.int (i*j)):=by
 rw[zQV,if_pos (.inl (.inr ⟨h,h'⟩))]
theorem zDM{ρ:Rh}{c:TM}{e:EM}{i:Nat}(g:Nat->Dt)(n:Nat)(hc:c=tYes)(hi:i=ρ.length)(h:∀k,k<n->e (ρ++[some (.int (k:Nat))])=okR (g k))(it:IM)(hit:it ρ=okR (nums 0 n))(hn:n<=100000):eComp it 1 (.one i) c e ρ=okR (.lst ((qAg n).map g)):=by
 subst hc hi;unfold eComp;rw[hit,zA0,if_pos ⟨by simpa[nums]using hn,by simp[Tg.idx]⟩];rw[zK1 (fun d=>match d with | .int k=>g k.toNat|_=>.non) _ [] fun d hd=>?_]
 ·rw[zA0,zGL,qCo];simp only[qEu]
  congr 2
 ·rw[zGL]at hd;obtain⟨k,hk,rfl⟩:=qCm.mp hd;refine⟨_,rfl,rfl,?_⟩
  have:zAQ (ρ++qA7 1 none) [(ρ.length,Dt.int (k:Int))]=ρ++[some (.int (k:Nat))]:=by
   simp[zAQ]
  rw[this]
  simpa using h k (by simpa using hk)
theorem zG1{ρ:Rh}{c:TM}{e:EM}{i:Nat}{β:Type}(en:β->Dt)(g:β->Dt)(ns:List β)(hc:c=tYes)(hi:i=ρ.length)(h:∀k,k∈ns->e (ρ++[some (en k)])=okR (g k))(it:IM)(hit:it ρ=okR (ns.map en))(hn:ns.length<=100000):eComp it 1 (.one i) c e ρ=okR (.lst (ns.map g)):=by
 subst hc hi;unfold eComp;rw[hit,zA0,if_pos ⟨by simpa using hn,by simp[Tg.idx]⟩]
 have:∀(ns:List β)(acc:List Dt),(∀k,k∈ns->e (ρ++[some (en k)])=okR (g k))->compGo ρ 1 (.one ρ.length) tYes e (ns.map en) acc=okR (acc++ns.map g):=by
  intro ns
  induction ns with
  |nil=>intro acc _;simp[compGo]
  |cons d r ih=>
   intro acc h;rw[qAj,compGo];have e1:zAQ (ρ++qA7 1 none) [(ρ.length,en d)]=ρ++[some (en d)]:=by simp[zAQ]
   show zA3 (tYes _) _=_;simp only[zQN,zA0,if_true];show zA3 (e (zAQ (ρ++qA7 1 none) [(ρ.length,en d)])) _=_;rw[e1,h d (by simp),zA0,ih _ fun k hk=>h k (by simp[hk])];simp
 rw[this ns [] h,zA0];simp
theorem zEO{a b:SM}{r:Ro}{X:R Out}(h:∀bb:SM,bb=b->nxR (a r) fun r1=>bb r1=X):sSeq a b r=X:=by
 obtain⟨r1,h1,h2⟩:=zD2 (h b rfl);unfold sSeq;rw[h1,zA0];exact h2
theorem zKY{a b:SM}{r:Ro}{P:Ro->Prop}(h:∀bb:SM,bb=b->nxR (a r) fun r1=>nxR (bb r1) P):nxR (sSeq a b r) P:=by
 obtain⟨r1,h1,h2⟩:=zD2 (h b rfl);unfold sSeq;rw[h1,zA0];exact h2
theorem zDT{P n:Nat}{b:SM}{ds:List Dt}{d:Dt}(h:ds.length=P)(hb:b (startO n ds)=okR (.rt d)):runF P n b ds=okR d:=by
 unfold runF;rw[if_pos h,hb];rfl
theorem zFR{P n:Nat}{b:SM}{ds:List Dt}{x:Xn}(h:ds.length=P)(hb:b (startO n ds)=some (.error x)):runF P n b ds=some (.error x):=by
 unfold runF;rw[if_pos h,hb];rfl
theorem zLI{j n:Nat}{b:SM}{r:Ro}{X:Ro->Prop}(Pv:Nat->Ro->Prop)(h:Pv 0 r)(hs:∀k,k<n->∀r,Pv k r->nxR (b (r.set j (some (.int (k:Nat),0)))) (Pv (k+1)))(hK:∀r',Pv n r'->X r'):nxR (forGo (.one j) b (nums 0 n) r) X:=by
 obtain⟨r',h1,h2⟩:∃r',forGo (.one j) b (nums 0 n) r=okR (.nx r')/\Pv n r':=by
  obtain⟨r',h1,h2⟩:=zGV (tg:=.one j) (b:=b) Pv (nums 0 n) 0 r h fun k d r hd hp=>by
   rw[zGL,qAi]at hd;cases e:(qAg n)[k]? with
   |none=>rw[e]at hd;cases hd
   |some q=>
    rw[e]at hd;cases hd;obtain⟨h1,h2⟩:=qA2.mp e;rw[qD3]at h2;subst h2;rw[qDu]at hp;obtain⟨r',g1,g2⟩:=zD2 (hs k (by simpa using h1) r hp);exact⟨_,r',rfl,g1,by rw[qDu];exact g2⟩
  exact⟨r',h1,by simpa[nums]using h2⟩
 rw[h1];exact hK r' h2
theorem zGK{γ:Type}{j:Nat}{b:SM}{r:Ro}{X:Ro->Prop}(en:γ->Dt)(ns:List γ)(Pv:Nat->Ro->Prop)(h:Pv 0 r)(hs:∀k x,ns[k]?=some x->∀r,Pv k r->nxR (b (r.set j (some (en x,0)))) (Pv (k+1)))(hK:∀r',Pv ns.length r'->X r'):nxR (forGo (.one j) b (ns.map en) r) X:=by
 obtain⟨r',h1,h2⟩:=zGV (tg:=.one j) (b:=b) Pv (ns.map en) 0 r h fun k d r hd hp=>by
  rw[qAi]at hd;cases e:ns[k]? with
  |none=>rw[e]at hd;cases hd
  |some q=>
   rw[e]at hd;cases hd;rw[qDu]at hp;obtain⟨r',g1,g2⟩:=zD2 (hs k q e r hp);exact⟨_,r',rfl,g1,by rw[qDu];exact g2⟩
 rw[h1];exact hK r' (by simpa using h2)
theorem zHO:∀(a b:List Char),a.map qG1=b.map qG1->a=b
 |[],[],_=>rfl
 |[],_::_,h=>by simp at h
 |_::_,[],h=>by simp at h
 |x::r,y::q,h=>by
  simp only[qAj,List.cons.injEq]at h;rw[zHO r q h.2]
  have:x=y:=Char.toNat_inj.mp h.1
  rw[this]
@[simp] theorem str_inj(a b:String):(Str.ofString a=Str.ofString b)↔a=b:=by
 constructor
 ·intro h;rw[Str.ofString_eq_toList,Str.ofString_eq_toList]at h;simp only[Str.mk.injEq,List.toArray_inj]at h
  have:=zHO _ _ (by simpa using h)
  exact String.toList_inj.mp this
 ·intro h;rw[h]
end Mi
namespace Mi
open PySem
section
variable(ρ:Rh)(a:EM)(am:AM)(lo hi:OM)
@[simp] theorem zP3:eSl a lo hi ρ=zA3 (a ρ) fun x=>zA3 (lo ρ) fun l=>zA3 (hi ρ) fun h=>optR (slD x l h):=rfl
@[simp] theorem zQR:oNo ρ=okR none:=rfl
@[simp] theorem x_oE:oE a ρ=zA3 (a ρ) fun d=>match d with | .int i=>okR (some i)|_=>none:=rfl
@[simp] theorem zTD(f:Dt->List Dt->Option Dt):eMt f a am ρ=zA3 (a ρ) fun x=>if zJS x=true then zA3 (am ρ) fun xs=>optR (f x xs)else none:=rfl
@[simp] theorem v_isStr(z:Str):zJS (.str z)=true:=rfl
end
@[simp] theorem v_slL(xs:List Dt)(l h:Option Int):slD (.lst xs) l h=some (.lst (cutA xs l h)):=rfl
@[simp] theorem v_slS(z:Str)(l h:Option Int):slD (.str z) l h=@ite _ (z.length<=100000) (qA1 _) (some (.str ⟨(cutA z.cps.toList l h).toArray⟩)) none:=rfl
@[simp] theorem v_ixSt(z:Str)(i:Int):ixD (.str z) (.int i)=@ite _ (z.length<=100000) (qA1 _) ((itA z.cps.toList i).map fun c=>.str ⟨#[c]⟩) none:=rfl
@[simp] theorem v_lenSt(z:Str):lenD [.str z]=@ite _ (z.length<=100000) (qA1 _) (some (.int z.length)) none:=rfl
@[simp] theorem v_count1(z:Str)(c:Nat):zT4 (.str z) [.str ⟨#[c]⟩]=some (.int (z.cps.toList.count c:Nat)):=rfl
@[simp] theorem v_in1(ng:Bool)(z:Str)(c:Nat):inD ng (.str ⟨#[c]⟩) (.str z)=some (.bl (if ng=true then !decide (c∈z.cps.toList)else decide (c∈z.cps.toList))):=rfl
@[simp] theorem v_find1(z:Str)(c:Nat):findD (.str z) [.str ⟨#[c]⟩]=some (.int (match posC c z.cps.toList with|some i=>(i:Int)|none=>-1)):=rfl
theorem zT2{α:Type}(xs:List α)(k:Nat):cutA xs none (some (k:Int))=xs.take k:=by
 unfold cutA cutIx;simp only[qD5,Nat.sub_zero];rw[if_neg (by lia)]
 by_cases h:k<=xs.length
 ·rw[show min (k:Int).toNat xs.length=k by lia]
 ·rw[show min (k:Int).toNat xs.length=xs.length by lia,qDi,qDm (by lia)]
theorem zNV{α:Type}(xs:List α)(k:Nat):cutA xs (some (k:Int)) none=xs.drop k:=by
 unfold cutA cutIx;dsimp only;rw[if_neg (by lia)]
 by_cases h:k<=xs.length
 ·rw[show min (k:Int).toNat xs.length=k by lia];exact qDm (by simp)
 ·rw[show min (k:Int).toNat xs.length=xs.length by lia];simp
  lia
theorem zIF(a b:Str):(a++b).cps.toList=a.cps.toList++b.cps.toList:=by
 show(Str.mk (a.cps++b.cps)).cps.toList=_
 simp
theorem zLQ(z:Str):z.length=z.cps.toList.length:=by
 unfold Str.length;simp
theorem zHR(l:List Nat):(Str.mk l.toArray).length=l.length:=by rw[zLQ]
end Mi
namespace Mi
open PySem
end Mi
namespace Mp
open Mi PySem
theorem sg{i n:Nat}{vs:List Nat}{e:EM}{b:SM}{r:Ro}{d:Dt}{X:R Out}(he:e (full r)=okR d)(hd:d.dep<=n)(h:b (r.set i (some (d,n)))=X):sSeq (sSet i n vs e) b r=X:=by
 rw[zDS,zJ1,he,zA0,if_pos hd,zA0];exact h
theorem sp{c:TM}{a b:SM}{r:Ro}{X:R Out}(hc:c (full r)=okR false)(h:b r=X):sSeq (sIf c a sNil) b r=X:=by
 rw[zDS,zG5,hc,zA0,if_neg (by simp),zKN,zA0];exact h
theorem st{c:TM}{a b:SM}{r r':Ro}{X:R Out}(hc:c (full r)=okR true)(ha:a r=okR (.nx r'))(h:b r'=X):sSeq (sIf c a sNil) b r=X:=by
 rw[zDS,zG5,hc,zA0,if_pos rfl,ha,zA0];exact h
theorem c2{m:FM}{e1 e2:EM}{ρ:Rh}{d1 d2:Dt}{X:R Dt}(h1:e1 ρ=okR d1)(h2:e2 ρ=okR d2)(h:m [d1,d2]=X):eCall m (aCons e1 (aCons e2 aNil)) ρ=X:=by
 simp only[zG6,zBL,zEF,h1,h2,zA0];exact h
theorem c1{m:FM}{e1:EM}{ρ:Rh}{d1:Dt}{X:R Dt}(h1:e1 ρ=okR d1)(h:m [d1]=X):eCall m (aCons e1 aNil) ρ=X:=by
 simp only[zG6,zBL,zEF,h1,zA0];exact h
theorem c4{m:FM}{e1 e2 e3 e4:EM}{ρ:Rh}{d1 d2 d3 d4:Dt}{X:R Dt}(h1:e1 ρ=okR d1)(h2:e2 ρ=okR d2)(h3:e3 ρ=okR d3)(h4:e4 ρ=okR d4)(h:m [d1,d2,d3,d4]=X):eCall m (aCons e1 (aCons e2 (aCons e3 (aCons e4 aNil)))) ρ=X:=by
 simp only[zG6,zBL,zEF,h1,h2,h3,h4,zA0];exact h
theorem b2{o:Dt->Dt->Option Dt}{e1 e2:EM}{ρ:Rh}{d1 d2 d:Dt}(h1:e1 ρ=okR d1)(h2:e2 ρ=okR d2)(h:o d1 d2=some d):eB o e1 e2 ρ=okR d:=by
 rw[x_eB,h1,zA0,h2,zA0,h];rfl
theorem bi1{o:List Dt->Option Dt}{e1:EM}{ρ:Rh}{d1 d:Dt}(h1:e1 ρ=okR d1)(h:o [d1]=some d):eBi o (aCons e1 aNil) ρ=okR d:=by
 simp only[zQU,zBL,zEF,h1,zA0,h];rfl
theorem el1{e1:EM}{ρ:Rh}{d1:Dt}(h1:e1 ρ=okR d1):eLst (aCons e1 aNil) ρ=okR (.lst [d1]):=by simp[h1]
theorem tb1{e:EM}{ρ:Rh}{k:Bool}(h:e ρ=okR (.bl k)):tB e ρ=okR k:=by rw[x_tB,h,zA0]
theorem tm1{e:EM}{ρ:Rh}{k:Bool}(h:e ρ=okR (.bl k)):tM e ρ=okR k:=by rw[x_tM,h,zA0]
theorem tn1{t:TM}{ρ:Rh}{k:Bool}(h:t ρ=okR k):tNo t ρ=okR (!k):=by rw[zTC,h,zA0]
theorem to0{t t':TM}{ρ:Rh}{k:Bool}(h:t ρ=okR false)(h':t' ρ=okR k):Mi.tOr t t' ρ=okR k:=by rw[zQO,h,zA0,if_neg (by simp),h']
theorem to1{t t':TM}{ρ:Rh}(h:t ρ=okR true):Mi.tOr t t' ρ=okR true:=by rw[zQO,h,zA0,if_pos rfl]
theorem ta1{t t':TM}{ρ:Rh}{k:Bool}(h:t ρ=okR true)(h':t' ρ=okR k):tAn t t' ρ=okR k:=by rw[zQP,h,zA0,if_pos rfl,h']
theorem ta0{t t':TM}{ρ:Rh}(h:t ρ=okR false):tAn t t' ρ=okR false:=by rw[zQP,h,zA0,if_neg (by simp)]
theorem ss{i n:Nat}{vs:List Nat}{e:EM}{r:Ro}{d:Dt}(he:e (full r)=okR d)(hd:d.dep<=n):sSet i n vs e r=okR (.nx (r.set i (some (d,n)))):=by
 rw[zJ1,he,zA0,if_pos hd]
theorem sr{L n:Nat}{vs:List Nat}{e:EM}{r:Ro}{d:Dt}(he:e (full r)=okR d)(hd:d.dep<=n/\d.dep<=L):sRet L n vs e r=okR (.rt d):=by
 rw[zQQ,he,zA0,if_pos hd]
theorem tl{k k':Bool}{x:Option Dt}(h:x=some (.bl k))(e:k=k'):x=some (.bl k'):=e▸h
theorem bi2{o:List Dt->Option Dt}{e1 e2:EM}{ρ:Rh}{d1 d2 d:Dt}(h1:e1 ρ=okR d1)(h2:e2 ρ=okR d2)(h:o [d1,d2]=some d):eBi o (aCons e1 (aCons e2 aNil)) ρ=okR d:=by
 simp only[zQU,zBL,zEF,h1,h2,zA0,h];rfl
theorem sl0{a b:EM}{ρ:Rh}{x d:Dt}{i:Int}(h1:a ρ=okR x)(h2:b ρ=okR (.int i))(h:slD x none (some i)=some d):eSl a oNo (oE b) ρ=okR d:=by
 rw[zP3,h1,zA0,zQR,zA0,x_oE,h2,zA0,zA0,h];rfl
theorem sl1{a b:EM}{ρ:Rh}{x d:Dt}{i:Int}(h1:a ρ=okR x)(h2:b ρ=okR (.int i))(h:slD x (some i) none=some d):eSl a (oE b) oNo ρ=okR d:=by
 rw[zP3,h1,zA0,x_oE,h2,zA0,zA0,zQR,zA0,h];rfl
theorem sl2{a b c:EM}{ρ:Rh}{x d:Dt}{i j:Int}(h1:a ρ=okR x)(h2:b ρ=okR (.int i))(h3:c ρ=okR (.int j))(h:slD x (some i) (some j)=some d):eSl a (oE b) (oE c) ρ=okR d:=by
 rw[zP3,h1,zA0,x_oE,h2,zA0,zA0,x_oE,h3,zA0,zA0,h];rfl
theorem sf{c:TM}{a:SM}{r:Ro}(hc:c (full r)=okR false):sIf c a sNil r=okR (.nx r):=by
 rw[zG5,hc,zA0,if_neg (by simp),zKN]
theorem mt1{f:Dt->List Dt->Option Dt}{a e:EM}{ρ:Rh}{x y d:Dt}(h1:a ρ=okR x)(hs:zJS x=true)(h2:e ρ=okR y)(h:f x [y]=some d):eMt f a (aCons e aNil) ρ=okR d:=by
 rw[zTD,h1,zA0,if_pos hs,zBL,h2,zA0,zEF,zA0,zA0,h];rfl
theorem nei{e1 e2:EM}{ρ:Rh}{a b:Int}{k:Bool}(h1:e1 ρ=okR (.int a))(h2:e2 ρ=okR (.int b))(h:(!decide (a=b))=k):tB (eB neD e1 e2) ρ=okR k:=by
 refine tb1 (b2 h1 h2 ?_);rw[<- h];simp[Dt.eq];rfl
theorem mdi{i j k:Int}(h:0<j)(e:i%j=k):modD (.int i) (.int j)=some (.int k):=by rw[<- e];exact if_pos h
theorem dvi{i j:Int}(h:0<j/\j<1000000000000000000000000):divD (.int i) (.int j)=some (.int (i/j)):=@if_pos _ (qA1 _) h _ _ _
theorem c3{m:FM}{e1 e2 e3:EM}{ρ:Rh}{d1 d2 d3:Dt}{X:R Dt}(h1:e1 ρ=okR d1)(h2:e2 ρ=okR d2)(h3:e3 ρ=okR d3)(h:m [d1,d2,d3]=X):eCall m (aCons e1 (aCons e2 (aCons e3 aNil))) ρ=X:=by
 simp only[zG6,zBL,zEF,h1,h2,h3,zA0];exact h
theorem an1{e1 e2:EM}{ρ:Rh}{a b:Bool}(h1:e1 ρ=okR (.bl a))(h2:e2 ρ=okR (.bl b)):eAnd e1 e2 ρ=okR (.bl (a&&b)):=by cases a<;>simp[h1,h2]
theorem el0{ρ:Rh}:eLst aNil ρ=okR (.lst []):=by simp
theorem sw{s t:SM}{r r':Ro}{X:R Out}(h:s r=okR (.nx r'))(h2:t r'=X):sSeq s t r=X:=by rw[zDS,h,zA0];exact h2
theorem nif1{c:TM}{a b:SM}{r:Ro}{P:Ro->Prop}(hc:c (full r)=okR true)(h:nxR (a r) P):nxR (sIf c a b r) P:=by rw[zG5,hc,zA0,if_pos rfl];exact h
theorem nif0{c:TM}{a b:SM}{r:Ro}{P:Ro->Prop}(hc:c (full r)=okR false)(h:nxR (b r) P):nxR (sIf c a b r) P:=by rw[zG5,hc,zA0,if_neg qAb];exact h
theorem nsw{s t:SM}{r r':Ro}{P:Ro->Prop}(h:s r=okR (.nx r'))(h2:nxR (t r') P):nxR (sSeq s t r) P:=by rw[zDS,h,zA0];exact h2
theorem v1{i:Nat}{ρ:Rh}{d:Dt}(h:ρ[i]?=some (some d)):eV i ρ=okR d:=by rw[x_eV,h]
theorem al0{e:EM}{ρ:Rh}{d:Dt}(h:e ρ=okR d):aCons e aNil ρ=okR [d]:=by rw[zBL,h];rfl
theorem adi{a b c:Int}(h:a+b=c):addD (.int a) (.int b)=some (.int c):=by rw[<- h];rfl
theorem sbi{a b c:Int}(h:a-b=c):subD (.int a) (.int b)=some (.int c):=by rw[<- h];rfl
theorem k1{d d':Dt}{ρ:Rh}(h:d=d'):eC d ρ=okR d':=by rw[<- h];rfl
theorem cmi{p:Int->Int->Bool}{a b:Int}{k:Bool}(h:p a b=k):cmpD p (.int a) (.int b)=some (.bl k):=by rw[<- h];rfl
noncomputable def rowD(r:List Int):Dt:=.lst (r.map .int)
def mat(A:List (List Int)):Dt:=.lst (A.map rowD)
noncomputable def tab(n:Nat)(f:Nat->Nat->Int):List (List Int):=(qAg n).map fun i=>(qAg n).map fun j=>f i j
def Bits(n:Nat)(f:Nat->Nat->Int):Prop:=∀i j,i<n->j<n->f i j=0\/f i j=1
def Sym(n:Nat)(f:Nat->Nat->Int):Prop:=∀i j,i<n->j<n->f i j=f j i
@[simp] theorem zM7(r:List Int):(rowD r).dep=1:=by simp[rowD]
@[simp] theorem lenR(r:List Int):lenD [rowD r]=some (.int r.length):=by
 show some (Dt.int ((r.map Dt.int).length:Int))=_;rw[qAx]
@[simp] theorem listR(r:List Int):listD [rowD r]=some (rowD r):=rfl
@[simp] theorem lenM(A:List (List Int)):lenD [mat A]=some (.int A.length):=by
 show some (Dt.int ((A.map rowD).length:Int))=_;rw[qAx]
theorem zF7:∀A:List (List Int),Dt.depL (A.map rowD)<=1
 |[]=>by simp
 |r::A=>by
  have:=zF7 A
  rw[qAj,zEH,zM7]
  lia
theorem zCM(A:List (List Int)):(mat A).dep<=2:=by
 have:=zF7 A
 unfold mat;rw[v_dl]
 lia
theorem zJU:∀A B:List (List Int),Dt.eqL (A.map rowD) (B.map rowD)=decide (A=B)
 |[],[]=>by simp[Dt.eqL]
 |[],_::_=>by simp[Dt.eqL]
 |_::_,[]=>by simp[Dt.eqL]
 |r::A,q::B=>by
  rw[qAj,qAj,Dt.eqL,zJU A B];unfold rowD;rw[v_e4,zEB];simp
theorem zOR(A B:List (List Int)):Dt.eq (mat A) (mat B)=decide (A=B):=by
 unfold mat;rw[v_e4,zJU]
theorem zP9(n:Nat)(f:Nat->Nat->Int):(tab n f).length=n:=by simp[tab]
theorem zEL{n:Nat}{f:Nat->Nat->Int}{i:Nat}(h:i<n):(tab n f)[i]?=some ((qAg n).map fun j=>f i j):=by
 simp[tab,h]
theorem zSI{n:Nat}{f:Nat->Nat->Int}{i:Nat}(h:i<n):itA ((tab n f).map rowD) (i:Int)=some (rowD ((qAg n).map fun j=>f i j)):=by
 refine zJQ rfl ?_;rw[qAi,zEL h];rfl
theorem ixM{n:Nat}{f:Nat->Nat->Int}{i:Nat}(h:i<n):ixD (mat (tab n f)) (.int (i:Int))=some (rowD ((qAg n).map fun j=>f i j)):=zSI h
theorem zNW(A:List (List Int))(h:A.length<=1000):zBI [mat A]=okR (mat A):=by
 unfold zBI zFG;have hd:=zF7 A;have hc:eComp (iSq (eV 0)) 1 (.one 1) Mi.tYes (eBi listD (aCons (eV 1) aNil)) [some (mat A)]=okR (mat A):=
  zG1 rowD rowD A rfl rfl (fun r _=>by simp[rowD]) _ (by simp[mat]) (by lia)
 have hm:(mat A).dep<=2:=zCM A;simp[hc,hm]
theorem zLW{r:Ro}{i m n:Nat}{l:Nat}{f:Nat->Nat->Int}{a b:Nat}{v:Int}{e0 e1 e2:EM}(h:r[i]?=some (some (mat (tab n f),l+2)))(h0:e0 (full r)=okR (.int (a:Nat)))(h1:e1 (full r)=okR (.int (b:Nat)))(h2:e2 (full r)=okR (.int v))(ha:a<n)(hb:b<n) :
  sItem2 i m e0 e1 e2 r=okR (.nx (r.set i (some (mat (tab n fun x y=>if x=a/\y=b then v else f x y),l+2)))):=by
 have g1:((tab n f).map rowD)[a]?=some (.lst (((qAg n).map fun j=>f a j).map .int)):=by
  rw[qAi,zEL ha];rfl
 unfold sItem2;rw[h2,zA0,h];show zA3 (e0 (full r)) _=_;rw[h0,zA0];dsimp only;rw[zOJ (by lia) (by simp[tab];lia)];dsimp only;rw[qC4,g1];dsimp only;rw[h1,zA0];dsimp only;rw[zOJ (by lia) (by simp;lia)];dsimp only;rw[if_pos ⟨qB8 _,qB8 _⟩,qC4]
 congr 5
 unfold mat
 congr 1
 apply qEg
 intro x;rw[qEh]
 by_cases hx:a=x
 ·subst hx;rw[if_pos rfl,if_pos (by simp[tab];lia),qAi,zEL ha];show some _=some _
  congr 1
  unfold rowD
  congr 1
  apply qEg
  intro y;rw[qEh]
  by_cases hy:b=y
  ·subst hy;simp[hb]
  ·rw[if_neg hy]
   by_cases hyn:y<n
   ·simp[hyn,show ¬y=b from fun z=>hy z.symm]
   ·simp[hyn]
 ·rw[if_neg hx,qAi,qAi]
  by_cases hxn:x<n
  ·rw[zEL hxn,zEL hxn];simp[show ¬x=a from fun z=>hx z.symm]
  ·have:(tab n f)[x]?=none:=by simp[tab];lia
   have h':(tab n fun x y=>if x=a/\y=b then v else f x y)[x]?=none:=by simp[tab];lia
   rw[this,h']
def Bit(x:Int):Prop:=x=0\/x=1
def RowN(n:Nat)(r:List Int):Prop:=r.length=n/\∀x∈r,Bit x
theorem zLU(r:List Int)(i:Nat)(h:i<r.length):ixD (rowD r) (.int (i:Int))=some (.int (r.getD i 0)):=by
 have:=zJR (ns:=r) (i:=(i:Int)) (by lia) (by lia)
 rw[qC4]at this;exact this
noncomputable def sumN(n:Nat)(f:Nat->Int):Int:=((qAg n).map f).sum
theorem zU8{ds:List Dt}(h:∀d∈ds,d.dep=0):Dt.depL ds=0:=by
 induction ds with
 |nil=>simp
 |cons a r ih=>rw[zEH,h a (by simp),ih fun d hd=>h d (by simp[hd])];rfl
noncomputable def numL(ks:List Nat):List Int:=ks.map fun k:Nat=>(k:Int)
noncomputable def sub(ks:List Nat)(f:Nat->Nat->Int):Nat->Nat->Int:=fun a b=>f (ks.getD a 0) (ks.getD b 0)
noncomputable def sgn(c:Nat):Dt:=.str ⟨#[c]⟩
theorem zNN(cs:List Nat):∀d∈cs.map sgn,d.dep=0:=by
 intro d hd;obtain⟨c,_,rfl⟩:=qCm.mp hd;rfl
@[simp] theorem depL_sgn(cs:List Nat):Dt.depL (cs.map sgn)=0:=zU8 (zNN cs)
theorem zJ6:∀cs:List Nat,strsD (cs.map sgn)=some (cs.map fun c=>⟨#[c]⟩)
 |[]=>rfl
 |c::r=>by
  show(strsD (r.map sgn)).map _=_
  rw[zJ6 r];rfl
theorem zFA:(Str.ofString "").cps.toList=[]:=by
 rw[Str.ofString_eq_toList];rfl
theorem zJO:∀zs:List Str,(Str.join (Str.ofString "") zs).cps.toList=(zs.map (·.cps.toList)).flatten
 |[]=>rfl
 |[x]=>by simp[Str.join]
 |x::y::r=>by
  rw[Str.join,zIF,zIF,zFA,zJO (y::r)]
  ·simp
  ·simp
theorem zMQ(cs:List Nat):((cs.map fun c=>(⟨#[c]⟩:Str)).map (·.length)).sum=cs.length:=by
 induction cs with
 |nil=>rfl
 |cons c r ih=>simp only[qAj,List.sum_cons,ih,qAv];show 1+r.length=_;lia
theorem zLP:(Str.ofString "").length=0:=by rw[zLQ,zFA];rfl
theorem zNE(cs:List Nat)(hz:cs.length<=100000):joinD (.str (Str.ofString "")) [.lst (cs.map sgn)]=some (.str ⟨cs.toArray⟩):=by
 show(match strsD (cs.map sgn)with|some zs=>_|none=>none)=_
 rw[zJ6];dsimp only;rw[if_pos (by rw[zMQ,zLP];lia)]
 congr 2
 have h:=zJO (cs.map fun c=>(⟨#[c]⟩:Str));have e:(List.map (·.cps.toList) (cs.map fun c=>(⟨#[c]⟩:Str))).flatten=cs:=by
  rw[qCo];clear h hz
  induction cs with
  |nil=>rfl
  |cons c r ih=>simpa using ih
 rw[e]at h
 generalize Str.join (Str.ofString "") (cs.map fun c=>(⟨#[c]⟩:Str))=z at h ⊢
 obtain⟨a⟩:=z;simp at h;rw[<- h]
theorem zQI:(Str.ofString "abcdefghijklmnopqrstuvwxyz").cps.toList=(qAg 26).map (97 + ·):=by
 rw[Str.ofString_eq_toList]
 decide
end Mp
namespace Mp
noncomputable def ords(row:List Nat):List Nat:=row.foldl (fun o p=>if p∈o then o else o++[p]) []
end Mp
namespace Mp
open Mi PySem
end Mp
namespace FW
end FW
namespace Mp
open Mi PySem
noncomputable def itr(f:Nat->Nat):Nat->Nat->Nat
 |0,x=>x
 |k+1,x=>f (itr f k x)
noncomputable def jn(cs:List Nat)(e:Nat):Nat:=e/4*4+(e%4^^^(cs.getD (e/4) 0+1))
noncomputable def nt(ts:List Nat)(e:Nat):Nat:=ts.getD e 0
structure NetN(ts:List Nat)(M:Nat):Prop where
 len:ts.length=M
 lt:∀e,e<M->nt ts e<M
 inv:∀e,e<M->nt ts (nt ts e)=e
def stp(ts cs:List Nat)(e:Nat):Nat:=nt ts (jn cs e)
def rowsD(R:List (List Nat)):Dt:=.lst (R.map fun l=>rowD (numL l))
noncomputable def wrd(ls row:List Nat):List Nat:=row.map fun p=>ls.getD p 0
theorem zJG{c:Nat}:∀{l:List Nat},c∈l->posC c l=some (l.idxOf c)
 |a::r,h=>by
  show(if a=c then some 0 else(posC c r).map (·+1))=_
  by_cases z:a=c
  ·subst z;simp
  ·have:=zJG (l:=r) ((qAa.mp h).elim (fun y=>absurd y.symm z) fun y=>y)
   rw[if_neg z,this,List.idxOf_cons,show(a==c)=false by simpa using z];rfl
theorem zNP{c:Nat}{cs:List Nat}(h:c∈cs):findD (.str ⟨cs.toArray⟩) [sgn c]=some (.int (cs.idxOf c:Nat)):=by
 show some (Dt.int (match posC c cs with|some i=>(i:Int)|none=>-1))=_;rw[zJG h]
theorem zOI{cs:List Nat}{k:Nat}(h:k<cs.length)(hz:cs.length<=1000):ixD (.str ⟨cs.toArray⟩) (.int (k:Int))=some (sgn (cs.getD k 0)):=by
 show(@ite _ ((Str.mk cs.toArray).length<=100000) (qA1 _) ((itA cs (k:Int)).map fun c=>Dt.str ⟨#[c]⟩) none)=_
 rw[if_pos (by rw[zHR];lia),zJQ (j:=k) (v:=cs.getD k 0) rfl (by rw[qA5,qAq h];rfl)];rfl
def Apart(ls row:List Nat):Prop:=∀x∈row,∀y∈row,ls.getD x 0=ls.getD y 0->x=y
theorem zJM{cs:List Nat}(h:cs.length<=1000):lenD [.str ⟨cs.toArray⟩]=some (.int (cs.length:Int)):=by
 have:=zHR cs
 simp[lenD,this]
 try lia
structure Twice(n:Nat)(row:List Nat):Prop where
 len:row.length=2*n
 cnt:∀v,row.count v=if v<n then 2 else 0
section
variable{n:Nat}{row:List Nat}(t:Twice n row)
include t
end
end Mp
namespace Mp
open Mi PySem
noncomputable def addB:List Int->List Int->List Int
 |a::r,b::s=>(a+b)%2::addB r s
 |_,_=>[]
noncomputable def dot:List Int->List Int->Int
 |a::r,b::x=>a*b+dot r x
 |_,_=>0
theorem zQF(x:Int):Bit (x%2):=by show _%2=0\/_%2=1;lia
def Ker(A:List (List Int))(x:List Int):Prop:=∀r∈A,dot r x%2=0
noncomputable def ent(A:List (List Int))(i k:Nat):Int:=(A.getD i []).getD k 0
def oth(A:List (List Int))(c:Nat)(lead:List Int):List (List Int):=A.map fun r=>if r.getD c 0=1 then addB r lead else r
section
variable{A:List (List Int)}{c t m:Nat}(hm:∀r∈A,RowN m r)(ht:t<A.length)(hc:c<=t)(hl:ent A t c=1)(hcm:c<m)
include hm ht in
include hm ht hc in
include ht hc in
include hm ht hc in
end
def zUC(A:List (List Int))(c:Nat):Prop:=∀i k,i<A.length->k<c->ent A i k=if i=k then 1 else 0
end Mp
namespace Mp
open Mi PySem
noncomputable def zTE(n i:Nat):List Int:=(qAg n).map fun j=>if j=i then 1 else 0
def aug(n:Nat)(T:List (List Int)):List (List Int):=(qAg n).map fun i=>T.getD i []++zTE n i
structure Un(n:Nat)(T A:List (List Int))(c:Nat):Prop where
 len:A.length=n
 rows:∀r∈A,RowN (n+n) r
 unit:zUC A c
 ker:∀x,(∀y∈x,Bit y)->(Ker A x↔Ker (aug n T) x)
theorem zKX{z:Str}{l:List Nat}(h:z.cps.toList=l):z=⟨l.toArray⟩:=by
 cases z with
 |mk a=>subst h;simp
theorem add_str{a b:List Nat}(h:a.length+b.length<=1000):addD (.str ⟨a.toArray⟩) (.str ⟨b.toArray⟩)=some (.str ⟨(a++b).toArray⟩):=by
 rw[zQW,if_pos (by rw[zHR,zHR];lia)]
 congr 2
 exact zKX (by rw[zIF])
theorem zO7{a:List Nat}(l h:Option Int)(hz:a.length<=1000):slD (.str ⟨a.toArray⟩) l h=some (.str ⟨(cutA a l h).toArray⟩):=by
 show(@ite _ ((Str.mk a.toArray).length<=100000) (qA1 _) (some (Dt.str ⟨(cutA a l h).toArray⟩)) none)=_
 rw[if_pos (by rw[zHR];lia)]
end Mp
namespace Mp
noncomputable def sh(s:Nat)(cs:List Nat):List Nat:=cs.drop s++cs.take s
def wr(cs:List Nat):List Nat:=cs.map fun c=>97+(ords cs).idxOf c
end Mp
namespace Mp
open Mi PySem
theorem zQH:(Str.ofString "abcdefghijklmnopqrstuvwxyz")=⟨((qAg 26).map (97 + ·)).toArray⟩:=zKX zQI
theorem zQ7{n k:Nat}(h:k<n):((qAg n).map (97 + ·)).getD k 0=97+k:=by
 rw[qA5,qAi,qC8 h];rfl
theorem zJL{k:Nat}(h:k<26):ixD (.str "abcdefghijklmnopqrstuvwxyz") (.int (k:Int))=some (sgn (97+k)):=by
 rw[zQH,zOI (by simpa using h) (by simp),zQ7 h]
noncomputable def mixC(ns:List Int)(k:Nat):Int:=
 let c:Int:=if k<ns.length then ns.getD k 0%1000003 else 0
 let f:Int:=((c+1)*48271+(k:Int)*k*7919)%1000000007*40692%2147483399
 f*2147483647+(f*69621+k)%2147483647
def mixL(ns:List Int)(n:Nat):List Int:=(qAg n).map (mixC ns)
theorem zLM(ns:List Int)(n:Nat)(hn:n<=63)(hl:ns.length<=63):zBK [.scr ns,.int n]=okR (.lst ((mixL ns (max n ns.length)).map .int)):=by
 have hmin:minD [.int 63,.int (ns.length:Int)]=some (.int (ns.length:Int)):=by
  show some (Dt.int (if(ns.length:Int)<63 then(ns.length:Int)else 63))=_
  split
  ·rfl
  ·rw[show(63:Int)=(ns.length:Int) by lia]
 have hmax:maxD [.int (n:Int),.int (ns.length:Int)]=some (.int ((max n ns.length:Nat):Int)):=by
  show some (Dt.int (if(ns.length:Int)>(n:Int)then(ns.length:Int)else(n:Int)))=_;rw[show(if(ns.length:Int)>(n:Int)then(ns.length:Int)else(n:Int))=((max n ns.length:Nat):Int) by split<;>lia]
 generalize hm:max n ns.length=m at hmax
 refine zDT rfl (sg (d:=.lst []) (by simp) (by decide) (zEO fun bb hb=>?_));rw[zEE,zIA (n:=m) (al0 (bi2 rfl (bi2 rfl (bi1 rfl rfl) hmin) hmax)) (by lia),zA0];refine zLI (fun k r=>∃o3 o4 o5,r=[some (.scr ns,0),some (.int n,0),some (.lst (((qAg k).map (mixC ns)).map .int),8+1),o3,o4,o5]) ⟨none,none,none,rfl⟩ (fun k hk r hr=>?_) fun r hr=>?_
 ·obtain⟨o3,o4,o5,rfl⟩:=hr;refine nsw (ss rfl (qA6 0)) ?_;have hif:sIf (tB (eB (cmpD fun i j=>decide (i<j)) (eV 3) (eBi lenD (aCons (eV 0) aNil)))) (sSet 4 0 [0,3] (eB modD (eB ixD (eV 0) (eV 3)) (eC (.int 1000003)))) sNil [some (.scr ns,0),some (.int n,0),some (.lst (((qAg k).map (mixC ns)).map .int),8+1),some (.int (k:Int),0),some (.int 0,0),o5]=okR (.nx [some (.scr ns,0),some (.int n,0),some (.lst (((qAg k).map (mixC ns)).map .int),8+1),some (.int (k:Int),0),some (.int (if k<ns.length then ns.getD k 0%1000003 else 0),0),o5]):=by
   by_cases h:k<ns.length
   ·have hi:ixD (.scr ns) (.int (k:Int))=some (.int (ns.getD k 0)):=by
     have:=zQ3 (ns:=ns) (i:=(k:Int)) (by lia) (by lia)
     rw[qC4]at this
     show(itA ns (k:Int)).map Dt.int=_
     rw[this];rfl
    rw[if_pos h,zG5,tb1 (b2 rfl (bi1 rfl rfl) (cmi (decide_eq_true (show(k:Int)<ns.length by lia)))),zA0,if_pos rfl];exact ss (b2 (b2 rfl rfl hi) rfl (mdi (by decide) rfl)) (qA6 0)
   ·rw[if_neg h];exact sf (tb1 (b2 rfl (bi1 rfl rfl) (cmi (decide_eq_false (show ¬(k:Int)<ns.length by lia)))))
  refine nsw hif ?_;have e1:mixC ns k=((((if k<ns.length then ns.getD k 0%1000003 else 0)+1)*48271+(k:Int)*k*7919)%1000000007*40692%2147483399)*2147483647+((((if k<ns.length then ns.getD k 0%1000003 else 0)+1)*48271+(k:Int)*k*7919)%1000000007*40692%2147483399*69621+k)%2147483647:=rfl
  generalize(if k<ns.length then ns.getD k 0%1000003 else 0)=c at e1
  have h1:mulD (.int (k:Int)) (.int (k:Int))=some (.int ((k:Int)*k)):=zLK (by lia) (by lia);refine nsw (ss (b2 (b2 (b2 (b2 (b2 (b2 rfl rfl (adi rfl)) rfl (zLJ (by decide) (by decide))) (b2 (b2 rfl rfl h1) rfl (zLJ (by decide) (by decide))) (adi rfl)) rfl (mdi (by decide) rfl)) rfl (zLJ (by decide) (by decide))) rfl (mdi (by decide) rfl)) (qA6 0)) ?_
  generalize((c+1)*48271+(k:Int)*k*7919)%1000000007*40692%2147483399=f at e1
  refine zBV (r:=[some (.scr ns,0),some (.int n,0),some (.lst (((qAg k).map (mixC ns)).map .int++[.int (mixC ns k)]),8+1),some (.int (k:Int),0),some (.int c,0),some (.int f,0)]) ?_ ⟨_,_,_,by rw[qDq,qBt,qBt];rfl⟩;unfold sApp;show zA3 (eB addD (eB mulD (eV 5) (eC (.int 2147483647))) (eB modD (eB addD (eB mulD (eV 5) (eC (.int 69621))) (eV 3)) (eC (.int 2147483647))) [some (.scr ns),some (.int n),some (.lst (((qAg k).map (mixC ns)).map .int)),some (.int (k:Int)),some (.int c),some (.int f)]) _=_;rw[b2 (b2 rfl rfl (zLJ (by decide) (by decide))) (b2 (b2 (b2 rfl rfl (zLJ (by decide) (by decide))) rfl (adi rfl)) rfl (mdi (by decide) rfl)) (adi e1.symm),zA0];exact if_pos ⟨by simp;lia,qB8 _,qB8 _⟩
 ·obtain⟨o3,o4,o5,rfl⟩:=hr;subst hb;show sRetV 9 2 _=_;simp[mixL]
@[simp] theorem zP4(c:Str)(ρ:Rh):eNew0 c ρ=okR (.ins c []):=rfl
@[simp] theorem zKO(c:Str)(fl:List Str)(am:AM)(ρ:Rh):eNew c fl am ρ=zA3 (am ρ) fun ds=>match svsD ds with
 |some vs=>if vs.length=fl.length then okR (.ins c (fl.zip vs))else none
 |none=>none:=rfl
@[simp] theorem zQT(hs:List Str)(f:Str)(e:EM)(ρ:Rh):eFld hs f e ρ=zA3 (e ρ) fun d=>match d with
 |.ins c fs=>if c∈hs then(match fs.lookup f with|some v=>okR (dSv v)|none=>none)else none
 |_=>none:=rfl
@[simp] theorem zP5(tb:List (Str×FM))(m:Str)(e:EM)(am:AM)(ρ:Rh):eMeth tb m e am ρ=zA3 (e ρ) fun d=>match d with
 |.ins c fs=>match tb.lookup c with
  |some g=>match fs.lookup m with
   |none=>zA3 (am ρ) fun ds=>g (d::ds)
   |some _=>none
  |none=>none
 |_=>none:=rfl
@[simp] theorem x_eIsO(ys ns:List Str)(e:EM)(ρ:Rh):eIsO ys ns e ρ=zA3 (e ρ) fun d=>match d with
 |.ins c _=>if c∈ys then okR (.bl true)else if c∈ns then okR (.bl false)else none
 |_=>none:=rfl
@[simp] theorem v_dins(c:Str)(fs:List (Str×Sv)):(Dt.ins c fs).dep=1000:=rfl
theorem zSO{A R:List Nat}{x:Nat}(h:x∉A):(A++x::R).idxOf x=A.length:=by
 rw[List.idxOf_append,if_neg h,List.idxOf_cons_self]
 lia
theorem zQ8{A R:List Nat}{x:Nat}(h:x∉A):findD (.str ⟨(A++x::R).toArray⟩) [sgn x]=some (.int (A.length:Int)):=by
 rw[zNP (by simp),zSO h]
theorem len1(x:Nat):lenD [sgn x]=some (.int 1):=zJM (cs:=[x]) (by simp)
theorem zOO(x:Nat)(cs:List Nat):inD true (sgn x) (.str ⟨cs.toArray⟩)=some (.bl (!decide (x∈cs))):=rfl
theorem zNO{A R:List Nat}{x:Nat}(h:x∉A):zAL [.str ⟨(A++x::R).toArray⟩,sgn x]=okR (.int (A.length:Int)):=by
 have key:zBE [some (.str ⟨(A++x::R).toArray⟩,0),some (sgn x,0)]=okR (.rt (.int (A.length:Int))):=by
  have f:=zQ8 (R:=R) h;have i:=zOO x (A++x::R);rw[show(!decide (x∈A++x::R))=false by simp]at i;have l:=len1 x
  generalize(A++x::R)=cs at f i
  unfold zBE;refine zEO fun bb hb=>?_
  refine zBV (r:=[some (.str ⟨cs.toArray⟩,0),some (sgn x,0)]) (by simp[i,l]) ?_;subst hb;simp[f]
 exact zDT rfl key
def Odd(cs t:List Nat):Prop:=t.length<=100/\(t.length≠1\/∃c,t=[c]/\c∉cs)
theorem zGW{cs t:List Nat}(h:Odd cs t):zAL [.str ⟨cs.toArray⟩,.str ⟨t.toArray⟩]=some (.error ⟨"NoLetter","letter",.str ⟨t.toArray⟩⟩):=by
 have hl:=zJM (cs:=t) (by have:=h.1;lia);have key:zBE [some (.str ⟨cs.toArray⟩,0),some (.str ⟨t.toArray⟩,0)]=some (.error ⟨"NoLetter","letter",.str ⟨t.toArray⟩⟩):=by
  unfold zBE;have tt:Mi.tOr (tB (eB neD (eBi lenD (aCons (eV 1) aNil)) (eC (.int 1)))) (tB (eB (inD true) (eV 1) (eV 0))) [some (.str ⟨cs.toArray⟩),some (.str ⟨t.toArray⟩)]=okR true:=by
   by_cases h1:t.length=1
   ·rcases h.2 with h2|⟨c,rfl,hc⟩
    ·exact absurd h1 h2
    ·have i:inD true (.str ⟨([c]:List Nat).toArray⟩) (.str ⟨cs.toArray⟩)=some (.bl (!decide (c∈cs))):=zOO c cs;rw[decide_eq_false hc]at i;simp[hl,i]
   ·have:¬((t.length:Int)=1):=by lia
    simp[hl,this]
  rw[zDS,zG5,show full [some (Dt.str ⟨cs.toArray⟩,0),some (Dt.str ⟨t.toArray⟩,0)]=[some (.str ⟨cs.toArray⟩),some (.str ⟨t.toArray⟩)] from rfl,tt,zA0,if_pos rfl];simp
 exact zFR rfl key
theorem zQX{x:Nat}(h1:97<=x)(h2:x<123):upD (sgn x)=some (sgn (x-32)):=by
 show(if 97<=x/\x<123 then some (Dt.str ⟨#[x-32]⟩)else none)=_
 rw[if_pos ⟨h1,h2⟩];rfl
structure Seats(R:List (List Nat))(n:Nat):Prop where
 len:R.length=n
 per:∀l∈R,l.Perm [0,1,2,3]
end Mp
namespace Mp
open Mi PySem
section
variable{R:List (List Nat)}{row:List Nat}{n:Nat}(hS:Seats R n)(tw:Twice n row)
include hS
include tw
omit hS in
omit hS in
omit hS in
omit hS in
omit hS tw in
omit hS tw in
end
end Mp
namespace Mp
open Mi PySem
end Mp
namespace Mp
open Mi PySem
section
variable{ts cs:List Nat}{n e:Nat}(hN:NetN ts (4*n))(hne:∀x,x<4*n->nt ts x≠x)(hl:cs.length=n)(hw:∀c∈cs,c<3)(he:e<4*n)
include hN hne hl hw he
variable{p:Nat}(p3:itr (stp ts cs) p e=e)(p4:∀q,1<=q->q<p->itr (stp ts cs) q e≠e)
include p3 p4
omit hN hne hl hw he p3 p4 in
end
end Mp
namespace Mp
open Mi PySem
def rowW(cs:List Nat):List Nat:=cs.map fun c=>(ords cs).idxOf c
section
variable{n:Nat}{row:List Nat}(t:Twice n row)
include t
end
end Mp
namespace Mp
open Mi PySem
def fm(cs:List Nat)(s:Nat)(b:Bool):List Nat:=if b=true then(sh s cs).reverse else sh s cs
theorem zM1{l:List Nat}{k:Nat}{x:Dt}(h:(l.map sgn)[k]?=some x):k<l.length/\x=sgn (l.getD k 0):=by
 obtain⟨hk,e⟩:=qA2.mp h;have hk:k<l.length:=by simpa using hk
 exact⟨hk,by rw[<- e,List.getElem_map,qA5,qAq hk];rfl⟩
end Mp
namespace Mp
open Mi PySem
section
variable{ts C':List Nat}{n:Nat}(hN:NetN ts (4*n))(hne:∀x,x<4*n->nt ts x≠x)(hl:C'.length=n)(hw:∀c∈C',c<3)(hn:n<=10)(n1:1<=n)
include hN hne hl hw hn n1
end
end Mp
namespace Mp
open Mi PySem
theorem zJP{r:Ro}{i m n:Nat}{l:Nat}{f:Nat->Nat->Int}(a b:Nat){v:Int}{e0 e1 e2:EM}{P:Ro->Prop}(h:r[i]?=some (some (mat (tab n f),l+2)))(h0:e0 (full r)=okR (.int (a:Nat)))(h1:e1 (full r)=okR (.int (b:Nat)))(h2:e2 (full r)=okR (.int v))(ha:a<n)(hb:b<n)
  (hP:∀g,g=(fun x y=>if x=a/\y=b then v else f x y)->P (r.set i (some (mat (tab n g),l+2)))):nxR (sItem2 i m e0 e1 e2 r) P:=
 zBV (zLW h h0 h1 h2 ha hb) (hP _ rfl)
theorem eqI(a b:Int):eqD (.int a) (.int b)=some (.bl (decide (a=b))):=by simp[eqD,Dt.eq];rfl
noncomputable def allv:Nat->List (List Int)
 |0=>[[]]
 |n+1=>(allv n).map (qG2 0)++(allv n).map (qG2 1)
noncomputable def cnt(n:Nat)(P:List Int->Prop):Nat:=by
 classical exact((allv n).filter fun x=>decide (P x)).length
def Ev(n:Nat)(g:Nat->Int)(x:List Int):Prop:=sumN n (fun k=>g k*x.getD k 0)%2=0
section
variable{n i j:Nat}{f:Nat->Nat->Int}(hb:Bits n f)(hi:i<n)(hj:j<n)(hij:i≠j)
include hi in
include hi hij in
include hb hi hj hij in
include hb hi hj hij in
end
end Mp
namespace Mp
open Mi PySem
noncomputable def fst1:List Int->Nat
 |[]=>0
 |a::r=>if a=1 then 0 else fst1 r+1
section
variable{n:Nat}
def Lds(ls:List (List Int)):Prop:=ls.Pairwise fun l s=>s.getD (fst1 l) 0=0
end
end Mp
namespace Mp
open Mi PySem
end Mp
namespace Mp
open Mi PySem
section
variable{n p q:Nat}{T A:List (List Int)}{ps:List (List Int×Nat)}
end
end Mp
namespace Mp
open Mi PySem
noncomputable def zS7(n:Nat)(f:Nat->Nat->Int)(p:Nat):List Nat:=(qAg n).filter fun k=>decide (f p k=1) && !decide ((k:Int)=(p:Int))
noncomputable def chg(f:Nat->Nat->Int)(b:Nat->Nat->Bool):Nat->Nat->Int:=fun i j=>if b i j=true then 1-f i j else f i j
def pvA(n:Nat)(f:Nat->Nat->Int)(v:Nat):Nat->Nat->Int:=chg f fun i j=>decide (i∈zS7 n f v)&&decide (j∈zS7 n f v)
noncomputable def off(a:Nat->Int)(u:Nat):Nat->Int:=fun i=>if i=u then 0 else a i
noncomputable def exB(a b:Nat->Int)(i j:Nat):Bool:=(decide (a i=1)||decide (b i=1))&&((decide (a j=1)||decide (b j=1)) && !(decide (a i=a j)&&decide (b i=b j)))
noncomputable def swp(n u v:Nat):List Nat:=((qAg n).set u v).set v u
def sdA(f:Nat->Nat->Int)(u v:Nat)(w:Nat):Nat->Int:=off (off (f w) u) v
def pvB(n:Nat)(f:Nat->Nat->Int)(u v:Nat):Nat->Nat->Int:=sub (swp n u v) (chg f (exB (sdA f u v u) (sdA f u v v)))
structure Tb2(f:Nat->Nat->Int):Prop where
 bit:∀i j,f i j=0\/f i j=1
 sym:∀i j,f i j=f j i
theorem zrow(n:Nat)(hn:n<=1000):repD (.lst [.int 0]) (.int (n:Int))=some (rowD ((qAg n).map fun _=>(0:Int))):=by
 unfold repD;dsimp only;rw[if_pos ⟨⟨by lia,by lia⟩,by simp;lia⟩,qC4]
 have:∀m:Nat,(qA7 m [Dt.int 0]).flatten=((qAg m).map fun _=>(0:Int)).map Dt.int:=fun m=>by
  induction m with
  |zero=>rfl
  |succ m ih=>rw[List.replicate_succ',List.flatten_append,ih,qDq,qBt,qBt];rfl
 rw[this];rfl
theorem zIV(cs:List Int)(n:Nat)(b:Bool)(hn:n<=10)(hc:0<cs.length):∃f,Tb2 f/\zBJ [rowD cs,.int (n:Int),.bl b]=okR (mat (tab n f)):=by
 have hz:eComp (iR1 (aCons (eV 1) aNil)) 1 (.one 7) Mi.tYes (eB repD (eLst (aCons (eC (.int 0)) aNil)) (eV 1)) [some (rowD cs),some (.int (n:Int)),some (.bl b),none,none,none,none]=okR (mat (tab n fun _ _=>0)):=by
  refine(zDM (ρ:=[some (rowD cs),some (.int (n:Int)),some (.bl b),none,none,none,none]) (i:=7) (fun _=>rowD ((qAg n).map fun _=>(0:Int))) n rfl rfl (fun k hk=>b2 (el1 rfl) rfl (zrow n (by lia))) _ (zIA (n:=n) (al0 rfl) (by lia)) (by lia)).trans ?_;unfold mat tab;rw[qCo];rfl
 have key:nxR ((sForR (iR1 (aCons (eV 1) aNil)) 4 (sForR (iR1 (aCons (eB addD (eV 4) (eC (.int 1))) aNil)) 5 (sSeq (sSet 6 0 [0,5,4,1] (eB ixD (eV 0) (eB modD (eB addD (eB mulD (eV 4) (eV 1)) (eV 5)) (eBi lenD (aCons (eV 0) aNil)))))
 (sSeq (sSet 6 0 [6,5,4] (eB modD (eB divD (eV 6) (eB addD (eB addD (eC (.int 1)) (eB mulD (eC (.int 7)) (eV 4))) (eB mulD (eC (.int 61)) (eV 5)))) (eC (.int 2))))
 (sIf (Mi.tOr (tB (eB neD (eV 4) (eV 5))) (tM (eV 2))) (sSeq (sItem2 3 0 (eV 4) (eV 5) (eV 6))
 (sItem2 3 0 (eV 5) (eV 4) (eV 6))) sNil))))) [some (rowD cs,0),some (.int (n:Int),0),some (.bl b,0),some (mat (tab n fun _ _=>0),2),none,none,none]) (fun r=>∃f o4 o5 o6,Tb2 f/\r=[some (rowD cs,0),some (.int (n:Int),0),some (.bl b,0),some (mat (tab n f),2),o4,o5,o6]):=by
  rw[zEE,zIA (n:=n) (al0 rfl) (by lia),zA0];refine zLI (fun _ r=>∃f o4 o5 o6,Tb2 f/\r=[some (rowD cs,0),some (.int (n:Int),0),some (.bl b,0),some (mat (tab n f),2),o4,o5,o6]) ⟨_,none,none,none,⟨fun _ _=>.inl rfl,fun _ _=>rfl⟩,rfl⟩ (fun i hi r hr=>?_) fun r hr=>hr
  obtain⟨f,o4,o5,o6,tf,rfl⟩:=hr;rw[zEE,zIA (n:=i+1) (al0 (b2 rfl rfl (adi (by lia)))) (by lia),zA0];refine zLI (fun _ r=>∃f o5 o6,Tb2 f/\r=[some (rowD cs,0),some (.int (n:Int),0),some (.bl b,0),some (mat (tab n f),2),some (.int (i:Nat),0),o5,o6]) ⟨f,o5,o6,tf,rfl⟩ (fun j hj r hr=>?_) fun r hr=>?_
  ·obtain⟨f,o5,o6,tf,rfl⟩:=hr;have m1:mulD (.int (i:Int)) (.int (n:Int))=some (.int ((i:Int)*(n:Int))):=zLK (by lia) (by lia);have m2:mulD (.int 7) (.int (i:Int))=some (.int (7*(i:Int))):=zLK (by decide) (by decide);have m3:mulD (.int 61) (.int (j:Int))=some (.int (61*(j:Int))):=zLK (by decide) (by decide);have a1:=qF1 ((i:Int)*(n:Int)+(j:Int)) (show((cs.length:Nat):Int)≠0 by lia);have a2:=qE7 ((i:Int)*(n:Int)+(j:Int)) (show(0:Int)<((cs.length:Nat):Int) by lia);have i1:ixD (rowD cs) (.int (((i:Int)*(n:Int)+(j:Int))%(cs.length:Int)))=some (.int (cs.getD (((i:Int)*(n:Int)+(j:Int))%(cs.length:Int)).toNat 0)):=zJR a1 a2
   generalize hw:((i:Int)*(n:Int)+(j:Int))%(cs.length:Int)=w at i1
   generalize cs.getD w.toNat 0=x at i1
   refine zKY fun bb hb=>zBV (ss (b2 rfl (b2 (b2 (b2 rfl rfl m1) rfl (adi rfl)) (bi1 rfl (lenR cs)) (mdi (by lia) hw)) i1) (qA6 0)) ?_
   subst hb;refine zKY fun bb hb=>zBV (ss (b2 (b2 rfl (b2 (b2 rfl (b2 rfl rfl m2) (adi rfl)) (b2 rfl rfl m3) (adi rfl)) (dvi ⟨by lia,by lia⟩)) rfl (mdi (by decide) rfl)) (qA6 0)) ?_
   subst hb;have hv:=zQF (x/(1+7*(i:Int)+61*(j:Int)))
   generalize x/(1+7*(i:Int)+61*(j:Int))%2=y at hv ⊢
   have hor:∃t:Bool,Mi.tOr (tB (eB neD (eV 4) (eV 5))) (tM (eV 2)) (full [some (rowD cs,0),some (.int (n:Int),0),some (.bl b,0),some (mat (tab n f),2),some (.int (i:Nat),0),some (.int (j:Nat),0),some (.int y,0)])=okR t:=by
    by_cases h:(i:Int)=j
    ·exact⟨b,to0 (nei rfl rfl (by rw[decide_eq_true h];rfl)) (tm1 rfl)⟩
    ·exact⟨true,to1 (nei rfl rfl (by rw[decide_eq_false h];rfl))⟩
   obtain⟨t,ht⟩:=hor;cases t with
   |false=>exact nif0 ht (zBV (zKN _) ⟨f,_,_,tf,rfl⟩)
   |true=>
    refine nif1 ht (zKY fun bb hb=>zJP (l:=0) (f:=f) i j (v:=y) rfl rfl rfl rfl hi (by lia) fun g1 hg1=>?_);subst hb;refine zJP (l:=0) (f:=g1) j i (v:=y) rfl rfl rfl rfl (by lia) hi fun g2 hg2=>⟨g2,_,_,⟨fun p q=>?_,fun p q=>?_⟩,rfl⟩
    ·rw[hg2,hg1]
     show(if p=j/\q=i then y else if p=i/\q=j then y else f p q)=0\/(if p=j/\q=i then y else if p=i/\q=j then y else f p q)=1
     split
     ·exact hv
     ·split
      ·exact hv
      ·exact tf.bit p q
    ·rw[hg2,hg1]
     show(if p=j/\q=i then y else if p=i/\q=j then y else f p q)=(if q=j/\p=i then y else if q=i/\p=j then y else f q p)
     by_cases c1:p=j/\q=i
     ·rw[if_pos c1]
      by_cases c2:q=j/\p=i
      ·rw[if_pos c2]
      ·rw[if_neg c2,if_pos ⟨c1.2,c1.1⟩]
     ·rw[if_neg c1]
      by_cases c2:p=i/\q=j
      ·rw[if_pos c2,if_pos ⟨c2.2,c2.1⟩]
      ·rw[if_neg c2,if_neg (fun z=>c2 ⟨z.2,z.1⟩),if_neg (fun z=>c1 ⟨z.2,z.1⟩)];exact tf.sym p q
  ·obtain⟨f,o5,o6,tf,rfl⟩:=hr;exact⟨f,_,_,_,tf,rfl⟩
 obtain⟨r',g1,f,o4,o5,o6,tf,rfl⟩:=zD2 key;refine⟨f,tf,zDT rfl (sg hz (zCM _) (sw g1 ?_))⟩;show sRetV 2 3 _=_;unfold sRetV
 show(if _ then _ else _)=_
 rw[if_pos (.inl rfl)]
theorem zUB{n:Nat}{f:Nat->Nat->Int}{ρ:Rh}{i m:Nat}(hm:m=ρ.length)(hi:ρ[i]?=some (some (mat (tab n f))))(hn:n<=1000):eComp (iSq (eV i)) 1 (.one m) Mi.tYes (eBi listD (aCons (eV m) aNil)) ρ=okR (mat (tab n f)):=by
 refine zG1 rowD rowD (tab n f) rfl hm (fun r _=>bi1 (d1:=rowD r) (v1 (by rw[hm,qA9 (qA6 _)];simp)) rfl) _ ?_ (by rw[zP9];lia);show zA3 (eV i ρ) _=_;rw[v1 hi];rfl
def GdA(n:Nat)(f:Nat->Nat->Int)(v:Nat):Prop:=v<n/\f v v=1
def GdB(n:Nat)(f:Nat->Nat->Int)(u v:Nat):Prop:=u<n/\v<n/\u≠v/\f u v=1/\f u u=0/\f v v=0
inductive Du(n:Nat)(f:Nat->Nat->Int):List Int->Option (Nat->Nat->Int)->Prop where
 |one {v:Nat} (h:GdA n f v):Du n f [(v:Int)] (some (pvA n f v))
 |two {u v:Nat} (h:GdB n f u v):Du n f [(u:Int),(v:Int)] (some (pvB n f u v))
 |no {l:List Int} (h1:∀v:Nat,l=[(v:Int)]->¬GdA n f v) (h2:∀u v:Nat,l=[(u:Int),(v:Int)]->¬GdB n f u v):Du n f l none
theorem zFR{P n:Nat}{b:SM}{ds:List Dt}{x:Xn}(h:ds.length=P)(hb:b (startO n ds)=some (.error x)):runF P n b ds=some (.error x):=by
 unfold runF;rw[if_pos h,hb];rfl
theorem zPY{γ:Type}{i j:Nat}{b:SM}{r:Ro}{X:Ro->Prop}(e1 e2:γ->Dt)(ns:List γ)(Pv:Ro->Prop)(h:Pv r)(hs:∀x∈ns,∀r,Pv r->nxR (b ((r.set i (some (e1 x,0))).set j (some (e2 x,0)))) Pv)(hK:∀r',Pv r'->X r'):nxR (forGo (.tup [i,j]) b (ns.map fun x=>Dt.tup [e1 x,e2 x]) r) X:=by
 obtain⟨r',h1,h2⟩:=zGV (tg:=.tup [i,j]) (b:=b) (fun _=>Pv) (ns.map fun x=>Dt.tup [e1 x,e2 x]) 0 r h fun k d r hd hp=>by
  rw[qAi]at hd;cases e:ns[k]? with
  |none=>rw[e]at hd;cases hd
  |some q=>
   rw[e]at hd;cases hd;obtain⟨r',g1,g2⟩:=zD2 (hs q (qBb e) r hp);exact⟨_,r',rfl,g1,g2⟩
 rw[h1];exact hK r' h2
theorem zG7(A:List (List Int)):zBD [mat A,mat A]=okR (.bl true):=by
 have hd:=zCM A;have hlen:lenD [mat A]=some (.int (A.length:Int)):=lenM A;have hz:zipD (A.map rowD) (A.map rowD)=A.map fun r=>Dt.tup [rowD r,rowD r]:=by
  induction A with
  |nil=>rfl
  |cons r t ih=>rw[qAj,zipD,qAj,ih (zCM t) (lenM t)]
 refine zDT rfl (sp (to0 (tn1 (k:=true) (tm1 rfl)) (nei (bi1 rfl hlen) (bi1 rfl hlen) (by simp))) (zEO fun bb hb=>?_));rw[zH6];show nxR (zA3 (okR (zipD (A.map rowD) (A.map rowD))) fun ds=>forGo (.tup [2,3]) _ ds [some (mat A,0),some (mat A,0),none,none,none]) _;rw[zA0,hz];refine zPY rowD rowD A (fun r=>∃o2 o3 o4,r=[some (mat A,0),some (mat A,0),o2,o3,o4]) ⟨none,none,none,rfl⟩ (fun x _ r hr=>?_) fun r hr=>?_
 ·obtain⟨o2,o3,o4,rfl⟩:=hr;refine nsw (sf (to0 (tn1 (k:=true) (tm1 rfl)) (nei (bi1 rfl (lenR x)) (bi1 rfl (lenR x)) (by simp)))) ?_;rw[zH6];show nxR (zA3 (okR (x.map Dt.int)) fun ds=>forGo (.one 4) _ ds [some (mat A,0),some (mat A,0),some (rowD x,0),some (rowD x,0),o4]) _;rw[zA0];refine zGK Dt.int x (fun _ r=>∃o4,r=[some (mat A,0),some (mat A,0),some (rowD x,0),some (rowD x,0),o4]) ⟨o4,rfl⟩ (fun k y _ r hr=>?_) fun r hr=>?_
  ·obtain⟨o4,rfl⟩:=hr;exact zBV (sf (to0 (tn1 (k:=true) (tm1 rfl)) (tm1 rfl))) ⟨_,rfl⟩
  ·obtain⟨o4,rfl⟩:=hr;exact⟨_,_,_,rfl⟩
 ·obtain⟨o2,o3,o4,rfl⟩:=hr;subst hb;refine sr (b2 rfl rfl ?_) ⟨qA6 0,qA6 0⟩;unfold eqD;rw[if_pos ⟨by lia,by lia⟩,zOR,decide_eq_true rfl]
theorem zG4(c:Int):∀A:List (List Int),(∀r∈A,r.length<=1000)->addAll c (A.map rowD)=some (A.map fun r=>rowD (r++[c]))
 |[],_=>rfl
 |r::A,h=>by
  have h1:=h r (by simp);rw[qAj];show addAll c (.lst (r.map Dt.int)::A.map rowD)=_;rw[addAll,if_pos (by rw[qAx];lia),zG4 c A fun x hx=>h x (by simp[hx])];show some (_::_)=_;rw[qAj];unfold rowD;rw[qBt];rfl
theorem eqM(A:List (List Int)):eqD (mat A) (mat A)=some (.bl true):=by
 have:=zCM A
 unfold eqD;rw[if_pos ⟨by lia,by lia⟩,zOR,decide_eq_true rfl]
noncomputable def lt8(c n:Nat):List Nat:=(qAg n).map fun k=>97+(c+2*k)
theorem zC1(c n:Nat):(lt8 c n).length=n:=by simp[lt8]
theorem lt8_mem{c n x:Nat}:x∈lt8 c n↔∃k,k<n/\97+(c+2*k)=x:=by simp[lt8]
theorem zLO{c n i:Nat}(h:i<n)(hn:n<=1000):ixD (.str ⟨(lt8 c n).toArray⟩) (.int (i:Int))=some (sgn (97+(c+2*i))):=by
 rw[zOI (by rw[zC1];exact h) (by rw[zC1];exact hn)];unfold lt8;rw[qA5,qAi,qC8 h];rfl
theorem zL5{c n i:Nat}(h:i<n):zAL [.str ⟨(lt8 c n).toArray⟩,sgn (97+(c+2*i))]=okR (.int (i:Int)):=by
 obtain⟨m,rfl⟩:∃m,n=i+(m+1):=⟨n-i-1,by lia⟩
 have e:lt8 c (i+(m+1))=lt8 c i++(97+(c+2*i))::(qAg m).map (fun k=>97+(c+2*(i+(k+1)))):=by
  unfold lt8;rw[List.range_add,qBt,qDl,qAj,qAj,qCo,qCo];rfl
 have:=zNO (A:=lt8 c i) (R:=(qAg m).map (fun k=>97+(c+2*(i+(k+1))))) (x:=97+(c+2*i)) fun z=>by
  obtain⟨k,hk,ek⟩:=lt8_mem.mp z
  lia
 rw[<- e,zC1]at this;exact this
theorem lkY{β:Type}{a:Str}{x:β}{l:List (Str×β)}:((a,x)::l).lookup a=some x:=by rw[qAu,beq_self_eq_true]
theorem lkN{β:Type}{a b:Str}{x:β}{l:List (Str×β)}{o:Option β}(h:(a==b)=false)(h2:l.lookup a=o):((b,x)::l).lookup a=o:=by rw[qAu,h,<- h2]
theorem fld1{hs:List Str}{f c:Str}{fs:List (Str×Sv)}{v:Sv}{e:EM}{ρ:Rh}(h:e ρ=okR (.ins c fs))(hc:c∈hs)(hf:fs.lookup f=some v):eFld hs f e ρ=okR (dSv v):=by
 rw[zQT,h,zA0];dsimp only;rw[if_pos hc,hf]
theorem mth{tb:List (Str×FM)}{m c:Str}{fs:List (Str×Sv)}{g:FM}{e0 e1 e2:EM}{ρ:Rh}{d1 d2:Dt}{X:R Dt}(h0:e0 ρ=okR (.ins c fs))(hl:tb.lookup c=some g)(hf:fs.lookup m=none)(h1:e1 ρ=okR d1)(h2:e2 ρ=okR d2)(hg:g [.ins c fs,d1,d2]=X):eMeth tb m e0 (aCons e1 (aCons e2 aNil)) ρ=X:=by
 rw[zP5,h0,zA0];dsimp only;rw[hl];dsimp only;rw[hf];dsimp only;rw[zBL,h1,zA0,al0 h2,zA0];exact hg
theorem sge{i n:Nat}{vs:List Nat}{e:EM}{b:SM}{r:Ro}{x:Xn}(he:e (full r)=some (.error x)):sSeq (sSet i n vs e) b r=some (.error x):=by
 rw[zDS,zJ1,he];rfl
theorem sie{c:TM}{a b:SM}{r:Ro}{x:Xn}(hc:c (full r)=okR true)(ha:a r=some (.error x)):sSeq (sIf c a sNil) b r=some (.error x):=by
 rw[zDS,zG5,hc,zA0,if_pos rfl,ha];rfl
theorem cn8{m:FM}{e1:EM}{ρ:Rh}{d1 d:Dt}(h1:e1 ρ=okR d1)(h:m [d1]=okR d):eCallN m (aCons e1 aNil) ρ=okR d:=by
 unfold eCallN;rw[al0 h1,zA0,h];rfl
noncomputable def swt8(u v:List Nat):Dt:=.ins "Swap" [("one",.s ⟨u.toArray⟩),("other",.s ⟨v.toArray⟩)]
noncomputable def tnt8(u:List Nat):Dt:=.ins "Turn" [("letter",.s ⟨u.toArray⟩)]
theorem oo:(("other":Str)==("one":Str))=false:=by decide +kernel
theorem sww1{cs t s:List Nat}{M:Dt}(h:Odd cs t):zA5 [swt8 t s,.str ⟨cs.toArray⟩,M]=some (.error ⟨"NoLetter","letter",.str ⟨t.toArray⟩⟩):=
 zFR rfl (sge (c2 rfl (fld1 (v:=.s ⟨t.toArray⟩) rfl (by decide) lkY) (zGW h)))
theorem sww2{c n i:Nat}{t:List Nat}{M:Dt}(hi:i<n)(h:Odd (lt8 c n) t):zA5 [swt8 [97+(c+2*i)] t,.str ⟨(lt8 c n).toArray⟩,M]=some (.error ⟨"NoLetter","letter",.str ⟨t.toArray⟩⟩):=
 zFR rfl (sg (c2 rfl (fld1 (v:=.s ⟨#[97+(c+2*i)]⟩) rfl (by decide) lkY) (zL5 hi)) (qA6 0) (sge (c2 rfl (fld1 (v:=.s ⟨t.toArray⟩) rfl (by decide) (lkN oo lkY)) (zGW h))))
theorem sww3{c n i j:Nat}{f:Nat->Nat->Int}(hi:i<n)(hj:j<n)(h:f i j=0):zA5 [swt8 [97+(c+2*i)] [97+(c+2*j)],.str ⟨(lt8 c n).toArray⟩,mat (tab n f)]=some (.error ⟨"NoCross","",.non⟩):=by
 have e1:ixD (rowD ((qAg n).map fun j=>f i j)) (.int (j:Int))=some (.int 0):=by
  rw[zLU _ _ (by simpa using hj),qA5,qAi,qC8 hj];show some (Dt.int (f i j))=_;rw[h]
 refine zFR rfl (sg (c2 rfl (fld1 (v:=.s ⟨#[97+(c+2*i)]⟩) rfl (by decide) lkY) (zL5 hi)) (qA6 0) (sg (c2 rfl (fld1 (v:=.s ⟨#[97+(c+2*j)]⟩) rfl (by decide) (lkN oo lkY)) (zL5 hj)) (qA6 0) (sie (nei (b2 (b2 rfl rfl (ixM hi)) rfl e1) rfl rfl) ?_)));unfold sRaise0;rw[al0 rfl,zA0];exact if_pos (by simp)
theorem tnw1{cs t:List Nat}{M:Dt}(h:Odd cs t):zA7 [tnt8 t,.str ⟨cs.toArray⟩,M]=some (.error ⟨"NoLetter","letter",.str ⟨t.toArray⟩⟩):=by
 refine zFR rfl ?_;have e:aCons (eV 2) (aCons (eCall zAL (aCons (eV 1) (aCons (eFld ["Turn"] "letter" (eV 0)) aNil))) aNil) [some (tnt8 t),some (.str ⟨cs.toArray⟩),some M]=some (.error ⟨"NoLetter","letter",.str ⟨t.toArray⟩⟩):=by
  rw[zBL,v1 rfl,zA0,zBL,c2 rfl (fld1 (v:=.s ⟨t.toArray⟩) rfl (by decide) lkY) (zGW h)];rfl
 show sRet _ _ _ _ [some (tnt8 t,0),some (.str ⟨cs.toArray⟩,0),some (M,0)]=_;unfold sRet eCallN;show zA3 (zA3 (aCons (eV 2) (aCons (eCall zAL (aCons (eV 1) (aCons (eFld ["Turn"] "letter" (eV 0)) aNil))) aNil) [some (tnt8 t),some (.str ⟨cs.toArray⟩),some M]) _) _=_;rw[e];rfl
theorem zT5{n:Nat}{f:Nat->Nat->Int}{d s:Dt}(hn:n<=10):zA1 [d,s,mat (tab n f)]=okR (mat (tab n f)):=
 zDT rfl (sr (cn8 rfl (zNW _ (by unfold tab;simp;lia))) ⟨zCM _,zCM _⟩)
theorem isx8{ys ns:List Str}{c f:Str}{d:Dt}{ρ:Rh}{b:Bool}{i:Nat}(h1:ρ[i]?=some (some (.exc c f d)))(h2:(if c∈ys then okR (Dt.bl true)else if c∈ns then okR (Dt.bl false)else none)=okR (.bl b)):eIsX ys ns (eV i) ρ=okR (.bl b):=by
 unfold eIsX;rw[v1 h1,zA0];exact h2
theorem e38{e1 e2 e3:EM}{ρ:Rh}{d1 d2 d3:Dt}(h1:e1 ρ=okR d1)(h2:e2 ρ=okR d2)(h3:e3 ρ=okR d3):eLst (aCons e1 (aCons e2 (aCons e3 aNil))) ρ=okR (.lst [d1,d2,d3]):=by simp[h1,h2,h3]
theorem zRH{ch L M d:Dt}{c f:Str}{b1 b2:Bool}(hm:∀o,eMeth [("Turn",zA7),("Swap",zA5),("Mirror",zA1),("Shift",zA1)] "done_web" (eV 0) (aCons (eV 1) (aCons (eV 2) aNil)) [some ch,some L,some M,o,none]=some (.error ⟨c,f,d⟩))
  (h1:(if c∈(["NoCross"]:List Str)then okR (Dt.bl true)else if c∈(["RoundError","NoLetter"]:List Str)then okR (Dt.bl false)else none)=okR (.bl b1)) (h2:(if c∈(["NoLetter"]:List Str)then okR (Dt.bl true)else if c∈(["RoundError","NoCross"]:List Str)then okR (Dt.bl false)else none)=okR (.bl b2)) (h3:c∈(["RoundError","NoLetter","NoCross"]:List Str)):zAO [ch,L,M]=okR (.lst [.bl b1,.bl b2,.bl true]):=by
 have hsuite:sSet 3 1 [4] (eLst (aCons (eIsX ["NoCross"] ["RoundError","NoLetter"] (eV 4)) (aCons (eIsX ["NoLetter"] ["RoundError","NoCross"] (eV 4)) (aCons (eIsX ["RoundError","NoLetter","NoCross"] [] (eV 4)) aNil)))) [some (ch,0),some (L,0),some (M,0),some (.lst [],9),some (.exc c f d,0)]=okR (.nx [some (ch,0),some (L,0),some (M,0),some (.lst [.bl b1,.bl b2,.bl true],1),some (.exc c f d,0)]):=
  ss (e38 (isx8 rfl h1) (isx8 rfl h2) (isx8 rfl (if_pos h3))) (by simp)
 have htry:sTry [1,2,0] none (eMeth [("Turn",zA7),("Swap",zA5),("Mirror",zA1),("Shift",zA1)] "done_web" (eV 0) (aCons (eV 1) (aCons (eV 2) aNil))) ["RoundError","NoLetter","NoCross"] 4 (sSet 3 1 [4] (eLst (aCons (eIsX ["NoCross"] ["RoundError","NoLetter"] (eV 4)) (aCons (eIsX ["NoLetter"] ["RoundError","NoCross"] (eV 4)) (aCons (eIsX ["RoundError","NoLetter","NoCross"] [] (eV 4)) aNil))))) [some (ch,0),some (L,0),some (M,0),some (.lst [],9),none]=okR (.nx [some (ch,0),some (L,0),some (M,0),some (.lst [.bl b1,.bl b2,.bl true],1),none]):=by
  rw[zL0 (x:=⟨c,f,d⟩) _ _ _ (hm _) h3];show zA3 (sSet 3 1 [4] _ [some (ch,0),some (L,0),some (M,0),some (.lst [],9),some (.exc c f d,0)]) _=_;rw[hsuite,zA0];rfl
 refine zDT rfl (sg el0 (by decide) (sw htry ?_));show sRetV 1 3 [some (ch,0),some (L,0),some (M,0),some (.lst [.bl b1,.bl b2,.bl true],1),none]=_;simp
theorem zU1{ch L M d:Dt}(hm:∀o,eMeth [("Turn",zA7),("Swap",zA5),("Mirror",zA1),("Shift",zA1)] "done_web" (eV 0) (aCons (eV 1) (aCons (eV 2) aNil)) [some ch,some L,some M,o,none]=some (.error ⟨"NoLetter","letter",d⟩))(hd:d.dep=0):zBA [ch,L,M]=okR d:=by
 have hsuite:sSet 3 0 [4] (eAtX ["NoLetter"] "letter" (eV 4)) [some (ch,0),some (L,0),some (M,0),some (.non,0),some (.exc "NoLetter" "letter" d,0)]=okR (.nx [some (ch,0),some (L,0),some (M,0),some (d,0),some (.exc "NoLetter" "letter" d,0)]):=by
  refine ss (d:=d) ?_ (by lia);unfold eAtX;rw[v1 (d:=.exc "NoLetter" "letter" d) rfl,zA0];exact if_pos ⟨by simp,rfl⟩
 have htry:sTry [1,2,0] none (eMeth [("Turn",zA7),("Swap",zA5),("Mirror",zA1),("Shift",zA1)] "done_web" (eV 0) (aCons (eV 1) (aCons (eV 2) aNil))) ["NoLetter"] 4 (sSet 3 0 [4] (eAtX ["NoLetter"] "letter" (eV 4))) [some (ch,0),some (L,0),some (M,0),some (.non,0),none]=okR (.nx [some (ch,0),some (L,0),some (M,0),some (d,0),none]):=by
  rw[zL0 (x:=⟨"NoLetter","letter",d⟩) _ _ _ (hm _) (by simp)];show zA3 (sSet 3 0 [4] _ [some (ch,0),some (L,0),some (M,0),some (.non,0),some (.exc "NoLetter" "letter" d,0)]) _=_;rw[hsuite,zA0];rfl
 refine zDT rfl (sg rfl (qA6 0) (sw htry ?_));show sRetV 0 3 [some (ch,0),some (L,0),some (M,0),some (d,0),none]=_;simp
theorem nTS:(("Swap":Str)==("Turn":Str))=false:=by decide +kernel
theorem nMT:(("Mirror":Str)==("Turn":Str))=false:=by decide +kernel
theorem nMS:(("Mirror":Str)==("Swap":Str))=false:=by decide +kernel
theorem nhT:(("Shift":Str)==("Turn":Str))=false:=by decide +kernel
theorem nhS:(("Shift":Str)==("Swap":Str))=false:=by decide +kernel
theorem nhM:(("Shift":Str)==("Mirror":Str))=false:=by decide +kernel
theorem nd1:(("done_web":Str)==("one":Str))=false:=by decide +kernel
theorem nd2:(("done_web":Str)==("other":Str))=false:=by decide +kernel
theorem nd3:(("done_web":Str)==("letter":Str))=false:=by decide +kernel
theorem nd4:(("done_web":Str)==("by":Str))=false:=by decide +kernel
theorem mS8{u v:List Nat}{L M:Dt}{X:R Dt}(h:zA5 [swt8 u v,L,M]=X)(o:Option Dt):eMeth [("Turn",zA7),("Swap",zA5),("Mirror",zA1),("Shift",zA1)] "done_web" (eV 0) (aCons (eV 1) (aCons (eV 2) aNil)) [some (swt8 u v),some L,some M,o,none]=X:=
 mth (v1 rfl) (lkN nTS lkY) (lkN nd1 (lkN nd2 rfl)) (v1 rfl) (v1 rfl) h
theorem mT8{u:List Nat}{L M:Dt}{X:R Dt}(h:zA7 [tnt8 u,L,M]=X)(o:Option Dt):eMeth [("Turn",zA7),("Swap",zA5),("Mirror",zA1),("Shift",zA1)] "done_web" (eV 0) (aCons (eV 1) (aCons (eV 2) aNil)) [some (tnt8 u),some L,some M,o,none]=X:=
 mth (v1 rfl) lkY (lkN nd3 rfl) (v1 rfl) (v1 rfl) h
theorem zTQ{ch L M d:Dt}(hm:∀o,eMeth [("Turn",zA7),("Swap",zA5),("Mirror",zA1),("Shift",zA1)] "done_web" (eV 0) (aCons (eV 1) (aCons (eV 2) aNil)) [some ch,some L,some M,o,none]=some (.error ⟨"NoLetter","letter",d⟩)):zAO [ch,L,M]=okR (.lst [.bl false,.bl true,.bl true]):=
 zRH hm (by rw[if_neg (by decide),if_pos (by decide)]) (if_pos (by decide)) (by decide)
theorem zTR{ch L M:Dt}(hm:∀o,eMeth [("Turn",zA7),("Swap",zA5),("Mirror",zA1),("Shift",zA1)] "done_web" (eV 0) (aCons (eV 1) (aCons (eV 2) aNil)) [some ch,some L,some M,o,none]=some (.error ⟨"NoCross","",.non⟩)):zAO [ch,L,M]=okR (.lst [.bl true,.bl false,.bl true]):=
 zRH hm (if_pos (by decide)) (by rw[if_neg (by decide),if_pos (by decide)]) (by decide)
theorem ssf8{i n:Nat}{vs:List Nat}{e:EM}{r:Ro}{d:Dt}(he:e (full r)=okR d)(hd:¬d.dep<=n)(he2:e (frz (frzAt vs r))=okR d):sSet i n vs e r=okR (.nx ((frzAt vs r).set i (some (d,n)))):=by
 rw[zJ1,he,zA0,if_neg hd,he2];rfl
theorem ac8{e:EM}{r:AM}{ρ:Rh}{d:Dt}{ds:List Dt}(h1:e ρ=okR d)(h2:r ρ=okR ds):aCons e r ρ=okR (d::ds):=by rw[zBL,h1,zA0,h2];rfl
theorem el8{a:AM}{ρ:Rh}{ds:List Dt}(h:a ρ=okR ds)(hl:ds.length<=100):eLst a ρ=okR (.lst ds):=by
 simp[h];lia
theorem ne8(u:Str):neD (.str u) (.str u)=some (.bl false):=by
 show(if(Dt.str u).dep<=40/\(Dt.str u).dep<=40 then some (Dt.bl (!Dt.eq (.str u) (.str u)))else none)=_
 rw[if_pos ⟨qB8 _,qB8 _⟩];show some (Dt.bl (!(u==u)))=_;rw[beq_self_eq_true];rfl
theorem new2{e1 e2:EM}{ρ:Rh}{u v:List Nat}(h1:e1 ρ=okR (.str ⟨u.toArray⟩))(h2:e2 ρ=okR (.str ⟨v.toArray⟩)):eNew "Swap" ["one","other"] (aCons e1 (aCons e2 aNil)) ρ=okR (swt8 u v):=by
 rw[zKO,ac8 h1 (al0 h2)];rfl
theorem new1{e1:EM}{ρ:Rh}{u:List Nat}(h1:e1 ρ=okR (.str ⟨u.toArray⟩)):eNew "Turn" ["letter"] (aCons e1 aNil) ρ=okR (tnt8 u):=by
 rw[zKO,al0 h1];rfl
theorem new3{e1:EM}{ρ:Rh}{z:Int}(h1:e1 ρ=okR (.int z)):eNew "Shift" ["by"] (aCons e1 aNil) ρ=okR (.ins "Shift" [("by",.i z)]):=by
 rw[zKO,al0 h1];rfl
theorem eu8{o:Dt->Option Dt}{e:EM}{ρ:Rh}{d d':Dt}(h:e ρ=okR d)(h2:o d=some d'):eU o e ρ=okR d':=by simp[h,h2]
theorem st8{c:TM}{a:SM}{r:Ro}{X:R Out}(hc:c (full r)=okR true)(ha:a r=X):sIf c a sNil r=X:=by
 rw[zG5,hc,zA0,if_pos rfl,ha]
theorem app8{r:Ro}{i n k:Nat}{e:EM}{ds:List Dt}{d:Dt}(h:r[i]?=some (some (.lst ds,k+1)))(he:e (full r)=okR d)(hl:ds.length<=100000)(h1:d.dep<=n)(h2:d.dep<=k):sApp i n e r=okR (.nx (r.set i (some (.lst (ds++[d]),k+1)))):=by
 unfold sApp;rw[h];dsimp only;rw[he,zA0];exact if_pos ⟨hl,h1,h2⟩
theorem zT3{α:Type}(xs:List α)(h:2<=xs.length):(cutA xs (some (-2)) none).length=2:=by
 unfold cutA cutIx;simp
 lia
theorem zNB(ns:List Int)(hl:ns.length<=63)(hw:∀i∈ns,i.natAbs.log2<2 ^ 20):zHP [.scr ns]=okR (.bl true):=by
 have hmix:=zLM ns 20 (by decide) hl;have hcl:(mixL ns (max 20 ns.length)).length=max 20 ns.length:=by unfold mixL;rw[qAx,qDa]
 generalize mixL ns (max 20 ns.length)=cs at hmix hcl
 have hmix:zBK [.scr ns,.int 20]=okR (rowD cs):=hmix;have hc20:20<=cs.length:=by rw[hcl];exact qEv _ _
 have hi0:=zLU cs 0 (by lia);have hi1:=zLU cs 1 (by lia);have hi2:=zLU cs 2 (by lia);obtain⟨n,hn⟩:∃n:Nat,(n:Int)=1+cs.getD 0 0%10:=⟨(1+cs.getD 0 0%10).toNat,by lia⟩
 have hn1:1<=n/\n<=10:=by lia
 obtain⟨c,hc⟩:∃c:Nat,(c:Int)=cs.getD 1 0%6:=⟨(cs.getD 1 0%6).toNat,by lia⟩
 have hc5:c<=5:=by lia
 obtain⟨q,hq⟩:∃q:Nat,(q:Int)=cs.getD 2 0%(n:Int):=⟨(cs.getD 2 0%(n:Int)).toNat,by have:=qF1 (cs.getD 2 0) (show(n:Int)≠0 by lia);lia⟩
 have hqn:q<n:=by have:=qE7 (cs.getD 2 0) (show(0:Int)<n by lia);lia
 have hsl:slD (rowD cs) (some 3) none=some (rowD (cs.drop 3)):=by
  show some (Dt.lst (cutA (cs.map Dt.int) (some ((3:Nat):Int)) none))=_;rw[zNV,<- List.map_drop];rfl
 obtain⟨f,t,hf⟩:=zIV (cs.drop 3) n false (by lia) (by rw[qEo];lia);have hd:=zCM (tab n f);have hlet:eMt joinD (eC (.str "")) (aCons (eComp (iR1 (aCons (eV 2) aNil)) 1 (.one 16) Mi.tYes (eB ixD (eV 4) (eB addD (eB modD (eB ixD (eV 1) (eC (.int 1))) (eC (.int 6))) (eB mulD (eC (.int 2)) (eV 16))))) aNil) [some (.scr ns),some (rowD cs),some (.int (n:Int)),some (mat (tab n f)),some (.str "abcdefghijklmnopqrstuvwxyz"),none,none,none,none,none,none,none,none,none,none,none]=okR (.str ⟨(lt8 c n).toArray⟩):=by
  refine mt1 rfl rfl (zDM (ρ:=[some (.scr ns),some (rowD cs),some (.int (n:Int)),some (mat (tab n f)),some (.str "abcdefghijklmnopqrstuvwxyz"),none,none,none,none,none,none,none,none,none,none,none]) (i:=16) (fun k=>sgn (97+(c+2*k))) n rfl rfl (fun k hk=>b2 rfl (b2 (b2 (b2 rfl rfl hi1) rfl (mdi (by decide) hc.symm)) (b2 rfl rfl (zLK (by decide) (by decide))) (adi (c:=((c+2*k:Nat):Int)) (by lia))) (zJL (by lia))) _ (zIA (n:=n) (al0 rfl) (by lia)) (by lia)) ?_
  have:(qAg n).map (fun k=>sgn (97+(c+2*k)))=(lt8 c n).map sgn:=by unfold lt8;rw[qCo];rfl
  rw[this];exact zNE _ (by rw[zC1];lia)
 have hemp:∀ρ:Rh,eC (.str "") ρ=okR (.str ⟨([]:List Nat).toArray⟩):=fun ρ=>by rw[<- zKX zFA];rfl
 have hup:=zQX (x:=97+(c+2*q)) (by lia) (by lia);have hodd:∀t∈[[97+(c+1)],[],[97+(c+2*q)-32],[97+(c+2*q),97+(c+2*q)]],Odd (lt8 c n) t:=by
  intro t ht;simp only[qAa,qAk,or_false]at ht
  rcases ht with rfl|rfl|rfl|rfl
  ·refine⟨by simp,.inr ⟨_,rfl,fun z=>?_⟩⟩;obtain⟨k,_,e⟩:=lt8_mem.mp z
   lia
  ·exact⟨by simp,.inl (by simp)⟩
  ·refine⟨by simp,.inr ⟨_,rfl,fun z=>?_⟩⟩;obtain⟨k,_,e⟩:=lt8_mem.mp z
   lia
  ·exact⟨by simp,.inl (by simp)⟩
 refine zDT rfl (sg (c2 rfl rfl hmix) (by rw[zM7];decide) (sg (b2 rfl (b2 (b2 rfl rfl hi0) rfl (mdi (by decide) rfl)) (adi hn.symm)) (qB8 _) (sg (c3 (sl1 rfl rfl hsl) rfl rfl hf) hd (sg rfl (qA6 0) (sg hlet (qA6 0) (sg (zUB (n:=n) (f:=f) rfl rfl (by lia)) hd (zEO fun bb hb=>?_)))))));rw[zEE,zIA (n:=n) (al0 rfl) (by lia),zA0];refine zLI (fun _ r=>∃o7 o8 o9,r=[some (.scr ns,0),some (rowD cs,9),some (.int (n:Int),1),some (mat (tab n f),2),some (.str "abcdefghijklmnopqrstuvwxyz",0),some (.str ⟨(lt8 c n).toArray⟩,0),some (mat (tab n f),2),o7,o8,o9,none,none,none,none,none,none]) ⟨none,none,none,rfl⟩ (fun i hi r hr=>?_) fun r hr=>?_
 ·obtain⟨o7,o8,o9,rfl⟩:=hr;rw[zEE,zIA (n:=n) (al0 rfl) (by lia),zA0];refine zLI (fun _ r=>∃o8 o9,r=[some (.scr ns,0),some (rowD cs,9),some (.int (n:Int),1),some (mat (tab n f),2),some (.str "abcdefghijklmnopqrstuvwxyz",0),some (.str ⟨(lt8 c n).toArray⟩,0),some (mat (tab n f),2),some (.int (i:Int),0),o8,o9,none,none,none,none,none,none]) ⟨o8,o9,rfl⟩ (fun j hj r hr=>?_) fun r hr=>?_
  ·obtain⟨o8,o9,rfl⟩:=hr;have hx:=zLO (c:=c) hi (by lia);have hy:=zLO (c:=c) hj (by lia);refine nsw (ssf8 (d:=swt8 [97+(c+2*i)] [97+(c+2*j)]) (new2 (b2 rfl rfl hx) (b2 rfl rfl hy)) (show ¬(1000<=0) by decide) (new2 (b2 rfl rfl hx) (b2 rfl rfl hy))) ?_;have e1:ixD (rowD ((qAg n).map fun j=>f i j)) (.int (j:Int))=some (.int (f i j)):=by
    rw[zLU _ _ (by simpa using hj),qA5,qAi,qC8 hj];rfl
   rcases t.bit i j with h0|h0
   ·rw[h0]at e1;exact zBV (sf (ta1 (tb1 (b2 (b2 (b2 rfl rfl (ixM hi)) rfl e1) rfl (eqI 0 0))) (tb1 (b2 (c3 rfl rfl rfl (zTR (mS8 (sww3 hi hj h0)))) (e38 rfl rfl rfl) rfl)))) ⟨_,_,rfl⟩
   ·rw[h0]at e1;exact zBV (sf (ta0 (tb1 (b2 (b2 (b2 rfl rfl (ixM hi)) rfl e1) rfl (eqI 1 0))))) ⟨_,_,rfl⟩
  ·obtain⟨o8,o9,rfl⟩:=hr;exact⟨_,_,_,rfl⟩
 ·obtain⟨o7,o8,o9,rfl⟩:=hr;subst hb;refine sg (b2 rfl (b2 (b2 (b2 rfl rfl hi1) rfl (mdi (by decide) hc.symm)) rfl (adi (c:=((c+1:Nat):Int)) (by lia))) (zJL (by lia))) (qA6 0) (sg (b2 rfl (b2 (b2 rfl rfl hi2) rfl (mdi (by lia) hq.symm)) (zLO hqn (by lia))) (qA6 0) (sg (d:=.lst ([[97+(c+1)],[],[97+(c+2*q)-32],[97+(c+2*q),97+(c+2*q)]].map fun t:List Nat=>Dt.str ⟨t.toArray⟩)) (el8 (ac8 rfl (ac8 (hemp _) (ac8 (eu8 rfl hup) (al0 (b2 rfl rfl (add_str (a:=[97+(c+2*q)]) (b:=[97+(c+2*q)]) (by simp))))))) (by simp)) (qA6 1) (zEO fun bb hb=>?_)));have hcut:nxR (sIf (tB (eB (cmpD fun i j=>decide (j<i)) (eV 2) (eC (.int 1)))) (sSet 12 1 [12,5] (eB addD (eV 12) (eLst (aCons (eSl (eV 5) oNo (oE (eC (.int 2)))) (aCons (eSl (eV 5) (oE (eU negD (eC (.int 2)))) oNo) (aCons (eV 5) aNil)))))) sNil [some (.scr ns,0),some (rowD cs,9),some (.int (n:Int),1),some (mat (tab n f),2),some (.str "abcdefghijklmnopqrstuvwxyz",0),some (.str ⟨(lt8 c n).toArray⟩,0),some (mat (tab n f),2),o7,o8,o9,some (sgn (97+(c+1)),0),some (sgn (97+(c+2*q)),0),some (.lst ([[97+(c+1)],[],[97+(c+2*q)-32],[97+(c+2*q),97+(c+2*q)]].map fun t:List Nat=>Dt.str ⟨t.toArray⟩),1),none,none,none]) fun r=>∃T:List (List Nat),(∀t∈T,Odd (lt8 c n) t)/\r=[some (.scr ns,0),some (rowD cs,9),some (.int (n:Int),1),some (mat (tab n f),2),some (.str "abcdefghijklmnopqrstuvwxyz",0),some (.str ⟨(lt8 c n).toArray⟩,0),some (mat (tab n f),2),o7,o8,o9,some (sgn (97+(c+1)),0),some (sgn (97+(c+2*q)),0),some (.lst (T.map fun t:List Nat=>Dt.str ⟨t.toArray⟩),1),none,none,none]:=by
   by_cases h1:n=1
   ·exact zBV (sf (tb1 (b2 rfl rfl (cmi (decide_eq_false (by lia)))))) ⟨_,hodd,rfl⟩
   ·have s1:=zO7 (a:=lt8 c n) none (some 2) (by rw[zC1];lia);have s2:=zO7 (a:=lt8 c n) (some (-2)) none (by rw[zC1];lia);have l1:(cutA (lt8 c n) none (some 2)).length=2:=by
     rw[show(2:Int)=((2:Nat):Int) from rfl,zT2,qCr,zC1];lia
    have l2:=zT3 (lt8 c n) (by rw[zC1];lia);refine zBV (r:=_) (st8 (tb1 (b2 rfl rfl (cmi (decide_eq_true (by lia))))) (ss (d:=.lst (([[97+(c+1)],[],[97+(c+2*q)-32],[97+(c+2*q),97+(c+2*q)]]++[cutA (lt8 c n) none (some 2),cutA (lt8 c n) (some (-2)) none,lt8 c n]).map fun t:List Nat=>Dt.str ⟨t.toArray⟩)) (b2 rfl (el8 (ac8 (sl0 rfl rfl s1) (ac8 (sl1 rfl rfl s2) (al0 rfl))) (by simp)) ?_) (qA6 1))) ⟨_,fun t ht=>?_,rfl⟩
    ·exact if_pos (by simp)
    ·rcases qBz.mp ht with h|h
     ·exact hodd t h
     ·simp only[qAa,qAk,or_false]at h
      rcases h with rfl|rfl|rfl
      ·exact⟨by lia,.inl (by lia)⟩
      ·exact⟨by lia,.inl (by lia)⟩
      ·exact⟨by rw[zC1];lia,.inl (by rw[zC1];exact h1)⟩
  obtain⟨r',g,T,hT,rfl⟩:=zD2 hcut;refine zBV g ?_;subst hb;refine zEO fun bb hb=>?_
  rw[zH6];show nxR (zA3 (okR (T.map fun t:List Nat=>Dt.str ⟨t.toArray⟩)) fun ds=>forGo (.one 13) _ ds [some (.scr ns,0),some (rowD cs,9),some (.int (n:Int),1),some (mat (tab n f),2),some (.str "abcdefghijklmnopqrstuvwxyz",0),some (.str ⟨(lt8 c n).toArray⟩,0),some (mat (tab n f),2),o7,o8,o9,some (sgn (97+(c+1)),0),some (sgn (97+(c+2*q)),0),some (.lst (T.map fun t:List Nat=>Dt.str ⟨t.toArray⟩),0),none,none,none]) _;rw[zA0];refine zGK (fun t:List Nat=>Dt.str ⟨t.toArray⟩) T (fun _ r=>∃o9 o13,r=[some (.scr ns,0),some (rowD cs,9),some (.int (n:Int),1),some (mat (tab n f),2),some (.str "abcdefghijklmnopqrstuvwxyz",0),some (.str ⟨(lt8 c n).toArray⟩,0),some (mat (tab n f),2),o7,o8,o9,some (sgn (97+(c+1)),0),some (sgn (97+(c+2*q)),0),some (.lst (T.map fun t:List Nat=>Dt.str ⟨t.toArray⟩),0),o13,none,none]) ⟨o9,none,rfl⟩ (fun k tx hx r hr=>?_) fun r hr=>?_
  ·obtain⟨o9,o13,rfl⟩:=hr;have ho:=hT tx (qBb hx);rw[zH6];have hit:∀ρ:Rh,ρ[13]?=some (some (.str ⟨tx.toArray⟩))->ρ[11]?=some (some (sgn (97+(c+2*q))))->ρ[10]?=some (some (sgn (97+(c+1))))->iSq (eLst (aCons (eNew "Turn" ["letter"] (aCons (eV 13) aNil)) (aCons (eNew "Swap" ["one","other"] (aCons (eV 13) (aCons (eV 11) aNil))) (aCons (eNew "Swap" ["one","other"] (aCons (eV 11) (aCons (eV 13) aNil))) (aCons (eNew "Swap" ["one","other"] (aCons (eV 13) (aCons (eV 10) aNil))) aNil))))) ρ=okR ([tnt8 tx,swt8 tx [97+(c+2*q)],swt8 [97+(c+2*q)] tx,swt8 tx [97+(c+1)]].map id):=fun ρ a b d=>by
    rw[zQS,el8 (ac8 (new1 (v1 a)) (ac8 (new2 (v1 a) (v1 b)) (ac8 (new2 (v1 b) (v1 a)) (al0 (new2 (v1 a) (v1 d)))))) (by simp)];rfl
   rw[hit _ rfl rfl rfl,zA0];show nxR (forGo (.one 9) _ _ [some (.scr ns,0),some (rowD cs,9),some (.int (n:Int),1),some (mat (tab n f),2),some (.str "abcdefghijklmnopqrstuvwxyz",0),some (.str ⟨(lt8 c n).toArray⟩,0),some (mat (tab n f),2),o7,o8,o9,some (sgn (97+(c+1)),0),some (sgn (97+(c+2*q)),0),some (.lst (T.map fun t:List Nat=>Dt.str ⟨t.toArray⟩),0),some (.str ⟨tx.toArray⟩,0),none,none]) _;have hall:∀d∈[tnt8 tx,swt8 tx [97+(c+2*q)],swt8 [97+(c+2*q)] tx,swt8 tx [97+(c+1)]],∀o,eMeth [("Turn",zA7),("Swap",zA5),("Mirror",zA1),("Shift",zA1)] "done_web" (eV 0) (aCons (eV 1) (aCons (eV 2) aNil)) [some d,some (.str ⟨(lt8 c n).toArray⟩),some (mat (tab n f)),o,none]=some (.error ⟨"NoLetter","letter",.str ⟨tx.toArray⟩⟩):=by
    intro d hd;simp only[qAa,qAk,or_false]at hd
    rcases hd with rfl|rfl|rfl|rfl
    ·exact mT8 (tnw1 ho)
    ·exact mS8 (sww1 ho)
    ·exact mS8 (sww2 hqn ho)
    ·exact mS8 (sww1 ho)
   refine zGK id _ (fun _ r=>∃o9,r=[some (.scr ns,0),some (rowD cs,9),some (.int (n:Int),1),some (mat (tab n f),2),some (.str "abcdefghijklmnopqrstuvwxyz",0),some (.str ⟨(lt8 c n).toArray⟩,0),some (mat (tab n f),2),o7,o8,o9,some (sgn (97+(c+1)),0),some (sgn (97+(c+2*q)),0),some (.lst (T.map fun t:List Nat=>Dt.str ⟨t.toArray⟩),0),some (.str ⟨tx.toArray⟩,0),none,none]) ⟨o9,rfl⟩ (fun k ch hch r hr=>?_) fun r hr=>?_
   ·obtain⟨o9,rfl⟩:=hr;have hm:=hall ch (qBb hch);exact nsw (sf (tb1 (b2 (c3 rfl rfl rfl (zTQ hm)) (e38 rfl rfl rfl) rfl))) (zBV (sf (tb1 (b2 (c3 rfl rfl rfl (zU1 hm rfl)) rfl (ne8 _)))) ⟨_,rfl⟩)
   ·obtain⟨o9,rfl⟩:=hr;exact⟨_,_,rfl⟩
  ·obtain⟨o9,o13,rfl⟩:=hr;subst hb;refine zEO fun bb hb=>?_
   rw[zH6];have hit:∀ρ:Rh,ρ[1]?=some (some (rowD cs))->iSq (eLst (aCons (eNew0 "Mirror") (aCons (eNew "Shift" ["by"] (aCons (eB subD (eB modD (eB ixD (eV 1) (eC (.int 2))) (eC (.int 99))) (eC (.int 49))) aNil)) aNil))) ρ=okR ([Dt.ins "Mirror" [],.ins "Shift" [("by",.i (cs.getD 2 0%99-49))]].map id):=fun ρ a=>by
    rw[zQS,el8 (ac8 (zP4 _ _) (al0 (new3 (b2 (b2 (b2 (v1 a) rfl hi2) rfl (mdi (by decide) rfl)) rfl (sbi rfl))))) (by simp)];rfl
   rw[hit _ rfl,zA0];show nxR (forGo (.one 9) _ _ [some (.scr ns,0),some (rowD cs,0),some (.int (n:Int),1),some (mat (tab n f),2),some (.str "abcdefghijklmnopqrstuvwxyz",0),some (.str ⟨(lt8 c n).toArray⟩,0),some (mat (tab n f),2),o7,o8,o9,some (sgn (97+(c+1)),0),some (sgn (97+(c+2*q)),0),some (.lst (T.map fun t:List Nat=>Dt.str ⟨t.toArray⟩),0),o13,none,none]) _;refine zGK id _ (fun _ r=>∃o9 o14,r=[some (.scr ns,0),some (rowD cs,0),some (.int (n:Int),1),some (mat (tab n f),2),some (.str "abcdefghijklmnopqrstuvwxyz",0),some (.str ⟨(lt8 c n).toArray⟩,0),some (mat (tab n f),2),o7,o8,o9,some (sgn (97+(c+1)),0),some (sgn (97+(c+2*q)),0),some (.lst (T.map fun t:List Nat=>Dt.str ⟨t.toArray⟩),0),o13,o14,none]) ⟨o9,none,rfl⟩ (fun k ch hch r hr=>?_) fun r hr=>?_
   ·obtain⟨o9,o14,rfl⟩:=hr;have hmeth:∀ρ:Rh,ρ[9]?=some (some ch)->ρ[5]?=some (some (.str ⟨(lt8 c n).toArray⟩))->ρ[6]?=some (some (mat (tab n f)))->eMeth [("Turn",zA7),("Swap",zA5),("Mirror",zA1),("Shift",zA1)] "done_web" (eV 9) (aCons (eV 5) (aCons (eV 6) aNil)) ρ=okR (mat (tab n f)):=fun ρ a b d=>by
     have:=qBb hch
     simp only[qAa,qAk,or_false]at this
     rcases this with rfl|rfl
     ·exact mth (v1 a) (lkN nMT (lkN nMS lkY)) rfl (v1 b) (v1 d) (zT5 hn1.2)
     ·exact mth (v1 a) (lkN nhT (lkN nhS (lkN nhM lkY))) (lkN nd4 rfl) (v1 b) (v1 d) (zT5 hn1.2)
    have hrows:∀r∈tab n f,r.length<=1000:=fun r hr=>by
     unfold tab at hr;obtain⟨i,_,rfl⟩:=qCm.mp hr;rw[qAx,qDa];lia
    have happ:∀o9:Option Sl,sForApp 14 15 1 [some (.scr ns,0),some (rowD cs,0),some (.int (n:Int),1),some (mat (tab n f),2),some (.str "abcdefghijklmnopqrstuvwxyz",0),some (.str ⟨(lt8 c n).toArray⟩,0),some (mat (tab n f),2),o7,o8,o9,some (sgn (97+(c+1)),0),some (sgn (97+(c+2*q)),0),some (.lst (T.map fun t:List Nat=>Dt.str ⟨t.toArray⟩),0),o13,some (mat (tab n f),2),none]=okR (.nx [some (.scr ns,0),some (rowD cs,0),some (.int (n:Int),1),some (mat (tab n f),2),some (.str "abcdefghijklmnopqrstuvwxyz",0),some (.str ⟨(lt8 c n).toArray⟩,0),some (mat (tab n f),2),o7,o8,o9,some (sgn (97+(c+1)),0),some (sgn (97+(c+2*q)),0),some (.lst (T.map fun t:List Nat=>Dt.str ⟨t.toArray⟩),0),o13,some (.lst ((tab n f).map fun r=>rowD (r++[1])),2),none]):=fun o9=>by
     unfold sForApp
     show(match addAll 1 ((tab n f).map rowD)with|some rs'=>_|none=>_)=_
     rw[zG4 1 _ hrows];rfl
    refine nsw (ss (hmeth _ rfl rfl rfl) hd) (nsw (sf (tn1 (tm1 (c2 rfl rfl (zG7 _))))) (nsw (happ _) (zBV (app8 rfl el0 ?_ (by decide) (by decide)) ⟨_,_,rfl⟩)));rw[qAx];unfold tab;rw[qAx,qDa]
    lia
   ·obtain⟨o9,o14,rfl⟩:=hr;subst hb;exact sr (b2 rfl rfl (eqM _)) ⟨qA6 0,qA6 0⟩
end Mp
set_option maxHeartbeats 4000000
namespace Q58
open PySem PyProof.Rows
open L2 hiding Rep RepL
open L3
open Mp
noncomputable def top(i:Nat):Stmt:=qCv.main.body.getD i (.Pass ⟨0,0,0,0⟩)
abbrev zGC:Stmt:=top 9
theorem zO0:FnScope ["rows"] ["rows"] (zA8 zGC):=⟨rfl,rfl,rfl,by decide +kernel,rfl,by decide +kernel,by decide +kernel⟩
abbrev zAT:Stmt:=zFE 1 (top 20)
theorem zDR:FnScope ["self","letters","web"] ["self","letters","web"] (zA8 zAT):=⟨rfl,rfl,rfl,by decide +kernel,rfl,by decide +kernel,by decide +kernel⟩
abbrev zAV:Stmt:=zFE 2 (top 21)
theorem zE8:FnScope ["self","letters","web"] ["self","letters","web"] (zA8 zAV):=⟨rfl,rfl,rfl,by decide +kernel,rfl,by decide +kernel,by decide +kernel⟩
abbrev zBX:Stmt:=top 13
theorem zFP:FnScope ["table","one","other","sides","changed","order"] ["table","one","other"] (zA8 zBX):=⟨rfl,rfl,rfl,by decide +kernel,rfl,by decide +kernel,by decide +kernel⟩
abbrev zC8:Stmt:=top 6
theorem zH5:FnScope ["text","letter"] ["text","letter"] (zA8 zC8):=⟨rfl,rfl,rfl,by decide +kernel,rfl,by decide +kernel,by decide +kernel⟩
abbrev zAZ:Stmt:=zFE 2 (top 19)
theorem S_Swap_done_web:FnScope ["self","letters","web","one","other"] ["self","letters","web"] (zA8 zAZ):=⟨rfl,rfl,rfl,by decide +kernel,rfl,by decide +kernel,by decide +kernel⟩
abbrev zD1:Stmt:=top 12
theorem zIY:FnScope ["web","point","near"] ["web","point"] (zA8 zD1):=⟨rfl,rfl,rfl,by decide +kernel,rfl,by decide +kernel,by decide +kernel⟩
abbrev zAY:Stmt:=zFE 2 (top 18)
theorem zFJ:FnScope ["self","letters","web"] ["self","letters","web"] (zA8 zAY):=⟨rfl,rfl,rfl,by decide +kernel,rfl,by decide +kernel,by decide +kernel⟩
abbrev zBZ:Stmt:=top 24
theorem S__law_any_web:FnScope ["_law_cells","_law_size","_law_slant","_law_web","_law_i","_law_j","_law_bit"] ["_law_cells","_law_size","_law_slant"] (zA8 zBZ):=⟨rfl,rfl,rfl,by decide +kernel,rfl,by decide +kernel,by decide +kernel⟩
abbrev zC9:Stmt:=top 27
theorem S__law_letter:FnScope ["_law_change","_law_letters","_law_web","_law_told","e"] ["_law_change","_law_letters","_law_web"] (zA8 zC9):=⟨rfl,rfl,rfl,by decide +kernel,rfl,by decide +kernel,by decide +kernel⟩
abbrev zCH:Stmt:=top 23
theorem S__law_mixed:FnScope ["_law_script","_law_least","_law_made","_law_k","_law_cell","_law_first"] ["_law_script","_law_least"] (zA8 zCH):=⟨rfl,rfl,rfl,by decide +kernel,rfl,by decide +kernel,by decide +kernel⟩
abbrev zBY:Stmt:=top 26
theorem S__law_refused:FnScope ["_law_change","_law_letters","_law_web","_law_told","e"] ["_law_change","_law_letters","_law_web"] (zA8 zBY):=⟨rfl,rfl,rfl,by decide +kernel,rfl,by decide +kernel,by decide +kernel⟩
abbrev zBR:Stmt:=top 25
theorem S__law_table_is:FnScope ["_law_found","_law_due","_law_row","_law_other","_law_number"] ["_law_found","_law_due"] (zA8 zBR):=⟨rfl,rfl,rfl,by decide +kernel,rfl,by decide +kernel,by decide +kernel⟩
abbrev zGB:Stmt:=top 28
theorem S_law:FnScope ["_law_script","_law_cells","_law_size","_law_web","_law_every","_law_letters","_law_handed","_law_i","_law_j","_law_change","_law_strange","_law_letter_here","_law_some","_law_text","_law_found","_law_row"] ["_law_script"] (zA8 zGB):=⟨rfl,rfl,rfl,by decide +kernel,rfl,by decide +kernel,by decide +kernel⟩
section
variable{P:Program}{w:World}{K:qA0}{mg:Str->Option Value}{base:Heap}
abbrev zBF:Stmt:=zU5 (top 3)
theorem zIX:FnScope ["self","letter"] ["self","letter"] (zA8 zBF):=⟨rfl,rfl,rfl,by decide +kernel,rfl,by decide +kernel,by decide +kernel⟩
theorem zE1{f:Addr}{fd:FuncData}(F:Fun K "__init__" "NoLetter.__init__" zBF f fd){B:Addr}(hB:XBase K B)(hm:mg "RoundError" = some (.ref B)):FnOk P w K mg base (CXe P w) 1 f fd ["self","letter"] (zEM K "letter"):=by
 refine F.okX (k:=0) zIX (zNI rfl) (fun cdv A outer s H vs Q E hr h=>?_);exact⟨_,zAE (zGG (zN2 hB rfl hm (zA2 (pv 0) (zA2 (pv 1) zAF)))) (zAH (zMZ (pv 0) (pv 1) rfl)),zNH h⟩
abbrev zDG:Stmt:=zFE 0 (top 18)
theorem zQJ:FnScope ["self","letter"] ["self","letter"] (zA8 zDG):=⟨rfl,rfl,rfl,by decide +kernel,rfl,by decide +kernel,by decide +kernel⟩
theorem ok_oini_Turn{f:Addr}{fd:FuncData}(F:Fun K "__init__" "Turn.__init__" zDG f fd):FnOk P w K mg base (CXe P w) 1 f fd ["self","letter"] (zG9 K ["letter"]):=by
 refine F.okX (k:=0) zQJ (zIK rfl) (fun cdv A outer s H vs Q E hr h=>?_);exact⟨_,(zAH (zJF (pv 0) (pv 1) rfl)),zJT h⟩
abbrev zDH:Stmt:=zFE 0 (top 19)
theorem zQK:FnScope ["self","one","other"] ["self","one","other"] (zA8 zDH):=⟨rfl,rfl,rfl,by decide +kernel,rfl,by decide +kernel,by decide +kernel⟩
theorem ok_oini_Swap{f:Addr}{fd:FuncData}(F:Fun K "__init__" "Swap.__init__" zDH f fd):FnOk P w K mg base (CXe P w) 1 f fd ["self","one","other"] (zG9 K ["one","other"]):=by
 refine F.okX (k:=0) zQK (zIK rfl) (fun cdv A outer s H vs Q E hr h=>?_);exact⟨_,(zAE (zJF (pv 0) (pv 1) rfl) (zAH (zJF (pv 0) (pv 2) rfl))),zNG (by decide) h⟩
abbrev zCO:Stmt:=zFE 0 (top 21)
theorem zNZ:FnScope ["self","by"] ["self","by"] (zA8 zCO):=⟨rfl,rfl,rfl,by decide +kernel,rfl,by decide +kernel,by decide +kernel⟩
theorem ok_oini_Shift{f:Addr}{fd:FuncData}(F:Fun K "__init__" "Shift.__init__" zCO f fd):FnOk P w K mg base (CXe P w) 1 f fd ["self","by"] (zG9 K ["by"]):=by
 refine F.okX (k:=0) zNZ (zIK rfl) (fun cdv A outer s H vs Q E hr h=>?_);exact⟨_,(zAH (zJF (pv 0) (pv 1) rfl)),zJT h⟩
theorem zLG(D:Def K mg "copied" zGC)(b_list:mg "list" = none):Has P w K mg base "copied" 1 ["rows"] (sp0 K mg 2 zBI):=by
 letI:Kc:=⟨K⟩
 refine D.ok zO0 (fun _ _ _ _ _ _=>uw1 fun _=>rfl) (fun vs H Q E h=>zBB h) (fun f cdv A outer s H vs Q E hr h=>?_);have hu:=hr.units;exact⟨_,(zAH (zBC (zLB rfl (cn ["0","row"] 1 (by kernel_rfl)) (zER (K:=K) (pn 0)) (fun _ _ _ _=>(zB8 (i:=1) (by show qEi (["0","row"]:List Str);decide +kernel) rfl oi)) (fun _ _ _ _=>zGF) (fun _ _ _ _=>(zHJ (zLT (K:=K) rfl) rfl b_list boot_list (zA2 (pn 1) zAF)))))),
  (zCB (N:=["rows"]) (zBU (n:=2) [0] (zGZ (n:=1) (zFZ (de_v 0)) (zC7 1) zJV (zE6 zMD (zA4 (de_v 1) zAG)))) h)⟩
theorem zDA{f:Addr}{fd:FuncData}(F:Fun K "done_web" "Mirror.done_web" zAT f fd)(h_copied:Has P w K mg base "copied" 1 ["rows"] (sp0 K mg 2 zBI)):FnOk P w K mg base (CXe P w) 2 f fd ["self","letters","web"] (spE K mg 2 zA1):=by
 letI:Kc:=⟨K⟩
 refine F.okX zDR (fun vs H Q E h=>zBB h) (fun cdv A outer s H vs Q E hr h=>?_);have hu:=hr.units;exact⟨_,(zAH (zBC (zFK h_copied (by decide) hr rfl (zA2 (pn 2) zAF)))),
  zCB (N:=["self","letters","web"]) (zBU (n:=2) [2] (zEC (zA4 (de_v 2) zAG))) h⟩
theorem zDK{f:Addr}{fd:FuncData}(F:Fun K "done_web" "Shift.done_web" zAV f fd)(h_copied:Has P w K mg base "copied" 1 ["rows"] (sp0 K mg 2 zBI)):FnOk P w K mg base (CXe P w) 2 f fd ["self","letters","web"] (spE K mg 2 zA1):=by
 letI:Kc:=⟨K⟩
 refine F.okX zE8 (fun vs H Q E h=>zBB h) (fun cdv A outer s H vs Q E hr h=>?_);have hu:=hr.units;exact⟨_,(zAH (zBC (zFK h_copied (by decide) hr rfl (zA2 (pn 2) zAF)))),
  zCB (N:=["self","letters","web"]) (zBU (n:=2) [2] (zEC (zA4 (de_v 2) zAG))) h⟩
theorem zET(D:Def K mg "exchanged_at" zBX):Has P w K mg base "exchanged_at" 1 ["table","one","other"] (sp0 K mg 2 zBH):=
 letI:Kc:=⟨K⟩
 D.ok zFP (fun _ _ _ _ _ _=>uw3 fun _ _ _=>rfl) (fun vs H Q E h=>zBB h) fun f cdv A outer s H vs Q E hr h=>(zO6 h).elim
theorem zFL(D:Def K mg "first_place" zC8){a_NoLetter:Addr}(b_len:mg "len" = none)(x_NoLetter:XIni P w K mg base "NoLetter" "letter" a_NoLetter):HasX P w K mg base "first_place" 3 ["text","letter"] (spE K mg 0 zAL):=by
 letI:Kc:=⟨K⟩
 refine D.okX zH5 (fun _ _ _ _ _ _=>uw2 fun _ _=>rfl) (fun vs H Q E h=>zBB h) (fun f cdv A outer s H vs Q E hr h=>?_);have hu:=hr.units;exact⟨_,(zAE (zE0 (pt_w (zL3 (zDZ (u_ne hu) (zAX (zDV (K:=K)) rfl b_len boot_len (zA2 (pn 1) zAF)) zAK (zC4 _)) (zHH (zDZ (zP7 (K:=K)) (pn 1) (pn 0) rfl)))) (zAH (zJE (zRV x_NoLetter hr (by decide) zC5 rfl (zA2 (pn 1) zAF)) zC5 rfl)) zBN)
   (zAH (zBC (zRY qCh PySem.F.slot_str_find PySem.F.type_str_find zN8 (pn 0) (zA2 (pn 1) zAF))))),
  (zCB (N:=["text","letter"]) (zAM (zE5 (zM3 (dt_b (dz (zAJ zHE (dz (zE6 zDW (zA4 (de_v 1) zAG))) (dz zAN)))) (dt_b (dz (zAJ zTP (de_v 1) (de_v 0))))) (zM4 x_NoLetter (zA4 (de_v 1) zAG)) zCD)
   (zBU (n:=0) [1,0] (zT0 zPH (de_v 0) (zA4 (de_v 1) zAG)))) h)⟩
theorem zE4{f:Addr}{fd:FuncData}(F:Fun K "done_web" "Swap.done_web" zAZ f fd){a_NoCross:Addr}(h_exchanged_at:Has P w K mg base "exchanged_at" 1 ["table","one","other"] (sp0 K mg 2 zBH))(h_first_place:HasX P w K mg base "first_place" 3 ["text","letter"] (spE K mg 0 zAL))(z_NoCross:XNo K mg "NoCross" a_NoCross)(q0:(∀c∈(["Swap"]:List Str),∃C,clK K c=some C/\OIs K C/\NoAttr K C "other"))(q1:(∀c∈(["Swap"]:List Str),∃C,clK K c=some C/\OIs K C/\NoAttr K C "one")):FnOk P w K mg base (CXe P w) 4 f fd ["self","letters","web"] (spE K mg 2 zA5):=by
 letI:Kc:=⟨K⟩
 refine F.okX S_Swap_done_web (fun vs H Q E h=>zBB h) (fun cdv A outer s H vs Q E hr h=>?_);have hu:=hr.units;exact⟨_,(zAE (zB6 (i:=3) S_Swap_done_web.nd rfl oi (zL9 h_first_place (by decide) hr zC5 rfl (zA2 (pn 1) (zA2 (zLA (pn 0) rfl) zAF))))
   (zAE (zB6 (i:=4) S_Swap_done_web.nd rfl oi (zL9 h_first_place (by decide) hr zC5 rfl (zA2 (pn 1) (zA2 (zLA (pn 0) rfl) zAF))))
   (zAE (zE0 (zDZ (u_ne hu) (zCG (zCF (K:=K)) (zCG (zCF (K:=K)) (pn 2) (pn 3) (fun _ _=>rfl)) (pn 4) (fun _ _=>rfl)) zAK (zC4 _)) (zAH (zJE (zRW z_NoCross rfl (zA2 zJI zAF)) zC5 rfl)) zBN)
   (zAH (zBC (zFK h_exchanged_at (by decide) hr rfl (zA2 (pn 2) (zA2 (pn 3) (zA2 (pn 4) zAF))))))))),
  zCB (N:=["self","letters","web","one","other"]) (zAM (zB3 (n:=0) [1,0] (zH0 (zA4 (de_v 1) (zA4 (zMC q1 (de_v 0)) zAG))))
   (zAM (zB3 (n:=0) [1,0] (zH0 (zA4 (de_v 1) (zA4 (zMC q0 (de_v 0)) zAG))))
   (zAM (zE5 (dt_b (dz (zAJ zHE (zAJ zCT (zAJ zCT (de_v 2) (de_v 3)) (de_v 4)) (dz zAN)))) (zM5 z_NoCross (zA4 zJY zAG)) zCD)
   (zBU (n:=2) [2,3,4] (zEC (zA4 (de_v 2) (zA4 (de_v 3) (zA4 (de_v 4) zAG)))))))) h⟩
theorem zHM(D:Def K mg "turned_at" zD1):Has P w K mg base "turned_at" 1 ["web","point"] (sp0 K mg 2 zC0):=
 letI:Kc:=⟨K⟩
 D.ok zIY (fun _ _ _ _ _ _=>uw2 fun _ _=>rfl) (fun vs H Q E h=>zBB h) fun f cdv A outer s H vs Q E hr h=>(zO6 h).elim
theorem zE3{f:Addr}{fd:FuncData}(F:Fun K "done_web" "Turn.done_web" zAY f fd)(h_first_place:HasX P w K mg base "first_place" 3 ["text","letter"] (spE K mg 0 zAL))(h_turned_at:Has P w K mg base "turned_at" 1 ["web","point"] (sp0 K mg 2 zC0))(q2:(∀c∈(["Turn"]:List Str),∃C,clK K c=some C/\OIs K C/\NoAttr K C "letter")):FnOk P w K mg base (CXe P w) 4 f fd ["self","letters","web"] (spE K mg 2 zA7):=by
 letI:Kc:=⟨K⟩
 refine F.okX zFJ (fun vs H Q E h=>zBB h) (fun cdv A outer s H vs Q E hr h=>?_);have hu:=hr.units;exact⟨_,(zAH (zBC (zFK h_turned_at (by decide) hr rfl (zA2 (pn 2) (zA2 (zL9 h_first_place (by decide) hr zC5 rfl (zA2 (pn 1) (zA2 (zLA (pn 0) rfl) zAF))) zAF))))),
  zCB (N:=["self","letters","web"]) (zBU (n:=2) [2,1,0] (zEC (zA4 (de_v 2) (zA4 (zH0 (zA4 (de_v 1) (zA4 (zMC q2 (de_v 0)) zAG))) zAG)))) h⟩
theorem zEV(D:Def K mg "_law_any_web" zBZ)(b_len:mg "len" = none)(b_range:mg "range" = none):Has P w K mg base "_law_any_web" 1 ["_law_cells","_law_size","_law_slant"] (sp0 K mg 2 zBJ):=by
 letI:Kc:=⟨K⟩
 refine D.ok S__law_any_web (fun _ _ _ _ _ _=>uw3 fun _ _ _=>rfl) (fun vs H Q E h=>zBB h) (fun f cdv A outer s H vs Q E hr h=>?_);have hu:=hr.units;exact⟨_,(zAE (zFS (i:=3) S__law_any_web.nd rfl oi rfl (cn ["0","_law_size","2","3","4","5","6","_law_k"] 1 (by kernel_rfl)) (zBT rfl b_range (zA2 (pn 1) zAF)) (fun _ _ _ _=>(zB8 (i:=7) (by show qEi (["0","_law_size","2","3","4","5","6","_law_k"]:List Str);decide +kernel) rfl oi)) (fun _ _ _ _=>zGF) (fun _ _ _ _=>(zB4 zTG (zCJ (zA2 zAK zAF)) (pn 1))))
   (zAE (zBS PassesOwn.never rfl (zBT rfl b_range (zA2 (pn 1) zAF)) (zB8 (i:=4) S__law_any_web.nd rfl oi) (zAH (zBS PassesOwn.never rfl (zBT rfl b_range (zA2 (zB4 zDF (pn 4) zAK) zAF)) (zB8 (i:=5) S__law_any_web.nd rfl oi) (zAE (zB6 (i:=6) S__law_any_web.nd rfl oi (zCG (zCF (K:=K)) (pn 0) (zB4 zEI (zB4 zDF (zB4 zCV (pn 4) (pn 1)) (pn 5)) (zAX (zDV (K:=K)) rfl b_len boot_len (zA2 (pn 0) zAF))) (fun _ _=>rfl)))
   (zAE (zB6 (i:=6) S__law_any_web.nd rfl oi (zB4 zEI (zB4 zR1 (pn 6) (zB4 zDF (zB4 zDF zAK (zB4 zCV zAK (pn 4))) (zB4 zCV zAK (pn 5)))) zAK))
   (zAH (zE0 (pt_w (zL3 (zDZ (u_ne hu) (pn 4) (pn 5) (zC4 _)) (zHH (pt_m (pn 2))))) (zAE (zOC (pn 6) (zOD (zCG (zCF (K:=K)) (pn 3) (pn 4) (fun _ _=>rfl)) (pn 5) zR0))
   (zAH (zOC (pn 6) (zOD (zCG (zCF (K:=K)) (pn 3) (pn 5) (fun _ _=>rfl)) (pn 4) zR0)))) zBN)))))))
   (zAH (zBC (pn 3))))),
  (zCB (N:=["_law_cells","_law_size","_law_slant","_law_web","_law_i","_law_j","_law_bit"]) (zAM (zB3 (n:=2) [1] (zGZ (n:=1) (zIN (zA4 (de_v 1) zAG)) (zC7 7) zJV (zAJ zRB (zCN (n:=0) (zA4 zAN zAG)) (de_v 1))))
   (zAM (zF6 (zIN (zA4 (de_v 1) zAG)) (zF6 (zIN (zA4 (zB0 (zAJ zC2 (de_v 4) (dz zAN))) zAG)) (zAM (zB3 (n:=0) [0,5,4,1] (zAJ zCT (de_v 0) (dz (zAJ zCI (zAJ zC2 (dz (zAJ zCW (de_v 4) (de_v 1))) (de_v 5)) (dz (zE6 zDW (zA4 (de_v 0) zAG)))))))
   (zAM (zB3 (n:=0) [6,5,4] (zAJ zCI (dz (zAJ zRD (de_v 6) (zAJ zC2 (zAJ zC2 (dz zAN) (dz (zAJ zCW (dz zAN) (de_v 4)))) (dz (zAJ zCW (dz zAN) (de_v 5)))))) (dz zAN)))
   (zE5 (zM3 (dt_b (dz (zAJ zHE (de_v 4) (de_v 5)))) (dt_m (de_v 2))) (zAM (zJX 3 (n:=0) (de_v 4) (de_v 5) (de_v 6))
   (zJX 3 (n:=0) (de_v 5) (de_v 4) (de_v 6))) zCD)))))
   (zGY 3))) h)⟩
theorem zFM(D:Def K mg "_law_letter" zC9){a_Mirror:Addr}{a_NoLetter:Addr}{a_Shift:Addr}{a_Swap:Addr}{a_Turn:Addr}(h_Turn_done_web:HasM P w K mg base a_Turn "done_web" 4 ["self","letters","web"] (spE K mg 2 zA7))(h_Swap_done_web:HasM P w K mg base a_Swap "done_web" 4 ["self","letters","web"] (spE K mg 2 zA5))(h_Mirror_done_web:HasM P w K mg base a_Mirror "done_web" 2 ["self","letters","web"] (spE K mg 2 zA1))(h_Shift_done_web:HasM P w K mg base a_Shift "done_web" 2 ["self","letters","web"] (spE K mg 2 zA1))(n_NoLetter:XCls K mg "NoLetter" a_NoLetter)(o_Turn:OCls K mg "Turn" a_Turn)(o_Swap:OCls K mg "Swap" a_Swap)(o_Mirror:OCls K mg "Mirror" a_Mirror)(o_Shift:OCls K mg "Shift" a_Shift)(q3:(∀c∈(["NoLetter"]:List Str),∃C,clK K c=some C/\Xc.XIs K C/\qA3 K (.ref C) "letter" = some none))(q4:(∀c∈(["NoLetter"]:List Str),∃C,clK K c=some C/\qBr K (.ref C) (.ref a_NoLetter)=some true)):Has P w K mg base "_law_letter" 5 ["_law_change","_law_letters","_law_web"] (sp0 K mg 0 zBA):=by
 letI:Kc:=⟨K⟩
 refine D.ok S__law_letter (fun _ _ _ _ _ _=>uw3 fun _ _ _=>rfl) (fun vs H Q E h=>zBB h) (fun f cdv A outer s H vs Q E hr h=>?_);have hu:=hr.units;exact⟨_,(zAE (zB6 (i:=3) S__law_letter.nd rfl oi zRU)
   (zAE (zJD (i:=4) (zJB (zJC (zHI (m:="done_web") (pn 0) (zAW (zCE o_Turn.cl) h_Turn_done_web (by decide) (zAW (zCE o_Swap.cl) h_Swap_done_web (by decide) (zAW (zCE o_Mirror.cl) h_Mirror_done_web (by decide) (zAW (zCE o_Shift.cl) h_Shift_done_web (by decide) zEW)))) hr (zA2 (pn 1) (zA2 (pn 2) zAF))))) ⟨rfl,rfl⟩ (qFr n_NoLetter.gm) rfl S__law_letter.nd rfl rfl (fun _=>(zAH (zB6 (i:=3) S__law_letter.nd rfl oi (zN3 (pn 4) rfl)))))
   (zAH (zBC (pn 3))))),
  (zCB (N:=["_law_change","_law_letters","_law_web","_law_told","e"]) (zAM (zB3 (n:=0) [] zSZ)
   (zAM (zOV (te:=fun E'=>zH9 (([("Turn",zA7),("Swap",zA5),("Mirror",zA1),("Shift",zA1)]:List (Str×Mi.FM)).map fun p=>((clK K p.1).getD 0,spE K mg 2 p.2)) "done_web" E' _ _) none [1,2,0] q4 (fun _=>zB0 (n:=2) (zIO (de_v 0) (zA4 (de_v 1) (zA4 (de_v 2) zAG)))) (zB3 (n:=0) [4] (zT1 q3 (de_v 4))))
   (zGY 3))) h)⟩
theorem zGJ(D:Def K mg "_law_mixed" zCH)(b_len:mg "len" = none)(b_max:mg "max" = none)(b_min:mg "min" = none)(b_range:mg "range" = none):Has P w K mg base "_law_mixed" 1 ["_law_script","_law_least"] (sp0 K mg 9 zBK):=by
 letI:Kc:=⟨K⟩
 refine D.ok S__law_mixed (fun _ _ _ _ _ _=>uw2 fun _ _=>rfl) (fun vs H Q E h=>zBB h) (fun f cdv A outer s H vs Q E hr h=>?_);have hu:=hr.units;exact⟨_,(zAE (zB6 (i:=2) S__law_mixed.nd rfl oi (zCJ zAF))
   (zAE (zBS PassesOwn.never rfl (zBT rfl b_range (zA2 (zAX (zMF rfl) rfl b_max boot_max (zA2 (pn 1) (zA2 (zAX (zME rfl) rfl b_min boot_min (zA2 zAK (zA2 (zAX (zDV (K:=K)) rfl b_len boot_len (zA2 (pn 0) zAF)) zAF))) zAF))) zAF)) (zB8 (i:=3) S__law_mixed.nd rfl oi) (zAE (zB6 (i:=4) S__law_mixed.nd rfl oi zAK)
   (zAE (zE0 (zDZ u_lt (pn 3) (zAX (zDV (K:=K)) rfl b_len boot_len (zA2 (pn 0) zAF)) (zC4 _)) (zAH (zB6 (i:=4) S__law_mixed.nd rfl oi (zB4 zEI (zCG (zCF (K:=K)) (pn 0) (pn 3) (fun _ _=>rfl)) zAK))) zBN)
   (zAE (zB6 (i:=5) S__law_mixed.nd rfl oi (zB4 zEI (zB4 zCV (zB4 zEI (zB4 zDF (zB4 zCV (zB4 zDF (pn 4) zAK) zAK) (zB4 zCV (zB4 zCV (pn 3) (pn 3)) zAK)) zAK) zAK) zAK))
   (zAH (zGG (zPQ qCf qCa qCb zII (pn 2) (zA2 (zB4 zDF (zB4 zCV (pn 5) zAK) (zB4 zEI (zB4 zDF (zB4 zCV (pn 5) zAK) (pn 3)) zAK)) zAF))))))))
   (zAH (zBC (pn 2))))),
  (zCB (N:=["_law_script","_law_least","_law_made","_law_k","_law_cell","_law_first"]) (zAM (zB3 (n:=9) [] (zCN (n:=8) zAG))
   (zAM (zF6 (zIN (zA4 (zE6 zT7 (zA4 (de_v 1) (zA4 (zE6 zT6 (zA4 zAN (zA4 (zE6 zDW (zA4 (de_v 0) zAG)) zAG))) zAG))) zAG)) (zAM (zB3 (n:=0) [] zAN)
   (zAM (zE5 (dt_b (dz (zAJ zOB (de_v 3) (dz (zE6 zDW (zA4 (de_v 0) zAG)))))) (zB3 (n:=0) [0,3] (zAJ zCI (zAJ zCT (de_v 0) (de_v 3)) (dz zAN))) zCD)
   (zAM (zB3 (n:=0) [4,3] (zAJ zCI (dz (zAJ zCW (dz (zAJ zCI (zAJ zC2 (dz (zAJ zCW (zAJ zC2 (de_v 4) (dz zAN)) (dz zAN))) (dz (zAJ zCW (dz (zAJ zCW (de_v 3) (de_v 3))) (dz zAN)))) (dz zAN))) (dz zAN))) (dz zAN)))
   (zOW 2 (n:=1) (zAJ zC2 (dz (zAJ zCW (de_v 5) (dz zAN))) (dz (zAJ zCI (zAJ zC2 (dz (zAJ zCW (de_v 5) (dz zAN))) (de_v 3)) (dz zAN)))))))))
   (zGY 2))) h)⟩
theorem zEU(D:Def K mg "_law_refused" zBY){a_Mirror:Addr}{a_NoCross:Addr}{a_NoLetter:Addr}{a_RoundError:Addr}{a_Shift:Addr}{a_Swap:Addr}{a_Turn:Addr}(h_Turn_done_web:HasM P w K mg base a_Turn "done_web" 4 ["self","letters","web"] (spE K mg 2 zA7))(h_Swap_done_web:HasM P w K mg base a_Swap "done_web" 4 ["self","letters","web"] (spE K mg 2 zA5))(h_Mirror_done_web:HasM P w K mg base a_Mirror "done_web" 2 ["self","letters","web"] (spE K mg 2 zA1))(h_Shift_done_web:HasM P w K mg base a_Shift "done_web" 2 ["self","letters","web"] (spE K mg 2 zA1))(b_ValueError:mg "ValueError" = none)(b_isinstance:mg "isinstance" = none)(n_RoundError:XCls K mg "RoundError" a_RoundError)(n_NoLetter:XCls K mg "NoLetter" a_NoLetter)(n_NoCross:XCls K mg "NoCross" a_NoCross)(o_Turn:OCls K mg "Turn" a_Turn)(o_Swap:OCls K mg "Swap" a_Swap)(o_Mirror:OCls K mg "Mirror" a_Mirror)(o_Shift:OCls K mg "Shift" a_Shift)(q5:(∀c∈(["NoCross"]:List Str),∃C,clK K c=some C/\Xc.XIs K C/\kitV K C (V.ref a_NoCross)=some true)/\(∀c∈(["RoundError","NoLetter"]:List Str),∃C,clK K c=some C/\Xc.XIs K C/\kitV K C (V.ref a_NoCross)=some false))(q6:(∀c∈(["NoLetter"]:List Str),∃C,clK K c=some C/\Xc.XIs K C/\kitV K C (V.ref a_NoLetter)=some true)/\(∀c∈(["RoundError","NoCross"]:List Str),∃C,clK K c=some C/\Xc.XIs K C/\kitV K C (V.ref a_NoLetter)=some false))(q7:(∀c∈(["RoundError","NoLetter","NoCross"]:List Str),∃C,clK K c=some C/\Xc.XIs K C/\kitV K C (V.ty "ValueError")=some true)/\(∀c∈([]:List Str),∃C,clK K c=some C/\Xc.XIs K C/\kitV K C (V.ty "ValueError")=some false))(q8:(∀c∈(["RoundError","NoLetter","NoCross"]:List Str),∃C,clK K c=some C/\qBr K (.ref C) (.ref a_RoundError)=some true)):Has P w K mg base "_law_refused" 5 ["_law_change","_law_letters","_law_web"] (sp0 K mg 1 zAO):=by
 letI:Kc:=⟨K⟩
 refine D.ok S__law_refused (fun _ _ _ _ _ _=>uw3 fun _ _ _=>rfl) (fun vs H Q E h=>zBB h) (fun f cdv A outer s H vs Q E hr h=>?_);have hu:=hr.units;exact⟨_,(zAE (zB6 (i:=3) S__law_refused.nd rfl oi (zCJ zAF))
   (zAE (zJD (i:=4) (zJB (zJC (zHI (m:="done_web") (pn 0) (zAW (zCE o_Turn.cl) h_Turn_done_web (by decide) (zAW (zCE o_Swap.cl) h_Swap_done_web (by decide) (zAW (zCE o_Mirror.cl) h_Mirror_done_web (by decide) (zAW (zCE o_Shift.cl) h_Shift_done_web (by decide) zEW)))) hr (zA2 (pn 1) (zA2 (pn 2) zAF))))) ⟨rfl,rfl⟩ (qFr n_RoundError.gm) rfl S__law_refused.nd rfl rfl (fun _=>(zAH (zB6 (i:=3) S__law_refused.nd rfl oi (zCJ (zA2 (zAX zFC rfl b_isinstance boot_isinstance (zA2 (pn 4) (zA2 (zOF rfl n_NoCross.gm) zAF))) (zA2 (zAX zFC rfl b_isinstance boot_isinstance (zA2 (pn 4) (zA2 (zOF rfl n_NoLetter.gm) zAF))) (zA2 (zAX zFC rfl b_isinstance boot_isinstance (zA2 (pn 4) (zA2 (zES (v:=.ty "ValueError") rfl b_ValueError zFD rfl) zAF))) zAF))))))))
   (zAH (zBC (pn 3))))),
  (zCB (N:=["_law_change","_law_letters","_law_web","_law_told","e"]) (zAM (zB3 (n:=9) [] (zCN (n:=8) zAG))
   (zAM (zOV (te:=fun E'=>zH9 (([("Turn",zA7),("Swap",zA5),("Mirror",zA1),("Shift",zA1)]:List (Str×Mi.FM)).map fun p=>((clK K p.1).getD 0,spE K mg 2 p.2)) "done_web" E' _ _) none [1,2,0] q8 (fun _=>zB0 (n:=2) (zIO (de_v 0) (zA4 (de_v 1) (zA4 (de_v 2) zAG)))) (zB3 (n:=1) [4] (zCN (n:=0) (zA4 (zMB q5.1 q5.2 (de_v 4)) (zA4 (zMB q6.1 q6.2 (de_v 4)) (zA4 (zMB q7.1 q7.2 (de_v 4)) zAG))))))
   (zGY 3))) h)⟩
theorem zE2(D:Def K mg "_law_table_is" zBR)(b_bool:mg "bool" = none)(b_int:mg "int" = none)(b_isinstance:mg "isinstance" = none)(b_len:mg "len" = none)(b_list:mg "list" = none)(b_zip:mg "zip" = none):Has P w K mg base "_law_table_is" 1 ["_law_found","_law_due"] (sp0 K mg 0 zBD):=by
 letI:Kc:=⟨K⟩
 refine D.ok S__law_table_is (fun _ _ _ _ _ _=>uw2 fun _ _=>rfl) (fun vs H Q E h=>zBB h) (fun f cdv A outer s H vs Q E hr h=>?_);have hu:=hr.units;exact⟨_,(zAE (zE0 (pt_w (zL3 (zJA (pt_m (zAX zBW rfl b_isinstance boot_isinstance (zA2 (pn 0) (zA2 (zES (v:=.ty "list") rfl b_list boot_list rfl) zAF))))) (zHH (zDZ (u_ne hu) (zAX (zDV (K:=K)) rfl b_len boot_len (zA2 (pn 0) zAF)) (zAX (zDV (K:=K)) rfl b_len boot_len (zA2 (pn 1) zAF)) (zC4 _))))) (zAH (zBC zD8)) zBN)
   (zAE (zBS PassesOwn.never rfl (zRS (K:=K) rfl b_zip (zA2 (pn 0) (zA2 (pn 1) zAF))) (zPO (K:=K) rfl (zJH (zB8 (i:=2) S__law_table_is.nd rfl oi) (zJH (zB8 (i:=3) S__law_table_is.nd rfl oi) zPN))) (zAE (zE0 (pt_w (zL3 (zJA (pt_m (zAX zBW rfl b_isinstance boot_isinstance (zA2 (pn 2) (zA2 (zES (v:=.ty "list") rfl b_list boot_list rfl) zAF))))) (zHH (zDZ (u_ne hu) (zAX (zDV (K:=K)) rfl b_len boot_len (zA2 (pn 2) zAF)) (zAX (zDV (K:=K)) rfl b_len boot_len (zA2 (pn 3) zAF)) (zC4 _))))) (zAH (zBC zD8)) zBN)
   (zAH (zBS PassesOwn.never rfl (zER (K:=K) (pn 2)) (zB8 (i:=4) S__law_table_is.nd rfl oi) (zAH (zE0 (pt_w (zL3 (zJA (pt_m (zAX zBW rfl b_isinstance boot_isinstance (zA2 (pn 4) (zA2 (zES (v:=.ty "int") rfl b_int boot_int rfl) zAF))))) (zHH (pt_m (zAX zBW rfl b_isinstance boot_isinstance (zA2 (pn 4) (zA2 (zES (v:=.ty "bool") rfl b_bool boot_bool rfl) zAF))))))) (zAH (zBC zD8)) zBN))))))
   (zAH (zBC (zLC (u_eq hu) (pn 0) (pn 1) (zC4 _)))))),
  (zCB (N:=["_law_found","_law_due","_law_row","_law_other","_law_number"]) (zAM (zE5 (zM3 (zJW (dt_m (dz (zJZ (by decide) (de_v 0))))) (dt_b (dz (zAJ zHE (dz (zE6 zDW (zA4 (de_v 0) zAG))) (dz (zE6 zDW (zA4 (de_v 1) zAG))))))) (zBU (n:=0) [] zDC) zCD)
   (zAM (zHU [0,1] (zSX (zA4 (de_v 0) (zA4 (de_v 1) zAG))) (zR4 (zJ3 2 (zJ3 3 zP8)) rfl) (zAM (zE5 (zM3 (zJW (dt_m (dz (zJZ (by decide) (de_v 2))))) (dt_b (dz (zAJ zHE (dz (zE6 zDW (zA4 (de_v 2) zAG))) (dz (zE6 zDW (zA4 (de_v 3) zAG))))))) (zBU (n:=0) [] zDC) zCD)
   (zHU [2] (zFZ (de_v 2)) (zC7 4) (zE5 (zM3 (zJW (dt_m (dz (zJZ (by decide) (de_v 4))))) (dt_m (dz (zJZ (by decide) (de_v 4))))) (zBU (n:=0) [] zDC) zCD))))
   (zBU (n:=0) [0,1] (zAJ zPF (de_v 0) (de_v 1))))) h)⟩
theorem zS6{f:Addr}{fd:FuncData}(F:Fun K "law" "law" zGB f fd){a_Mirror:Addr}{a_Shift:Addr}{a_Swap:Addr}{a_Turn:Addr}(h__law_any_web:Has P w K mg base "_law_any_web" 1 ["_law_cells","_law_size","_law_slant"] (sp0 K mg 2 zBJ))(h__law_letter:Has P w K mg base "_law_letter" 5 ["_law_change","_law_letters","_law_web"] (sp0 K mg 0 zBA))(h__law_mixed:Has P w K mg base "_law_mixed" 1 ["_law_script","_law_least"] (sp0 K mg 9 zBK))(h__law_refused:Has P w K mg base "_law_refused" 5 ["_law_change","_law_letters","_law_web"] (sp0 K mg 1 zAO))(h__law_table_is:Has P w K mg base "_law_table_is" 1 ["_law_found","_law_due"] (sp0 K mg 0 zBD))(h_Turn_done_web:HasM P w K mg base a_Turn "done_web" 4 ["self","letters","web"] (spE K mg 2 zA7))(h_Swap_done_web:HasM P w K mg base a_Swap "done_web" 4 ["self","letters","web"] (spE K mg 2 zA5))(h_Mirror_done_web:HasM P w K mg base a_Mirror "done_web" 2 ["self","letters","web"] (spE K mg 2 zA1))(h_Shift_done_web:HasM P w K mg base a_Shift "done_web" 2 ["self","letters","web"] (spE K mg 2 zA1))(b_list:mg "list" = none)(b_range:mg "range" = none)(o_Turn:OCls K mg "Turn" a_Turn)(o_Swap:OCls K mg "Swap" a_Swap)(o_Mirror:OCls K mg "Mirror" a_Mirror)(o_Shift:OCls K mg "Shift" a_Shift)(oi_Turn:OIni P w K mg base "Turn" ["letter"] a_Turn)(oi_Swap:OIni P w K mg base "Swap" ["one","other"] a_Swap)(oi_Shift:OIni P w K mg base "Shift" ["by"] a_Shift)(on_Mirror:ONew K mg "Mirror" a_Mirror):FnOk P w K mg base CX0 6 f fd ["_law_script"] (zFQ K):=by
 letI:Kc:=⟨K⟩
 refine(F.ok S_law (sp:=sp0 K mg 0 zHP) (fun vs H Q E h=>zBB h) (fun cdv A outer s H vs Q E hr h=>?_)).imp (zNC zNB);have hu:=hr.units;exact⟨_,(zAE (zB6 (i:=1) S_law.nd rfl oi (zFK h__law_mixed (by decide) hr rfl (zA2 (pn 0) (zA2 zAK zAF))))
   (zAE (zB6 (i:=2) S_law.nd rfl oi (zB4 zDF zAK (zB4 zEI (zCG (zCF (K:=K)) (pn 1) zAK (fun _ _=>rfl)) zAK)))
   (zAE (zB6 (i:=3) S_law.nd rfl oi (zFK h__law_any_web (by decide) hr rfl (zA2 (zGI (u_sl (K:=K)) (pn 1) (zIG zAK) zIH) (zA2 (pn 2) (zA2 zD8 zAF)))))
   (zAE (zB6 (i:=4) S_law.nd rfl oi zJI)
   (zAE (zB6 (i:=5) S_law.nd rfl oi (zRY qCh PySem.F.slot_str_join PySem.F.type_str_join zN7 zJI (zA2 (zLB rfl (cn ["0","_law_cells","2","3","_law_every","5","6","7","8","9","10","11","12","13","14","15","_law_k"] 1 (by kernel_rfl)) (zBT rfl b_range (zA2 (pn 2) zAF)) (fun _ _ _ _=>(zB8 (i:=16) (by show qEi (["0","_law_cells","2","3","_law_every","5","6","7","8","9","10","11","12","13","14","15","_law_k"]:List Str);decide +kernel) rfl oi)) (fun _ _ _ _=>zGF) (fun _ _ _ _=>(zCG (zCF (K:=K)) (pn 4) (zB4 zDF (zB4 zEI (zCG (zCF (K:=K)) (pn 1) zAK (fun _ _=>rfl)) zAK) (zB4 zCV zAK (pn 16))) (fun _ _=>rfl)))) zAF)))
   (zAE (zFS (i:=6) S_law.nd rfl oi rfl (cn ["0","1","2","3","4","5","6","7","8","9","10","11","12","13","14","15","_law_row"] 1 (by kernel_rfl)) (zER (K:=K) (pn 3)) (fun _ _ _ _=>(zB8 (i:=16) (by show qEi (["0","1","2","3","4","5","6","7","8","9","10","11","12","13","14","15","_law_row"]:List Str);decide +kernel) rfl oi)) (fun _ _ _ _=>zGF) (fun _ _ _ _=>(zHJ (zLT (K:=K) rfl) rfl b_list boot_list (zA2 (pn 16) zAF))))
   (zAE (zBS PassesOwn.never rfl (zBT rfl b_range (zA2 (pn 2) zAF)) (zB8 (i:=7) S_law.nd rfl oi) (zAH (zBS PassesOwn.never rfl (zBT rfl b_range (zA2 (pn 2) zAF)) (zB8 (i:=8) S_law.nd rfl oi) (zAE (zB6 (i:=9) S_law.nd rfl oi (zFU oi_Swap hr (by decide) zF5 rfl (zA2 (zCG (zCF (K:=K)) (pn 5) (pn 7) (fun _ _=>rfl)) (zA2 (zCG (zCF (K:=K)) (pn 5) (pn 8) (fun _ _=>rfl)) zAF))))
   (zAH (zE0 (pt_w (zRQ (zDZ (u_eq hu) (zCG (zCF (K:=K)) (zCG (zCF (K:=K)) (pn 3) (pn 7) (fun _ _=>rfl)) (pn 8) (fun _ _=>rfl)) zAK (zC4 _)) (zPM (zDZ (u_ne hu) (zFK h__law_refused (by decide) hr rfl (zA2 (pn 9) (zA2 (pn 5) (zA2 (pn 6) zAF)))) (zCJ (zA2 zD8 (zA2 zD8 (zA2 zD8 zAF)))) (zC4 _))))) (zAH (zBC zD8)) zBN))))))
   (zAE (zB6 (i:=10) S_law.nd rfl oi (zCG (zCF (K:=K)) (pn 4) (zB4 zDF (zB4 zEI (zCG (zCF (K:=K)) (pn 1) zAK (fun _ _=>rfl)) zAK) zAK) (fun _ _=>rfl)))
   (zAE (zB6 (i:=11) S_law.nd rfl oi (zCG (zCF (K:=K)) (pn 5) (zB4 zEI (zCG (zCF (K:=K)) (pn 1) zAK (fun _ _=>rfl)) (pn 2)) (fun _ _=>rfl)))
   (zAE (zB6 (i:=12) S_law.nd rfl oi (zCJ (zA2 (pn 10) (zA2 zJI (zA2 (zRX qCh PySem.F.slot_str_upper PySem.F.type_str_upper zS8 (pn 11)) (zA2 (zB4 zDF (pn 11) (pn 11)) zAF))))))
   (zAE (zE0 (zDZ u_gt (pn 2) zAK (zC4 _)) (zAH (zB6 (i:=12) S_law.nd rfl oi (zB4 zDF (pn 12) (zCJ (zA2 (zGI (u_sl (K:=K)) (pn 5) zIH (zIG zAK)) (zA2 (zGI (u_sl (K:=K)) (pn 5) (zIG (zTT zTH zAK)) zIH) (zA2 (pn 5) zAF))))))) zBN)
   (zAE (zBS PassesOwn.never rfl (zER (K:=K) (pn 12)) (zB8 (i:=13) S_law.nd rfl oi) (zAH (zBS PassesOwn.never rfl (zER (K:=K) (zCJ (zA2 (zFU oi_Turn hr (by decide) zF5 rfl (zA2 (pn 13) zAF)) (zA2 (zFU oi_Swap hr (by decide) zF5 rfl (zA2 (pn 13) (zA2 (pn 11) zAF))) (zA2 (zFU oi_Swap hr (by decide) zF5 rfl (zA2 (pn 11) (zA2 (pn 13) zAF))) (zA2 (zFU oi_Swap hr (by decide) zF5 rfl (zA2 (pn 13) (zA2 (pn 10) zAF))) zAF)))))) (zB8 (i:=9) S_law.nd rfl oi) (zAE (zE0 (zDZ (u_ne hu) (zFK h__law_refused (by decide) hr rfl (zA2 (pn 9) (zA2 (pn 5) (zA2 (pn 6) zAF)))) (zCJ (zA2 zD8 (zA2 zD8 (zA2 zD8 zAF)))) (zC4 _)) (zAH (zBC zD8)) zBN)
   (zAH (zE0 (zDZ (u_ne hu) (zFK h__law_letter (by decide) hr rfl (zA2 (pn 9) (zA2 (pn 5) (zA2 (pn 6) zAF)))) (pn 13) (zC4 _)) (zAH (zBC zD8)) zBN))))))
   (zAE (zBS PassesOwn.never rfl (zER (K:=K) (zCJ (zA2 (zPP on_Mirror rfl) (zA2 (zFU oi_Shift hr (by decide) zF5 rfl (zA2 (zB4 zTF (zB4 zEI (zCG (zCF (K:=K)) (pn 1) zAK (fun _ _=>rfl)) zAK) zAK) zAF)) zAF)))) (zB8 (i:=9) S_law.nd rfl oi) (zAE (zB6 (i:=14) S_law.nd rfl oi (zN0 (m:="done_web") (pn 9) (zAW (zCE o_Turn.cl) h_Turn_done_web (by decide) (zAW (zCE o_Swap.cl) h_Swap_done_web (by decide) (zAW (zCE o_Mirror.cl) h_Mirror_done_web (by decide) (zAW (zCE o_Shift.cl) h_Shift_done_web (by decide) zEW)))) hr zF5 (zA2 (pn 5) (zA2 (pn 6) zAF))))
   (zAE (zE0 (zJA (pt_m (zFK h__law_table_is (by decide) hr rfl (zA2 (pn 14) (zA2 (pn 3) zAF))))) (zAH (zBC zD8)) zBN)
   (zAE (zBS PassesOwn.never rfl (zER (K:=K) (pn 14)) (zB8 (i:=15) S_law.nd rfl oi) (zAH (zGG (zPQ qCf qCa qCb zII (pn 15) (zA2 zAK zAF)))))
   (zAH (zGG (zPQ qCf qCa qCb zII (pn 14) (zA2 (zCJ zAF) zAF))))))))
   (zAH (zBC (zLC (u_eq hu) (pn 6) (pn 3) (zC4 _))))))))))))))))),
  zCB (N:=["_law_script","_law_cells","_law_size","_law_web","_law_every","_law_letters","_law_handed","_law_i","_law_j","_law_change","_law_strange","_law_letter_here","_law_some","_law_text","_law_found","_law_row"]) (zAM (zB3 (n:=9) [0] (zD3 (zA4 (de_v 0) (zA4 zAN zAG))))
   (zAM (zB3 (n:=1) [1] (zAJ zC2 (dz zAN) (dz (zAJ zCI (zAJ zCT (de_v 1) (dz zAN)) (dz zAN)))))
   (zAM (zB3 (n:=2) [2,1] (zD3 (zA4 (zB0 (zQD (de_v 1) (do_e (dz zAN)) zQC)) (zA4 (de_v 2) (zA4 zDC zAG)))))
   (zAM (zB3 (n:=0) [] zJY)
   (zAM (zB3 (n:=0) [4,2,1] (zT0 zPG (dz zJY) (zA4 (zB0 (zGZ (n:=0) (zIN (zA4 (de_v 2) zAG)) (zC7 16) zJV (zAJ zCT (de_v 4) (zAJ zC2 (dz (zAJ zCI (zAJ zCT (de_v 1) (dz zAN)) (dz zAN))) (dz (zAJ zCW (dz zAN) (de_v 16))))))) zAG)))
   (zAM (zB3 (n:=2) [15,3] (zGZ (n:=1) (zFZ (de_v 3)) (zC7 16) zJV (zE6 zMD (zA4 (de_v 16) zAG))))
   (zAM (zF6 (zIN (zA4 (de_v 2) zAG)) (zF6 (zIN (zA4 (de_v 2) zAG)) (zAM (zB3 (n:=0) [5,7,8] (zG0 oi_Swap (zA4 (zAJ zCT (de_v 5) (de_v 7)) (zA4 (zAJ zCT (de_v 5) (de_v 8)) zAG))))
   (zE5 (zSV (dt_b (dz (zAJ zPF (zAJ zCT (zAJ zCT (de_v 3) (de_v 7)) (de_v 8)) (dz zAN)))) (dt_b (dz (zAJ zHE (zD3 (zA4 (de_v 9) (zA4 (de_v 5) (zA4 (de_v 6) zAG)))) (zCN (n:=0) (zA4 zDC (zA4 zDC (zA4 zDC zAG)))))))) (zBU (n:=0) [] zDC) zCD))))
   (zAM (zB3 (n:=0) [4,1] (zAJ zCT (de_v 4) (zAJ zC2 (dz (zAJ zCI (zAJ zCT (de_v 1) (dz zAN)) (dz zAN))) (dz zAN))))
   (zAM (zB3 (n:=0) [5,2,1] (zAJ zCT (de_v 5) (dz (zAJ zCI (zAJ zCT (de_v 1) (dz zAN)) (de_v 2)))))
   (zAM (zB3 (n:=1) [10,11] (zCN (n:=0) (zA4 (de_v 10) (zA4 zJY (zA4 (zU9 (de_v 11)) (zA4 (zB0 (zAJ zC2 (de_v 11) (de_v 11))) zAG))))))
   (zAM (zE5 (dt_b (dz (zAJ zOB (de_v 2) (dz zAN)))) (zB3 (n:=1) [12,5] (zAJ zC2 (de_v 12) (zCN (n:=0) (zA4 (zB0 (zQD (de_v 5) zQC (do_e (dz zAN)))) (zA4 (zB0 (zQD (de_v 5) (do_e (dz (zUA zRC (dz zAN)))) zQC)) (zA4 (de_v 5) zAG)))))) zCD)
   (zAM (zHU [12] (zFZ (de_v 12)) (zC7 13) (zHU [13,11,10] (zFZ (zCN (n:=0) (zA4 (zG0 oi_Turn (zA4 (de_v 13) zAG)) (zA4 (zG0 oi_Swap (zA4 (de_v 13) (zA4 (de_v 11) zAG))) (zA4 (zG0 oi_Swap (zA4 (de_v 11) (zA4 (de_v 13) zAG))) (zA4 (zG0 oi_Swap (zA4 (de_v 13) (zA4 (de_v 10) zAG))) zAG)))))) (zC7 9) (zAM (zE5 (dt_b (dz (zAJ zHE (zD3 (zA4 (de_v 9) (zA4 (de_v 5) (zA4 (de_v 6) zAG)))) (zCN (n:=0) (zA4 zDC (zA4 zDC (zA4 zDC zAG))))))) (zBU (n:=0) [] zDC) zCD)
   (zE5 (dt_b (dz (zAJ zHE (zD3 (zA4 (de_v 9) (zA4 (de_v 5) (zA4 (de_v 6) zAG)))) (de_v 13)))) (zBU (n:=0) [] zDC) zCD))))
   (zAM (zHU [1] (zFZ (zCN (n:=0) (zA4 (zQE on_Mirror) (zA4 (zG0 oi_Shift (zA4 (zAJ zRA (dz (zAJ zCI (zAJ zCT (de_v 1) (dz zAN)) (dz zAN))) (dz zAN)) zAG)) zAG)))) (zC7 9) (zAM (zB3 (n:=2) [5,6,9] (zIO (de_v 9) (zA4 (de_v 5) (zA4 (de_v 6) zAG))))
   (zAM (zE5 (zJW (dt_m (zD3 (zA4 (de_v 14) (zA4 (de_v 3) zAG))))) (zBU (n:=0) [] zDC) zCD)
   (zAM (zM6 14 15 1)
   (zOW 14 (n:=9) (zCN (n:=8) zAG))))))
   (zBU (n:=0) [6,3] (zAJ zPF (de_v 6) (de_v 3)))))))))))))))) h⟩
end
theorem mkD{K:qA0}{h:Heap}{mg:Str->Option Value}{nm:Str}{st:Stmt}{f:Addr}{oc kV dc pm cd ct:Value}{od an:Option Addr}{sl:Array (Option Value)}(X:K.In h)(G:h.Ns mainGlobals mg)(a:qAo K mainGlobals nm=some (some (.ref f)))(l:K.lookup f=some ⟨oc,od,.func (qAt nm nm (zB2 st) (zAP st) (zA8 st) .none kV dc pm an cd ct),sl⟩)(c:qAy K cd nm=true)(k:qAe K (.ref f)=true):Def K mg nm st:=⟨f,_,zCC (st:=st) l c k,qBa X G a⟩
theorem all_mk{l:qD1}{w:World}{K:qA0}{h:Heap}{mg:Str->Option Value}{fa f1 f2 f5 f7 f13 f14 f15 f16 f17 a_RoundError a_NoLetter a_NoCross a_Change a_Turn a_Swap a_Mirror a_Shift:Addr}{cd_Change cd_Turn cd_Swap cd_Mirror cd_Shift:ClassData}{dd_RoundError dd_NoLetter dd_NoCross:Option Addr}{cd_RoundError cd_NoLetter cd_NoCross:ClassData}{sl_RoundError sl_NoLetter sl_NoCross:Array (Option Value)}(X:K.In h)(G:h.Ns mainGlobals mg)(hfa:mg "law" = some (.ref fa))
  {od1 an1 od2 an2 od5 an5 od7 an7 od13 an13 od14 an14 od15 an15 od16 an16 od17 an17:Option Addr} {sl1 sl2 sl5 sl7 sl13 sl14 sl15 sl16 sl17:Array (Option Value)} {oc1 kV1 dc1 pm1 cd1 ct1 oc2 kV2 dc2 pm2 cd2 ct2 oc5 kV5 dc5 pm5 cd5 ct5 oc7 kV7 dc7 pm7 cd7 ct7 oc13 kV13 dc13 pm13 cd13 ct13 oc14 kV14 dc14 pm14 cd14 ct14 oc15 kV15 dc15 pm15 cd15 ct15 oc16 kV16 dc16 pm16 cd16 ct16 oc17 kV17 dc17 pm17 cd17 ct17:Value}
  (D0:Def K mg "copied" zGC)
  (D3:Def K mg "exchanged_at" zBX)
  (D4:Def K mg "first_place" zC8)
  (D6:Def K mg "turned_at" zD1)
  (D8:Def K mg "_law_any_web" zBZ)
  (D9:Def K mg "_law_letter" zC9)
  (D10:Def K mg "_law_mixed" zCH)
  (D11:Def K mg "_law_refused" zBY)
  (D12:Def K mg "_law_table_is" zBR)
  (a13:qAo K mainGlobals "law" = some (some (.ref f13)))
  (l13:K.lookup f13=some ⟨oc13,od13,.func (qAt "law" "law" (zB2 zGB) (zAP zGB) (zA8 zGB) .none kV13 dc13 pm13 an13 cd13 ct13),sl13⟩)
  (c13:qAy K cd13 "law" = true)
  (k13:qAe K (.ref f13)=true)
  (z0:qAo K mainGlobals "ValueError" = some none)
  (z1:qAo K mainGlobals "bool" = some none)
  (z2:qAo K mainGlobals "int" = some none)
  (z3:qAo K mainGlobals "isinstance" = some none)
  (z4:qAo K mainGlobals "len" = some none)
  (z5:qAo K mainGlobals "list" = some none)
  (z6:qAo K mainGlobals "max" = some none)
  (z7:qAo K mainGlobals "min" = some none)
  (z8:qAo K mainGlobals "range" = some none)
  (z9:qAo K mainGlobals "zip" = some none)
  (xa_RoundError:qAo K mainGlobals "RoundError" = some (some (.ref a_RoundError)))
  (xl_RoundError:K.lookup a_RoundError=some ⟨.type "type",dd_RoundError,.cls cd_RoundError,sl_RoundError⟩)
  (xd_RoundError:xcD a_RoundError cd_RoundError sl_RoundError=true)
  (xn_RoundError:qB3 K a_RoundError=some cd_RoundError)
  (xo_RoundError:PySem.W.excTail cd_RoundError.mro=true)
  (xt_RoundError:qB1 K (.ref a_RoundError)=some (.type "type"))
  (xg_RoundError:qA3 K (.ref a_RoundError) "__getattribute__" = some (some (.builtin "BaseException.__getattribute__")))
  (xh_RoundError:qA3 K (.ref a_RoundError) "__getattr__" = some none)
  (xj_RoundError:qB0 K a_RoundError=true)
  (xm_RoundError:qA3 K (.ref a_RoundError) "__class__" = some (some (.builtin "object.__class__")))
  (xp_RoundError:qBm K a_RoundError (.type "object")=some true)
  (xv_RoundError:qAp K (.ref a_RoundError) (.type "ValueError")=some true)
  (xw_RoundError:qAp K (.ref a_RoundError) (.type "BaseException")=some true)
  (xa_NoLetter:qAo K mainGlobals "NoLetter" = some (some (.ref a_NoLetter)))
  (xl_NoLetter:K.lookup a_NoLetter=some ⟨.type "type",dd_NoLetter,.cls cd_NoLetter,sl_NoLetter⟩)
  (xd_NoLetter:xcD a_NoLetter cd_NoLetter sl_NoLetter=true)
  (xn_NoLetter:qB3 K a_NoLetter=some cd_NoLetter)
  (xo_NoLetter:PySem.W.excTail cd_NoLetter.mro=true)
  (xt_NoLetter:qB1 K (.ref a_NoLetter)=some (.type "type"))
  (xg_NoLetter:qA3 K (.ref a_NoLetter) "__getattribute__" = some (some (.builtin "BaseException.__getattribute__")))
  (xh_NoLetter:qA3 K (.ref a_NoLetter) "__getattr__" = some none)
  (xj_NoLetter:qB0 K a_NoLetter=true)
  (xm_NoLetter:qA3 K (.ref a_NoLetter) "__class__" = some (some (.builtin "object.__class__")))
  (xp_NoLetter:qBm K a_NoLetter (.type "object")=some true)
  (xv_NoLetter:qAp K (.ref a_NoLetter) (.type "ValueError")=some true)
  (xw_NoLetter:qAp K (.ref a_NoLetter) (.type "BaseException")=some true)
  (xa_NoCross:qAo K mainGlobals "NoCross" = some (some (.ref a_NoCross)))
  (xl_NoCross:K.lookup a_NoCross=some ⟨.type "type",dd_NoCross,.cls cd_NoCross,sl_NoCross⟩)
  (xd_NoCross:xcD a_NoCross cd_NoCross sl_NoCross=true)
  (xn_NoCross:qB3 K a_NoCross=some cd_NoCross)
  (xo_NoCross:PySem.W.excTail cd_NoCross.mro=true)
  (xt_NoCross:qB1 K (.ref a_NoCross)=some (.type "type"))
  (xg_NoCross:qA3 K (.ref a_NoCross) "__getattribute__" = some (some (.builtin "BaseException.__getattribute__")))
  (xh_NoCross:qA3 K (.ref a_NoCross) "__getattr__" = some none)
  (xj_NoCross:qB0 K a_NoCross=true)
  (xm_NoCross:qA3 K (.ref a_NoCross) "__class__" = some (some (.builtin "object.__class__")))
  (xp_NoCross:qBm K a_NoCross (.type "object")=some true)
  (xv_NoCross:qAp K (.ref a_NoCross) (.type "ValueError")=some true)
  (xw_NoCross:qAp K (.ref a_NoCross) (.type "BaseException")=some true)
  (xa_Change:qAo K mainGlobals "Change" = some (some (.ref a_Change)))
  (xn_Change:qB3 K a_Change=some cd_Change)
  (xt_Change:qB1 K (.ref a_Change)=some (.type "type"))
  (og_Change:qBc K a_Change Str.empty=true)
  (oh_Change:qB0 K a_Change=true)
  (op_Change:qBo K a_Change=true)
  (oz_Change:qA3 K (.ref a_Change) "__setattr__" = some (some (.builtin "object.__setattr__")))
  (xm_Change:qA3 K (.ref a_Change) "__class__" = some (some (.builtin "object.__class__")))
  (xp_Change:qBm K a_Change (.type "object")=some true)
  (xa_Turn:qAo K mainGlobals "Turn" = some (some (.ref a_Turn)))
  (xn_Turn:qB3 K a_Turn=some cd_Turn)
  (xt_Turn:qB1 K (.ref a_Turn)=some (.type "type"))
  (og_Turn:qBc K a_Turn Str.empty=true)
  (oh_Turn:qB0 K a_Turn=true)
  (op_Turn:qBo K a_Turn=true)
  (oz_Turn:qA3 K (.ref a_Turn) "__setattr__" = some (some (.builtin "object.__setattr__")))
  (xm_Turn:qA3 K (.ref a_Turn) "__class__" = some (some (.builtin "object.__class__")))
  (xp_Turn:qBm K a_Turn (.type "object")=some true)
  (xa_Swap:qAo K mainGlobals "Swap" = some (some (.ref a_Swap)))
  (xn_Swap:qB3 K a_Swap=some cd_Swap)
  (xt_Swap:qB1 K (.ref a_Swap)=some (.type "type"))
  (og_Swap:qBc K a_Swap Str.empty=true)
  (oh_Swap:qB0 K a_Swap=true)
  (op_Swap:qBo K a_Swap=true)
  (oz_Swap:qA3 K (.ref a_Swap) "__setattr__" = some (some (.builtin "object.__setattr__")))
  (xm_Swap:qA3 K (.ref a_Swap) "__class__" = some (some (.builtin "object.__class__")))
  (xp_Swap:qBm K a_Swap (.type "object")=some true)
  (xa_Mirror:qAo K mainGlobals "Mirror" = some (some (.ref a_Mirror)))
  (xn_Mirror:qB3 K a_Mirror=some cd_Mirror)
  (xt_Mirror:qB1 K (.ref a_Mirror)=some (.type "type"))
  (og_Mirror:qBc K a_Mirror Str.empty=true)
  (oh_Mirror:qB0 K a_Mirror=true)
  (op_Mirror:qBo K a_Mirror=true)
  (oz_Mirror:qA3 K (.ref a_Mirror) "__setattr__" = some (some (.builtin "object.__setattr__")))
  (xm_Mirror:qA3 K (.ref a_Mirror) "__class__" = some (some (.builtin "object.__class__")))
  (xp_Mirror:qBm K a_Mirror (.type "object")=some true)
  (xa_Shift:qAo K mainGlobals "Shift" = some (some (.ref a_Shift)))
  (xn_Shift:qB3 K a_Shift=some cd_Shift)
  (xt_Shift:qB1 K (.ref a_Shift)=some (.type "type"))
  (og_Shift:qBc K a_Shift Str.empty=true)
  (oh_Shift:qB0 K a_Shift=true)
  (op_Shift:qBo K a_Shift=true)
  (oz_Shift:qA3 K (.ref a_Shift) "__setattr__" = some (some (.builtin "object.__setattr__")))
  (xm_Shift:qA3 K (.ref a_Shift) "__class__" = some (some (.builtin "object.__class__")))
  (xp_Shift:qBm K a_Shift (.type "object")=some true)
  (ycg:qC3 K (.builtin "object.__class__") "__get__" = some (some (.builtin "getset_descriptor.__get__")))
  (yct:qDn K (.builtin "object.__class__")=some true)
  (zk_NoCross:qAe K (.ref a_NoCross)=true)
  (zi_NoCross:qA3 K (.ref a_NoCross) "__init__" = some (some (.builtin "ValueError.__init__")))
  (xc_NoLetter:qA3 K (.ref a_NoLetter) "__setattr__" = some (some (.builtin "object.__setattr__")))
  (xq_NoLetter:qCd K a_NoLetter "letter" = some none)
  (xr_NoLetter:qA3 K (.ref a_NoLetter) "letter" = some none)
  (xs_NoLetter:qAe K (.ref a_NoLetter)=true)
  (xi_NoLetter:qA3 K (.ref a_NoLetter) "__init__" = some (some (.ref f14)))
  (xf_NoLetter:qB7 K (.ref f14)=true)
  (l14:K.lookup f14=some ⟨oc14,od14,.func (qAt "__init__" "NoLetter.__init__" (zB2 zBF) (zAP zBF) (zA8 zBF) .none kV14 dc14 pm14 an14 cd14 ct14),sl14⟩)
  (c14:qAy K cd14 "NoLetter.__init__" = true)
  (k14:qAe K (.ref f14)=true)
  (zm_Mirror:qBh K a_Mirror=true)
  (zi_Mirror:qA3 K (.ref a_Mirror) "__init__" = some (some (.builtin "object.__init__")))
  (zk_Mirror:qAe K (.ref a_Mirror)=true)
  (zm_Turn:qBh K a_Turn=true)
  (xi_Turn:qA3 K (.ref a_Turn) "__init__" = some (some (.ref f15)))
  (xf_Turn:qB7 K (.ref f15)=true)
  (zk_Turn:qAe K (.ref a_Turn)=true)
  (l15:K.lookup f15=some ⟨oc15,od15,.func (qAt "__init__" "Turn.__init__" (zB2 zDG) (zAP zDG) (zA8 zDG) .none kV15 dc15 pm15 an15 cd15 ct15),sl15⟩)
  (c15:qAy K cd15 "Turn.__init__" = true)
  (k15:qAe K (.ref f15)=true)
  (na_Turn_letter:qA3 K (.ref a_Turn) "letter" = some none)
  (zm_Swap:qBh K a_Swap=true)
  (xi_Swap:qA3 K (.ref a_Swap) "__init__" = some (some (.ref f16)))
  (xf_Swap:qB7 K (.ref f16)=true)
  (zk_Swap:qAe K (.ref a_Swap)=true)
  (l16:K.lookup f16=some ⟨oc16,od16,.func (qAt "__init__" "Swap.__init__" (zB2 zDH) (zAP zDH) (zA8 zDH) .none kV16 dc16 pm16 an16 cd16 ct16),sl16⟩)
  (c16:qAy K cd16 "Swap.__init__" = true)
  (k16:qAe K (.ref f16)=true)
  (na_Swap_one:qA3 K (.ref a_Swap) "one" = some none)
  (na_Swap_other:qA3 K (.ref a_Swap) "other" = some none)
  (zm_Shift:qBh K a_Shift=true)
  (xi_Shift:qA3 K (.ref a_Shift) "__init__" = some (some (.ref f17)))
  (xf_Shift:qB7 K (.ref f17)=true)
  (zk_Shift:qAe K (.ref a_Shift)=true)
  (l17:K.lookup f17=some ⟨oc17,od17,.func (qAt "__init__" "Shift.__init__" (zB2 zCO) (zAP zCO) (zA8 zCO) .none kV17 dc17 pm17 an17 cd17 ct17),sl17⟩)
  (c17:qAy K cd17 "Shift.__init__" = true)
  (k17:qAe K (.ref f17)=true)
  (na_Shift_by:qA3 K (.ref a_Shift) "by" = some none)
  (mt_Mirror_done_web:qA3 K (.ref a_Mirror) "done_web" = some (some (.ref f1)))
  (l1:K.lookup f1=some ⟨oc1,od1,.func (qAt "done_web" "Mirror.done_web" (zB2 zAT) (zAP zAT) (zA8 zAT) .none kV1 dc1 pm1 an1 cd1 ct1),sl1⟩)
  (c1:qAy K cd1 "Mirror.done_web" = true)
  (k1:qAe K (.ref f1)=true)
  (mf1:qB7 K (.ref f1)=true)
  (mt_Shift_done_web:qA3 K (.ref a_Shift) "done_web" = some (some (.ref f2)))
  (l2:K.lookup f2=some ⟨oc2,od2,.func (qAt "done_web" "Shift.done_web" (zB2 zAV) (zAP zAV) (zA8 zAV) .none kV2 dc2 pm2 an2 cd2 ct2),sl2⟩)
  (c2:qAy K cd2 "Shift.done_web" = true)
  (k2:qAe K (.ref f2)=true)
  (mf2:qB7 K (.ref f2)=true)
  (mt_Swap_done_web:qA3 K (.ref a_Swap) "done_web" = some (some (.ref f5)))
  (l5:K.lookup f5=some ⟨oc5,od5,.func (qAt "done_web" "Swap.done_web" (zB2 zAZ) (zAP zAZ) (zA8 zAZ) .none kV5 dc5 pm5 an5 cd5 ct5),sl5⟩)
  (c5:qAy K cd5 "Swap.done_web" = true)
  (k5:qAe K (.ref f5)=true)
  (mf5:qB7 K (.ref f5)=true)
  (mt_Turn_done_web:qA3 K (.ref a_Turn) "done_web" = some (some (.ref f7)))
  (l7:K.lookup f7=some ⟨oc7,od7,.func (qAt "done_web" "Turn.done_web" (zB2 zAY) (zAP zAY) (zA8 zAY) .none kV7 dc7 pm7 an7 cd7 ct7),sl7⟩)
  (c7:qAy K cd7 "Turn.done_web" = true)
  (k7:qAe K (.ref f7)=true)
  (mf7:qB7 K (.ref f7)=true)
  (wg_RoundError:qC3 K (.ref a_RoundError) "__getattribute__" = some (some (.builtin "type.__getattribute__")))
  (wr_RoundError:qEx K a_RoundError (.type "type")=true)
  (wf_RoundError:qEy K (.ref a_RoundError) (.type "type") "__init__" = some (.val (.builtin "ValueError.__init__")))
  (q3_NoLetter:qA3 K (.ref a_NoLetter) "letter" = some none)
  (s_NoLetter_NoLetter:qAp K (.ref a_NoLetter) (.ref a_NoLetter)=some true)
  (s_NoCross_NoCross:qAp K (.ref a_NoCross) (.ref a_NoCross)=some true)
  (s_RoundError_NoCross:qAp K (.ref a_RoundError) (.ref a_NoCross)=some false)
  (e_RoundError_NoCross:(a_RoundError==a_NoCross)=false)
  (s_NoLetter_NoCross:qAp K (.ref a_NoLetter) (.ref a_NoCross)=some false)
  (e_NoLetter_NoCross:(a_NoLetter==a_NoCross)=false)
  (s_RoundError_NoLetter:qAp K (.ref a_RoundError) (.ref a_NoLetter)=some false)
  (e_RoundError_NoLetter:(a_RoundError==a_NoLetter)=false)
  (s_NoCross_NoLetter:qAp K (.ref a_NoCross) (.ref a_NoLetter)=some false)
  (e_NoCross_NoLetter:(a_NoCross==a_NoLetter)=false)
  (s_RoundError_RoundError:qAp K (.ref a_RoundError) (.ref a_RoundError)=some true)
  (s_NoLetter_RoundError:qAp K (.ref a_NoLetter) (.ref a_RoundError)=some true)
  (s_NoCross_RoundError:qAp K (.ref a_NoCross) (.ref a_RoundError)=some true)
  :∃fd:FuncData,(∀(s:Shared)(v:Value),BindsTo s fd ⟨[v],[]⟩ [("_law_script",v)])/\∀base:Heap,K.In base->base.Ns mainGlobals mg->FnOk l.prog w K mg base CX0 6 fa fd ["_law_script"] (zFQ K):=by
 have e:=hfa.symm.trans (qBa X G a13);cases e;have D1:=zCC (x:="done_web") (qual:="Mirror.done_web") (st:=zAT) l1 c1 k1;have D2:=zCC (x:="done_web") (qual:="Shift.done_web") (st:=zAV) l2 c2 k2;have D5:=zCC (x:="done_web") (qual:="Swap.done_web") (st:=zAZ) l5 c5 k5;have D7:=zCC (x:="done_web") (qual:="Turn.done_web") (st:=zAY) l7 c7 k7;have b_ValueError:=qB4 X G z0;have b_bool:=qB4 X G z1;have b_int:=qB4 X G z2;have b_isinstance:=qB4 X G z3;have b_len:=qB4 X G z4;have b_list:=qB4 X G z5;have b_max:=qB4 X G z6;have b_min:=qB4 X G z7;have b_range:=qB4 X G z8;have b_zip:=qB4 X G z9;have i_RoundError:Xc.XIs K a_RoundError:=⟨zI9 xl_RoundError xd_RoundError,xg_RoundError,xh_RoundError,xj_RoundError,xm_RoundError,ycg,yct,xp_RoundError⟩
 have i_NoLetter:Xc.XIs K a_NoLetter:=⟨zI9 xl_NoLetter xd_NoLetter,xg_NoLetter,xh_NoLetter,xj_NoLetter,xm_NoLetter,ycg,yct,xp_NoLetter⟩
 have i_NoCross:Xc.XIs K a_NoCross:=⟨zI9 xl_NoCross xd_NoCross,xg_NoCross,xh_NoCross,xj_NoCross,xm_NoCross,ycg,yct,xp_NoCross⟩
 have i_Change:OIs K a_Change:=⟨⟨og_Change,oh_Change,op_Change,oz_Change⟩,xm_Change,ycg,yct,xp_Change⟩
 have o_Change:OCls K mg "Change" a_Change:=⟨zBO xa_Change,qBa X G xa_Change,i_Change⟩
 have i_Turn:OIs K a_Turn:=⟨⟨og_Turn,oh_Turn,op_Turn,oz_Turn⟩,xm_Turn,ycg,yct,xp_Turn⟩
 have o_Turn:OCls K mg "Turn" a_Turn:=⟨zBO xa_Turn,qBa X G xa_Turn,i_Turn⟩
 have i_Swap:OIs K a_Swap:=⟨⟨og_Swap,oh_Swap,op_Swap,oz_Swap⟩,xm_Swap,ycg,yct,xp_Swap⟩
 have o_Swap:OCls K mg "Swap" a_Swap:=⟨zBO xa_Swap,qBa X G xa_Swap,i_Swap⟩
 have i_Mirror:OIs K a_Mirror:=⟨⟨og_Mirror,oh_Mirror,op_Mirror,oz_Mirror⟩,xm_Mirror,ycg,yct,xp_Mirror⟩
 have o_Mirror:OCls K mg "Mirror" a_Mirror:=⟨zBO xa_Mirror,qBa X G xa_Mirror,i_Mirror⟩
 have i_Shift:OIs K a_Shift:=⟨⟨og_Shift,oh_Shift,op_Shift,oz_Shift⟩,xm_Shift,ycg,yct,xp_Shift⟩
 have o_Shift:OCls K mg "Shift" a_Shift:=⟨zBO xa_Shift,qBa X G xa_Shift,i_Shift⟩
 have on_Mirror:ONew K mg "Mirror" a_Mirror:=⟨o_Mirror,zm_Mirror,zi_Mirror,zk_Mirror⟩
 have n_RoundError:XCls K mg "RoundError" a_RoundError:=⟨zBO xa_RoundError,qBa X G xa_RoundError,i_RoundError⟩
 have n_NoLetter:XCls K mg "NoLetter" a_NoLetter:=⟨zBO xa_NoLetter,qBa X G xa_NoLetter,i_NoLetter⟩
 have n_NoCross:XCls K mg "NoCross" a_NoCross:=⟨zBO xa_NoCross,qBa X G xa_NoCross,i_NoCross⟩
 have z_NoCross:XNo K mg "NoCross" a_NoCross:=⟨n_NoCross,zk_NoCross,zi_NoCross⟩
 have w_RoundError:XBase K a_RoundError:=⟨wg_RoundError,wr_RoundError,wf_RoundError,zU6⟩
 have q0:(∀c∈(["Swap"]:List Str),∃C,clK K c=some C/\OIs K C/\NoAttr K C "other"):=by
  intro c h;simp only[qAa,qAk,or_false]at h;subst h;exact⟨a_Swap,zBO xa_Swap,i_Swap,na_Swap_other⟩
 have q1:(∀c∈(["Swap"]:List Str),∃C,clK K c=some C/\OIs K C/\NoAttr K C "one"):=by
  intro c h;simp only[qAa,qAk,or_false]at h;subst h;exact⟨a_Swap,zBO xa_Swap,i_Swap,na_Swap_one⟩
 have q2:(∀c∈(["Turn"]:List Str),∃C,clK K c=some C/\OIs K C/\NoAttr K C "letter"):=by
  intro c h;simp only[qAa,qAk,or_false]at h;subst h;exact⟨a_Turn,zBO xa_Turn,i_Turn,na_Turn_letter⟩
 have q3:(∀c∈(["NoLetter"]:List Str),∃C,clK K c=some C/\Xc.XIs K C/\qA3 K (.ref C) "letter" = some none):=by
  intro c h;simp only[qAa,qAk,or_false]at h;subst h;exact⟨a_NoLetter,zBO xa_NoLetter,i_NoLetter,q3_NoLetter⟩
 have q4:(∀c∈(["NoLetter"]:List Str),∃C,clK K c=some C/\qBr K (.ref C) (.ref a_NoLetter)=some true):=by
  intro c h;simp only[qAa,qAk,or_false]at h;subst h;exact⟨a_NoLetter,zBO xa_NoLetter,zDB xw_NoLetter xn_NoLetter xt_NoLetter s_NoLetter_NoLetter⟩
 have q5_y:(∀c∈(["NoCross"]:List Str),∃C,clK K c=some C/\Xc.XIs K C/\kitV K C (V.ref a_NoCross)=some true):=by
  intro c h;simp only[qAa,qAk,or_false]at h;subst h;exact⟨a_NoCross,zBO xa_NoCross,i_NoCross,(zJN xn_NoCross xt_NoCross s_NoCross_NoCross)⟩
 have q5_n:(∀c∈(["RoundError","NoLetter"]:List Str),∃C,clK K c=some C/\Xc.XIs K C/\kitV K C (V.ref a_NoCross)=some false):=by
  intro c h;simp only[qAa,qAk,or_false]at h
  rcases h with rfl|rfl
  ·exact⟨a_RoundError,zBO xa_RoundError,i_RoundError,(zE9 xn_NoCross xt_NoCross s_RoundError_NoCross e_RoundError_NoCross)⟩
  ·exact⟨a_NoLetter,zBO xa_NoLetter,i_NoLetter,(zE9 xn_NoCross xt_NoCross s_NoLetter_NoCross e_NoLetter_NoCross)⟩
 have q5:(∀c∈(["NoCross"]:List Str),∃C,clK K c=some C/\Xc.XIs K C/\kitV K C (V.ref a_NoCross)=some true)/\(∀c∈(["RoundError","NoLetter"]:List Str),∃C,clK K c=some C/\Xc.XIs K C/\kitV K C (V.ref a_NoCross)=some false):=⟨q5_y,q5_n⟩
 have q6_y:(∀c∈(["NoLetter"]:List Str),∃C,clK K c=some C/\Xc.XIs K C/\kitV K C (V.ref a_NoLetter)=some true):=by
  intro c h;simp only[qAa,qAk,or_false]at h;subst h;exact⟨a_NoLetter,zBO xa_NoLetter,i_NoLetter,(zJN xn_NoLetter xt_NoLetter s_NoLetter_NoLetter)⟩
 have q6_n:(∀c∈(["RoundError","NoCross"]:List Str),∃C,clK K c=some C/\Xc.XIs K C/\kitV K C (V.ref a_NoLetter)=some false):=by
  intro c h;simp only[qAa,qAk,or_false]at h
  rcases h with rfl|rfl
  ·exact⟨a_RoundError,zBO xa_RoundError,i_RoundError,(zE9 xn_NoLetter xt_NoLetter s_RoundError_NoLetter e_RoundError_NoLetter)⟩
  ·exact⟨a_NoCross,zBO xa_NoCross,i_NoCross,(zE9 xn_NoLetter xt_NoLetter s_NoCross_NoLetter e_NoCross_NoLetter)⟩
 have q6:(∀c∈(["NoLetter"]:List Str),∃C,clK K c=some C/\Xc.XIs K C/\kitV K C (V.ref a_NoLetter)=some true)/\(∀c∈(["RoundError","NoCross"]:List Str),∃C,clK K c=some C/\Xc.XIs K C/\kitV K C (V.ref a_NoLetter)=some false):=⟨q6_y,q6_n⟩
 have q7_y:(∀c∈(["RoundError","NoLetter","NoCross"]:List Str),∃C,clK K c=some C/\Xc.XIs K C/\kitV K C (V.ty "ValueError")=some true):=by
  intro c h;simp only[qAa,qAk,or_false]at h
  rcases h with rfl|rfl|rfl
  ·exact⟨a_RoundError,zBO xa_RoundError,i_RoundError,(zF1 xv_RoundError)⟩
  ·exact⟨a_NoLetter,zBO xa_NoLetter,i_NoLetter,(zF1 xv_NoLetter)⟩
  ·exact⟨a_NoCross,zBO xa_NoCross,i_NoCross,(zF1 xv_NoCross)⟩
 have q7_n:(∀c∈([]:List Str),∃C,clK K c=some C/\Xc.XIs K C/\kitV K C (V.ty "ValueError")=some false):=by
  intro c h;simp only[qAa,qAk,or_false]at h
 have q7:(∀c∈(["RoundError","NoLetter","NoCross"]:List Str),∃C,clK K c=some C/\Xc.XIs K C/\kitV K C (V.ty "ValueError")=some true)/\(∀c∈([]:List Str),∃C,clK K c=some C/\Xc.XIs K C/\kitV K C (V.ty "ValueError")=some false):=⟨q7_y,q7_n⟩
 have q8:(∀c∈(["RoundError","NoLetter","NoCross"]:List Str),∃C,clK K c=some C/\qBr K (.ref C) (.ref a_RoundError)=some true):=by
  intro c h;simp only[qAa,qAk,or_false]at h
  rcases h with rfl|rfl|rfl
  ·exact⟨a_RoundError,zBO xa_RoundError,zDB xw_RoundError xn_RoundError xt_RoundError s_RoundError_RoundError⟩
  ·exact⟨a_NoLetter,zBO xa_NoLetter,zDB xw_RoundError xn_RoundError xt_RoundError s_NoLetter_RoundError⟩
  ·exact⟨a_NoCross,zBO xa_NoCross,zDB xw_RoundError xn_RoundError xt_RoundError s_NoCross_RoundError⟩
 refine⟨qAt "law" "law" (zB2 zGB) (zAP zGB) (zA8 zGB) .none kV13 dc13 pm13 an13 cd13 ct13,fun s v=>.of_eq rfl,fun base _ _=>?_⟩;have F_NoLetter:=zCC (x:="__init__") (qual:="NoLetter.__init__") (st:=zBF) l14 c14 k14;have x_NoLetter:XIni l.prog w K mg base "NoLetter" "letter" a_NoLetter:=⟨n_NoLetter,xs_NoLetter,⟨xc_NoLetter,zPS xn_NoLetter xo_NoLetter,xq_NoLetter,xj_NoLetter⟩,xr_NoLetter,f14,_,["self","letter"],xi_NoLetter,xf_NoLetter,zE1 F_NoLetter w_RoundError n_RoundError.gm,F_NoLetter.binds (fun _ _ _ _ _ _=>uw2 fun _ _=>rfl)⟩
 have F_Turn:=zCC (x:="__init__") (qual:="Turn.__init__") (st:=zDG) l15 c15 k15;have oi_Turn:OIni l.prog w K mg base "Turn" ["letter"] a_Turn:=⟨o_Turn,by intro f h;simp only[qAa,qAk,or_false]at h;subst h;exact na_Turn_letter,f15,_,["self","letter"],⟨zm_Turn,xi_Turn,xf_Turn,zk_Turn⟩,ok_oini_Turn F_Turn,F_Turn.binds (fun _ _ _ _ _ _=>uw2 fun _ _=>rfl)⟩
 have F_Swap:=zCC (x:="__init__") (qual:="Swap.__init__") (st:=zDH) l16 c16 k16;have oi_Swap:OIni l.prog w K mg base "Swap" ["one","other"] a_Swap:=⟨o_Swap,by intro f h;simp only[qAa,qAk,or_false]at h;rcases h with rfl|rfl;exact na_Swap_one;exact na_Swap_other,f16,_,["self","one","other"],⟨zm_Swap,xi_Swap,xf_Swap,zk_Swap⟩,ok_oini_Swap F_Swap,F_Swap.binds (fun _ _ _ _ _ _=>uw3 fun _ _ _=>rfl)⟩
 have F_Shift:=zCC (x:="__init__") (qual:="Shift.__init__") (st:=zCO) l17 c17 k17;have oi_Shift:OIni l.prog w K mg base "Shift" ["by"] a_Shift:=⟨o_Shift,by intro f h;simp only[qAa,qAk,or_false]at h;subst h;exact na_Shift_by,f17,_,["self","by"],⟨zm_Shift,xi_Shift,xf_Shift,zk_Shift⟩,ok_oini_Shift F_Shift,F_Shift.binds (fun _ _ _ _ _ _=>uw2 fun _ _=>rfl)⟩
 have h_copied:=zLG (P:=l.prog) (w:=w) (base:=base) D0 b_list;have ok1:=zDA (P:=l.prog) (w:=w) (base:=base) (mg:=mg) D1 h_copied;have ok2:=zDK (P:=l.prog) (w:=w) (base:=base) (mg:=mg) D2 h_copied;have h_exchanged_at:=zET (P:=l.prog) (w:=w) (base:=base) D3;have h_first_place:=zFL (P:=l.prog) (w:=w) (base:=base) D4 b_len x_NoLetter;have ok5:=zE4 (P:=l.prog) (w:=w) (base:=base) (mg:=mg) D5 h_exchanged_at h_first_place z_NoCross q0 q1;have h_turned_at:=zHM (P:=l.prog) (w:=w) (base:=base) D6;have ok7:=zE3 (P:=l.prog) (w:=w) (base:=base) (mg:=mg) D7 h_first_place h_turned_at q2;have h__law_any_web:=zEV (P:=l.prog) (w:=w) (base:=base) D8 b_len b_range;have h_Turn_done_web:HasM l.prog w K mg base a_Turn "done_web" 4 ["self","letters","web"] _:=⟨f7,_,i_Turn.cl,⟨mt_Turn_done_web,mf7,k7⟩,ok7,D7.binds (fun _ _ _ _ _ _=>uw3 fun _ _ _=>rfl)⟩
 have h_Swap_done_web:HasM l.prog w K mg base a_Swap "done_web" 4 ["self","letters","web"] _:=⟨f5,_,i_Swap.cl,⟨mt_Swap_done_web,mf5,k5⟩,ok5,D5.binds (fun _ _ _ _ _ _=>uw3 fun _ _ _=>rfl)⟩
 have h_Mirror_done_web:HasM l.prog w K mg base a_Mirror "done_web" 2 ["self","letters","web"] _:=⟨f1,_,i_Mirror.cl,⟨mt_Mirror_done_web,mf1,k1⟩,ok1,D1.binds (fun _ _ _ _ _ _=>uw3 fun _ _ _=>rfl)⟩
 have h_Shift_done_web:HasM l.prog w K mg base a_Shift "done_web" 2 ["self","letters","web"] _:=⟨f2,_,i_Shift.cl,⟨mt_Shift_done_web,mf2,k2⟩,ok2,D2.binds (fun _ _ _ _ _ _=>uw3 fun _ _ _=>rfl)⟩
 have h__law_letter:=zFM (P:=l.prog) (w:=w) (base:=base) D9 h_Turn_done_web h_Swap_done_web h_Mirror_done_web h_Shift_done_web n_NoLetter o_Turn o_Swap o_Mirror o_Shift q3 q4;have h__law_mixed:=zGJ (P:=l.prog) (w:=w) (base:=base) D10 b_len b_max b_min b_range;have h__law_refused:=zEU (P:=l.prog) (w:=w) (base:=base) D11 h_Turn_done_web h_Swap_done_web h_Mirror_done_web h_Shift_done_web b_ValueError b_isinstance n_RoundError n_NoLetter n_NoCross o_Turn o_Swap o_Mirror o_Shift q5 q6 q7 q8;have h__law_table_is:=zE2 (P:=l.prog) (w:=w) (base:=base) D12 b_bool b_int b_isinstance b_len b_list b_zip;exact zS6 (zCC (st:=zGB) l13 c13 k13) h__law_any_web h__law_letter h__law_mixed h__law_refused h__law_table_is h_Turn_done_web h_Swap_done_web h_Mirror_done_web h_Shift_done_web b_list b_range o_Turn o_Swap o_Mirror o_Shift oi_Turn oi_Swap oi_Shift on_Mirror
theorem walk{l:qD1}{q:Program}{loose:List Str}{XP:(Str->Option Value)->Heap->Prop}{d:DefRec}{K:Params->qA0}{as ts:List Addr}{e:∀P,as=(K P).map (·.1)}(hn:l.most=some 63)(hdf:d.params.defaults=[])(hts:∀P∈ts,P∉as)
  (F:∀(w:World)(mg:Str->Option Value)(fa:Addr)(h:Heap),(K w.params).In h->h.Ns mainGlobals mg->mg d.name=some (.ref fa) ->
   TbE (K w.params) ts/\∃fd:FuncData,(∀(s:Shared)(u:Value),BindsTo s fd ⟨[u],[]⟩ [("_law_script",u)])/\∀base:Heap,(K w.params).In base->base.Ns mainGlobals mg->FnOk l.prog w (K w.params) mg base CX0 6 fa fd ["_law_script"] (zFQ (K w.params))) :
  qE6 q loose XP (qFd K as e ts).says l.row.toRowW d [] (fun f vs=>qEf f vs):=
 L3.walk_ofM (n:=63) (k:=6) (x:="_law_script") hn (by decide) hdf ⟨rfl,by decide,by decide⟩ hts F
end Q58
open PySem PySem.W PyProof.Rows
set_option maxRecDepth 100000 in
set_option maxHeartbeats 0 in
theorem PySem.Challenge.cw_fourway_k58_changes_refused_by_webs_holds : PySem.Challenge.rw_fourway_k58_changes_refused_by_webs.Holds := by
 w_on;o_law;k_head;(case hw=>w_witness2)
 k_fill
 refine Q58.walk (l:=qBl) rfl rfl (by decide) ?F
 case F=>
  intro w mg fa h KX G hmg;refine' L3.with1 (L3.mkS (nm:="turned_at") (st:=Q58.top 12) KX G (by k_is) (by k_is) (by k_is) (by k_is) (by k_is) (by rfl) (by rfl) (by rfl) (by decide)) ?_;intro M0;refine' L3.with1 (L3.mkS (nm:="exchanged_at") (st:=Q58.top 13) KX G (by k_is) (by k_is) (by k_is) (by k_is) (by k_is) (by rfl) (by rfl) (by rfl) (by decide)) ?_;intro M1;have T:=L3.Tb.mk (M0.mk1) (M1.mk1) (L3.mk1_none (by k_is));refine' ⟨⟨_,_,_,T⟩,?_⟩;refine' Q58.all_mk KX G hmg (Q58.mkD KX G ?a0 ?l0 ?c0 ?k0) (Q58.mkD KX G ?a3 ?l3 ?c3 ?k3) (Q58.mkD KX G ?a4 ?l4 ?c4 ?k4) (Q58.mkD KX G ?a6 ?l6 ?c6 ?k6) (Q58.mkD KX G ?a8 ?l8 ?c8 ?k8) (Q58.mkD KX G ?a9 ?l9 ?c9 ?k9) (Q58.mkD KX G ?a10 ?l10 ?c10 ?k10) (Q58.mkD KX G ?a11 ?l11 ?c11 ?k11) (Q58.mkD KX G ?a12 ?l12 ?c12 ?k12) ?a13 ?l13 ?c13 ?k13 ?z0 ?z1 ?z2 ?z3 ?z4 ?z5 ?z6 ?z7 ?z8 ?z9 ?xa_RoundError ?xl_RoundError ?xd_RoundError ?xn_RoundError ?xo_RoundError ?xt_RoundError ?xg_RoundError ?xh_RoundError ?xj_RoundError ?xm_RoundError ?xp_RoundError ?xv_RoundError ?xw_RoundError ?xa_NoLetter ?xl_NoLetter ?xd_NoLetter ?xn_NoLetter ?xo_NoLetter ?xt_NoLetter ?xg_NoLetter ?xh_NoLetter ?xj_NoLetter ?xm_NoLetter ?xp_NoLetter ?xv_NoLetter ?xw_NoLetter ?xa_NoCross ?xl_NoCross ?xd_NoCross ?xn_NoCross ?xo_NoCross ?xt_NoCross ?xg_NoCross ?xh_NoCross ?xj_NoCross ?xm_NoCross ?xp_NoCross ?xv_NoCross ?xw_NoCross ?xa_Change ?xn_Change ?xt_Change ?og_Change ?oh_Change ?op_Change ?oz_Change ?xm_Change ?xp_Change ?xa_Turn ?xn_Turn ?xt_Turn ?og_Turn ?oh_Turn ?op_Turn ?oz_Turn ?xm_Turn ?xp_Turn ?xa_Swap ?xn_Swap ?xt_Swap ?og_Swap ?oh_Swap ?op_Swap ?oz_Swap ?xm_Swap ?xp_Swap ?xa_Mirror ?xn_Mirror ?xt_Mirror ?og_Mirror ?oh_Mirror ?op_Mirror ?oz_Mirror ?xm_Mirror ?xp_Mirror ?xa_Shift ?xn_Shift ?xt_Shift ?og_Shift ?oh_Shift ?op_Shift ?oz_Shift ?xm_Shift ?xp_Shift ?ycg ?yct ?zk_NoCross ?zi_NoCross ?xc_NoLetter ?xq_NoLetter ?xr_NoLetter ?xs_NoLetter ?xi_NoLetter ?xf_NoLetter ?l14 ?c14 ?k14 ?zm_Mirror ?zi_Mirror ?zk_Mirror ?zm_Turn ?xi_Turn ?xf_Turn ?zk_Turn ?l15 ?c15 ?k15 ?na_Turn_letter ?zm_Swap ?xi_Swap ?xf_Swap ?zk_Swap ?l16 ?c16 ?k16 ?na_Swap_one ?na_Swap_other ?zm_Shift ?xi_Shift ?xf_Shift ?zk_Shift ?l17 ?c17 ?k17 ?na_Shift_by ?mt_Mirror_done_web ?l1 ?c1 ?k1 ?mf1 ?mt_Shift_done_web ?l2 ?c2 ?k2 ?mf2 ?mt_Swap_done_web ?l5 ?c5 ?k5 ?mf5 ?mt_Turn_done_web ?l7 ?c7 ?k7 ?mf7 ?wg_RoundError ?wr_RoundError ?wf_RoundError ?q3_NoLetter ?s_NoLetter_NoLetter ?s_NoCross_NoCross ?s_RoundError_NoCross ?e_RoundError_NoCross ?s_NoLetter_NoCross ?e_NoLetter_NoCross ?s_RoundError_NoLetter ?e_RoundError_NoLetter ?s_NoCross_NoLetter ?e_NoCross_NoLetter ?s_RoundError_RoundError ?s_NoLetter_RoundError ?s_NoCross_RoundError
  (case a0=>k_is)
  (case l0=>k_is)
  (case c0=>k_is)
  (case k0=>k_is)
  (case a3=>k_is)
  (case l3=>k_is)
  (case c3=>k_is)
  (case k3=>k_is)
  (case a4=>k_is)
  (case l4=>k_is)
  (case c4=>k_is)
  (case k4=>k_is)
  (case a6=>k_is)
  (case l6=>k_is)
  (case c6=>k_is)
  (case k6=>k_is)
  (case a8=>k_is)
  (case l8=>k_is)
  (case c8=>k_is)
  (case k8=>k_is)
  (case a9=>k_is)
  (case l9=>k_is)
  (case c9=>k_is)
  (case k9=>k_is)
  (case a10=>k_is)
  (case l10=>k_is)
  (case c10=>k_is)
  (case k10=>k_is)
  (case a11=>k_is)
  (case l11=>k_is)
  (case c11=>k_is)
  (case k11=>k_is)
  (case a12=>k_is)
  (case l12=>k_is)
  (case c12=>k_is)
  (case k12=>k_is)
  (case a13=>k_is)
  (case l13=>k_is)
  (case c13=>k_is)
  (case k13=>k_is)
  (case z0=>k_is)
  (case z1=>k_is)
  (case z2=>k_is)
  (case z3=>k_is)
  (case z4=>k_is)
  (case z5=>k_is)
  (case z6=>k_is)
  (case z7=>k_is)
  (case z8=>k_is)
  (case z9=>k_is)
  (case xa_RoundError=>k_is)
  (case xl_RoundError=>k_is)
  (case xd_RoundError=>rfl)
  (case xn_RoundError=>k_is)
  (case xo_RoundError=>rfl)
  (case xt_RoundError=>k_is)
  (case xg_RoundError=>k_is)
  (case xh_RoundError=>k_is)
  (case xj_RoundError=>k_is)
  (case xm_RoundError=>k_is)
  (case xp_RoundError=>k_is)
  (case xv_RoundError=>k_is)
  (case xw_RoundError=>k_is)
  (case xa_NoLetter=>k_is)
  (case xl_NoLetter=>k_is)
  (case xd_NoLetter=>rfl)
  (case xn_NoLetter=>k_is)
  (case xo_NoLetter=>rfl)
  (case xt_NoLetter=>k_is)
  (case xg_NoLetter=>k_is)
  (case xh_NoLetter=>k_is)
  (case xj_NoLetter=>k_is)
  (case xm_NoLetter=>k_is)
  (case xp_NoLetter=>k_is)
  (case xv_NoLetter=>k_is)
  (case xw_NoLetter=>k_is)
  (case xa_NoCross=>k_is)
  (case xl_NoCross=>k_is)
  (case xd_NoCross=>rfl)
  (case xn_NoCross=>k_is)
  (case xo_NoCross=>rfl)
  (case xt_NoCross=>k_is)
  (case xg_NoCross=>k_is)
  (case xh_NoCross=>k_is)
  (case xj_NoCross=>k_is)
  (case xm_NoCross=>k_is)
  (case xp_NoCross=>k_is)
  (case xv_NoCross=>k_is)
  (case xw_NoCross=>k_is)
  (case xa_Change=>k_is)
  (case xn_Change=>k_is)
  (case xt_Change=>k_is)
  (case og_Change=>k_is)
  (case oh_Change=>k_is)
  (case op_Change=>k_is)
  (case oz_Change=>k_is)
  (case xm_Change=>k_is)
  (case xp_Change=>k_is)
  (case xa_Turn=>k_is)
  (case xn_Turn=>k_is)
  (case xt_Turn=>k_is)
  (case og_Turn=>k_is)
  (case oh_Turn=>k_is)
  (case op_Turn=>k_is)
  (case oz_Turn=>k_is)
  (case xm_Turn=>k_is)
  (case xp_Turn=>k_is)
  (case xa_Swap=>k_is)
  (case xn_Swap=>k_is)
  (case xt_Swap=>k_is)
  (case og_Swap=>k_is)
  (case oh_Swap=>k_is)
  (case op_Swap=>k_is)
  (case oz_Swap=>k_is)
  (case xm_Swap=>k_is)
  (case xp_Swap=>k_is)
  (case xa_Mirror=>k_is)
  (case xn_Mirror=>k_is)
  (case xt_Mirror=>k_is)
  (case og_Mirror=>k_is)
  (case oh_Mirror=>k_is)
  (case op_Mirror=>k_is)
  (case oz_Mirror=>k_is)
  (case xm_Mirror=>k_is)
  (case xp_Mirror=>k_is)
  (case xa_Shift=>k_is)
  (case xn_Shift=>k_is)
  (case xt_Shift=>k_is)
  (case og_Shift=>k_is)
  (case oh_Shift=>k_is)
  (case op_Shift=>k_is)
  (case oz_Shift=>k_is)
  (case xm_Shift=>k_is)
  (case xp_Shift=>k_is)
  (case ycg=>k_is)
  (case yct=>k_is)
  (case zk_NoCross=>k_is)
  (case zi_NoCross=>k_is)
  (case xc_NoLetter=>k_is)
  (case xq_NoLetter=>k_is)
  (case xr_NoLetter=>k_is)
  (case xs_NoLetter=>k_is)
  (case xi_NoLetter=>k_is)
  (case xf_NoLetter=>k_is)
  (case l14=>k_is)
  (case c14=>k_is)
  (case k14=>k_is)
  (case zm_Mirror=>k_is)
  (case zi_Mirror=>k_is)
  (case zk_Mirror=>k_is)
  (case zm_Turn=>k_is)
  (case xi_Turn=>k_is)
  (case xf_Turn=>k_is)
  (case zk_Turn=>k_is)
  (case l15=>k_is)
  (case c15=>k_is)
  (case k15=>k_is)
  (case na_Turn_letter=>k_is)
  (case zm_Swap=>k_is)
  (case xi_Swap=>k_is)
  (case xf_Swap=>k_is)
  (case zk_Swap=>k_is)
  (case l16=>k_is)
  (case c16=>k_is)
  (case k16=>k_is)
  (case na_Swap_one=>k_is)
  (case na_Swap_other=>k_is)
  (case zm_Shift=>k_is)
  (case xi_Shift=>k_is)
  (case xf_Shift=>k_is)
  (case zk_Shift=>k_is)
  (case l17=>k_is)
  (case c17=>k_is)
  (case k17=>k_is)
  (case na_Shift_by=>k_is)
  (case mt_Mirror_done_web=>k_is)
  (case l1=>k_is)
  (case c1=>k_is)
  (case k1=>k_is)
  (case mf1=>k_is)
  (case mt_Shift_done_web=>k_is)
  (case l2=>k_is)
  (case c2=>k_is)
  (case k2=>k_is)
  (case mf2=>k_is)
  (case mt_Swap_done_web=>k_is)
  (case l5=>k_is)
  (case c5=>k_is)
  (case k5=>k_is)
  (case mf5=>k_is)
  (case mt_Turn_done_web=>k_is)
  (case l7=>k_is)
  (case c7=>k_is)
  (case k7=>k_is)
  (case mf7=>k_is)
  (case wg_RoundError=>k_is)
  (case wr_RoundError=>k_is)
  (case wf_RoundError=>k_is)
  (case q3_NoLetter=>k_is)
  (case s_NoLetter_NoLetter=>k_is)
  (case s_NoCross_NoCross=>k_is)
  (case s_RoundError_NoCross=>k_is)
  (case e_RoundError_NoCross=>rfl)
  (case s_NoLetter_NoCross=>k_is)
  (case e_NoLetter_NoCross=>rfl)
  (case s_RoundError_NoLetter=>k_is)
  (case e_RoundError_NoLetter=>rfl)
  (case s_NoCross_NoLetter=>k_is)
  (case e_NoCross_NoLetter=>rfl)
  (case s_RoundError_RoundError=>k_is)
  (case s_NoLetter_RoundError=>k_is)
  (case s_NoCross_RoundError=>k_is)
