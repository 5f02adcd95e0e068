import PyProof.Rows.All
import Wide.All
import OpenK.AllK
import Wide.FinOn
import Lean
import PyProof.EqAt
import PyProof.EqKinds
import PyProof.TupleCall
import PyProof.NeKinds
import KE.KLam
import KE.KNestM
import PySem.Challenge.RW_fourway_k57_pivots_and_back
set_option Elab.async false
set_option linter.all false
set_option maxRecDepth 100000
open Array renaming getElem?_eq_some_iff->qB4,length_toList->qBy,toList_append->qDr,toList->qFm
open Bool renaming false_ne_true->qAb,and_eq_true->qAs,and_false->qBv,eq_iff_iff->qC1,or_true->qCp,false_eq_true->qCq,false_and->qCt,and_true->qD1,true_and->qE2,not_eq_true'->qEa,or_eq_true->qEq
open Char renaming toNat->qFu
open Classical renaming propDecidable->qA1
open False renaming elim->qA3
open ForInStep renaming yield->qBr
open Int renaming toNat_natCast->qBd,mul_comm->qFp,mul_one->qFq
open List renaming getElem?_eq_some_iff->qA2,replicate->qA5,getD_eq_getElem?_getD->qA6,getElem?_append_right->qA8,range->qA9,getElem?_append_left->qAa,getElem?_set_self->qAc,getElem?_set_ne->qAd,getElem?_eq_getElem->qAe,size_toArray->qAf,getElem?_map->qAg,mem_cons->qAk,map_cons->qAl,length_map->qAn,mem_append_right->qAo,mem_of_getElem?->qAq,mem_cons_of_mem->qAr,length_cons->qAz,not_mem_nil->qB0,length_append->qB1,contains_cons->qB2,lookup_cons->qB3,replicate_succ->qB6,mem_cons_self->qB7,mem_iff_getElem->qB8,getElem?_replicate->qBa,map_map->qBc,drop_eq_getElem_cons->qBg,nodup_cons->qBj,flatten_cons->qBk,map_congr_left->qBl,mem_append->qBm,append_nil->qBp,of_mem_zip->qBq,any_cons->qBt,mem_map->qC0,all_cons->qC3,getElem_range->qC4,map_append->qC5,append_assoc->qCa,length_range->qCb,length_replicate->qCc,all_eq_true->qCf,eq_nil_of_length_eq_zero->qCg,mem_append_left->qCh,mem_filter->qCj,filterMap_cons->qCk,lookup->qCl,range_succ->qCm,mem_singleton->qCo,mem_range->qCs,drop_zero->qCu,ext_getElem?->qCx,getElem?_set->qCy,lookup_eq_none_iff->qD2,length_take->qD3,any_eq_true->qD6,cons_append->qD7,drop_length->qD9,range_succ_eq_map->qDa,take_of_length_le->qDc,length_singleton->qDf,nil_append->qDg,set_append_right->qDh,set_getElem_self->qDi,map_set->qDk,length_filter_le->qDl,mem_map_of_mem->qDs,mem_filterMap->qDv,zip_cons_cons->qE0,lookup_append->qE1,reverse_cons->qEc,all_map->qEf,length_drop->qEi,filter_cons->qEk,take_length->qEl,length_set->qEn,length_nil->qEt,foldl->qFk,set_set->qFn,length->qFr,cons->qFw
open List.Pairwise renaming nil->qE8
open List.cons renaming injEq->qEu
open Nat renaming le_refl->qA4,lt_of_lt_of_le->qA7,le_trans->qAh,ne_of_lt->qAj,zero_le->qAx,lt_irrefl->qB9,le_of_lt->qBe,ne_of_gt->qBn,zero_add->qCd,le_add_right->qD5,le_of_eq->qDj,le_succ->qDq,lt_of_le_of_lt->qDy,lt_succ_of_lt->qE9,min_self->qEg,le_max_left->qEp,le_zero->qEr,min_eq_left->qEs
open Nat.succ renaming inj->qFo
open Ne renaming symm->qCe
open Option renaming isSome_iff_exists->qBz,getD_some->qD4,bind_some->qD8,map_eq_some_iff->qDb,none->qDp,isSome_some->qDx,getD_none->qEj
open Option.some renaming inj->qAv,injEq->qFt
open Or renaming inr->qDw,inl->qEo
open Prod renaming fst->qFs
open PyProof.Rows renaming callWith_type1->qBo,envOfC->qDt,callWith_builtin1->qEe
open PySem renaming mem_of_lookup->qB5,call->qEb,Within->qFl
open PySem.Challenge renaming rw_fourway_k57_pivots_and_back->qBi,pw_fourway_k57_pivots_and_back->qCv
open PySem.EqMixed renaming eq_bool_str->qEy,eq_str_bool->qEz,ne_bool_str->qF3,ne_str_bool->qF4,eq_int_str->qFb,eq_str_int->qFd,ne_int_str->qFh,ne_str_int->qFj
open PySem.EqNone renaming eq_none_none->qEv,eq_none_bool->qEw,eq_bool_none->qEx,ne_none_none->qF0,ne_none_bool->qF1,ne_bool_none->qF2,eq_none_int->qF8,eq_none_str->qF9,eq_int_none->qFa,eq_str_none->qFc,ne_none_int->qFe,ne_none_str->qFf,ne_int_none->qFg,ne_str_none->qFi
open PySem.F renaming plainAttrs_list->qC7,slot_list_append->qCz,type_list_append->qD0
open PySem.W renaming Frag->qA0,findIn->qAi,subIn->qAm,keepIn->qAp,kia_one->qAt,codeHdIn->qAu,fnOf->qAw,kitOne->qAy,nsIn->qBb,clsIn->qBf,typeIn->qBh,specialIn->qBs,codeIn->qBu,exmOne->qBw,kla_fn->qBx,callWith_K->qC2,mg_of->qC6,cellsFrom_some->qC8,hasDictIn->qC9,mroIn->qCi,OpenLaw->qCn,envX->qCr,methodObj->qCw,instObj->qDd,takesIn->qDe,lookIn->qDn,tabObj->qDo,codeHd_of_K->qDu,Looks->qDz,WalkO->qE3,kitx_list->qE6,kitx_dict->qE7,isFn->qEd,plainGet->qEh,makesIn->qEm,InstAt->qF5,notCls->qF6,kmHook->qF7
open PySem.W.Looks renaming ld->qFv
open Sum renaming inl->qE4,inr->qE5
open True renaming intro->qDm
set_option compiler.extract_closed false
set_option genSizeOf false
set_option genSizeOfSpec false
set_option bootstrap.genMatcherCode false
noncomputable section
namespace L2
open PySem PySem.Spec PyProof.Rows
abbrev Key:=Sum Int Str
noncomputable def zSX:Key->Value->Bool
 |.inl k,v=>Value.isInt k v
 |.inr x,v=>Value.isStrOf x v
noncomputable def keyH(w:World):Key->Int
 |.inl k=>hashInt k
 |.inr x=>hashStr w x
theorem zB2:∀{k:Key}{v:Value},zSX k v=true->(∃i t,k=qE4 i/\v=Value.int i t)\/(∃x t,k=qE5 x/\v=Value.str x t)
 |.inl i,v,h=>by
  obtain⟨t,e⟩:=Value.isInt_shape (k:=i) (v:=v) h;exact .inl ⟨i,t,rfl,e⟩
 |.inr x,v,h=>by
  obtain⟨t,e⟩:=Value.isStrOf_shape (x:=x) (v:=v) h;exact .inr ⟨x,t,rfl,e⟩
theorem zSW(a b:Int):decide ((qE4 a:Key)=qE4 b)=(a==b):=by
 by_cases e:a=b
 ·subst e;simp
 ·have h:¬(qE4 a:Key)=qE4 b:=fun q=>e (Sum.inl.inj q)
  rw[decide_eq_false h];exact(beq_eq_false_iff_ne.mpr e).symm
theorem zST(a b:Str):decide ((qE5 a:Key)=qE5 b)=decide (a=b):=by
 by_cases e:a=b
 ·subst e;simp
 ·have h:¬(qE5 a:Key)=qE5 b:=fun q=>e (Sum.inr.inj q)
  rw[decide_eq_false h,decide_eq_false e]
theorem zSV(a:Int)(b:Str):decide ((qE4 a:Key)=qE5 b)=false:=decide_eq_false (fun q=>nomatch q)
theorem zSU(a:Str)(b:Int):decide ((qE5 a:Key)=qE4 b)=false:=decide_eq_false (fun q=>nomatch q)
def zJB(prog:Program)(w:World):PySem.KeyKind prog w Key where
 is:=zSX
 hash:=keyH w
 inj:=fun v a b ha hb=>by
  rcases zB2 ha with⟨i,t,rfl,rfl⟩|⟨x,t,rfl,rfl⟩
  ·rcases zB2 hb with⟨j,u,rfl,e⟩|⟨y,u,rfl,e⟩
   ·injection e with e1 _;rw[e1]
   ·exact nomatch e
  ·rcases zB2 hb with⟨j,u,rfl,e⟩|⟨y,u,rfl,e⟩
   ·exact nomatch e
   ·injection e with e1 _;rw[e1]
 byValue:=fun k v h=>by
  rcases zB2 h with⟨i,t,rfl,rfl⟩|⟨x,t,rfl,rfl⟩<;>rfl
 pyHash:=fun hv h=>by
  rcases zB2 hv with⟨i,t,rfl,rfl⟩|⟨x,t,rfl,rfl⟩
  ·exact wpAny_pyHash_int h
  ·exact wpAny_pyHash_str h
 eqBool:=fun hu hv h=>by
  rcases zB2 hu with⟨i,t,rfl,rfl⟩|⟨x,t,rfl,rfl⟩
  ·rcases zB2 hv with⟨j,u,rfl,rfl⟩|⟨y,u,rfl,rfl⟩
   ·rw[zSW]at h;exact wpAny_eqBool_int h
   ·rw[zSV]at h;exact SeqAt.EqAt.int_str i t y u _ _ _ _ h
  ·rcases zB2 hv with⟨j,u,rfl,rfl⟩|⟨y,u,rfl,rfl⟩
   ·rw[zSU]at h;exact SeqAt.EqAt.str_int x t j u _ _ _ _ h
   ·rw[zST]at h;exact wpAny_eqBool_str h
 «strs»:=fun k x t v h=>by
  rcases zB2 h with⟨i,u,rfl,e⟩|⟨y,u,rfl,e⟩
  ·exact nomatch e
  ·injection e with e1 _
   subst e1;cases v<;>rfl
inductive V where
 |non|bl (b:Bool)|int (i:Int)|str (x:Str)|byt (b:Array UInt8)|flt (b:UInt64)|ref (a:Addr)|ty (n:String)
 deriving DecidableEq
noncomputable def RelV:V->Value->Prop
 |.non,u=>u=Value.none
 |.bl b,u=>u=Value.bool b
 |.int i,u=>∃t,u=Value.int i t
 |.str x,u=>∃t,u=Value.str x t
 |.byt b,u=>∃t,u=Value.bytes b t
 |.flt b,u=>∃t,u=Value.float b t
 |.ref a,u=>u=Value.ref a
 |.ty n,u=>u=Value.type n
abbrev Vals:List V->List Value->Prop:=Paired RelV
theorem Vals.length{xs:List V}{us:List Value}(r:Vals xs us):xs.length=us.length:=Paired.length r
theorem Vals.get:∀{xs:List V}{us:List Value}{i:Nat}{x:V},Vals xs us->xs[i]?=some x->∃u,us[i]?=some u/\RelV x u
 |_,_,_,_,.nil,e=>by simp at e
 |_,_,0,_,.cons r _,e=>by simp at e;subst e;exact⟨_,rfl,r⟩
 |_,_,i+1,x,.cons _ t,e=>by
  obtain⟨u,h1,h2⟩:=Vals.get (i:=i) (x:=x) t (by simpa using e);exact⟨u,by simpa using h1,h2⟩
theorem Vals.set{x:V}{u:Value}(r:RelV x u):∀{xs:List V}{us:List Value}(i:Nat),Vals xs us->Vals (xs.set i x) (us.set i u)
 |_,_,_,.nil=>.nil
 |_,_,0,.cons _ t=>.cons r t
 |_,_,i+1,.cons q t=>.cons q (Vals.set r i t)
theorem Vals.append:∀{xs ys:List V}{us ws:List Value},Vals xs us->Vals ys ws->Vals (xs++ys) (us++ws)
 |_,_,_,_,.nil,s=>s
 |_,_,_,_,.cons r t,s=>.cons r (Vals.append t s)
theorem Vals.take:∀{xs:List V}{us:List Value}(n:Nat),Vals xs us->Vals (xs.take n) (us.take n)
 |_,_,0,_=>.nil
 |_,_,_+1,.nil=>.nil
 |_,_,n+1,.cons r t=>.cons r (Vals.take n t)
theorem Vals.drop:∀{xs:List V}{us:List Value}(n:Nat),Vals xs us->Vals (xs.drop n) (us.drop n)
 |_,_,0,r=>r
 |_,_,_+1,.nil=>.nil
 |_,_,n+1,.cons _ t=>Vals.drop n t
def RelO:Option V->Option Value->Prop
 |some v,some u=>RelV v u
 |none,none=>True
 |_,_=>False
def KV{κ:Type}:List (κ×V)->List (κ×Value)->Prop:=Paired fun(p:κ×V)(q:κ×Value)=>p.1=q.1/\RelV p.2 q.2
noncomputable def kV:Key->V
 |.inl i=>.int i
 |.inr x=>.str x
inductive HO where
 |lst (xs:List V)
 |tup (xs:List V)
 |dK (kvs:List (Key×V))|dT (kvs:List (List Key×V))
 |set (S:Int->Bool) (n:Nat)
 |ins (C dx:Addr) (fs:List (Str×V))
 |own (x:Addr)
 |xd (fs:List (Str×V))
 |met (f x:Addr)
 |rng (lo hi:Int)
 |frz (o:Obj) (u:HO)
 |tbl (ps:Array Value)
 |lam (q:Str)
 |fn (o:Obj) (q:Str)
 |ext (φ:Heap->Prop)
abbrev Hp:=Addr->Option HO
noncomputable def upd(H:Hp)(a:Addr)(o:HO):Hp:=fun b=>if b=a then some o else H b
theorem zAH{H:Hp}{a:Addr}{o:HO}:upd H a o a=some o:=by unfold upd;rw[if_pos rfl]
theorem zA9{H:Hp}{a b:Addr}{o:HO}(h:b≠a):upd H a o b=H b:=by unfold upd;rw[if_neg h]
theorem zI1{H:Hp}{a b:Addr}{o u:HO}(h:H a=some o)(h':H b=some u)(d:o≠u):a≠b:=by
 intro e;subst e;rw[h]at h';exact d (qAv h')
theorem zAG{H:Hp}{a b:Addr}{o:HO}(h:H a=some o)(h':H b=none):a≠b:=by
 intro e;subst e;rw[h]at h';cases h'
def CodR(o:Obj)(q:Str):Prop:=∃vs t,o.data=.fields vs/\vs[1]?=some (.str q t)
section
variable(P:Program)(w:World)
def ObjOk(H:Hp)(h:Heap)(a:Addr):HO->Prop
 |.lst xs=>xs.length<=sizeLine/\∃(its:List Value)(n:Nat),Vals xs its/\h.get? a=some { cls:=.type "list",data:=.seq its.toArray n }
 |.tup xs=>xs.length<=sizeLine/\∃its:List Value,Vals xs its/\IsTup h a its.toArray
 |.dK kvs=>kvs.length<=sizeLine/\(a==sysModules)=false/\∃vs,KV kvs vs/\h.DictOf (zJB P w) a vs
 |.dT kvs=>kvs.length<=sizeLine/\(a==sysModules)=false/\∃xs:List (List Key×Addr×Value),
   Paired (fun(p:List Key×V)(q:List Key×Addr×Value)=>p.1=q.1/\H q.2.1=some (.tup (p.1.map kV))/\RelV p.2 q.2.2) kvs xs /\
   ∃o es ep,h.get? a=some o/\o.ExactDict/\o.data=.dict es ep/\es.toList=xs.map (entryOfKey (tupleKind (zJB P w)))/\(xs.map (·.1)).Nodup
 |.set S n=>h.SetOf (intKind P w) a S n
 |.ins C dx fs=>H dx=some (.own a)/\fs.length<=1000/\dx≠a/\h.get? a=some (qDd C dx) /\
   ∃mA,h.Ns1 dx mA/\(∀f,RelO (fs.lookup f) (mA f))/\qFl mA (fs.map (·.1))
 |.own _=>∃o,h.get? a=some o
 |.xd fs=>∃mA,h.Ns1 a mA/\∀f,RelO (fs.lookup f) (mA f)
 |.rng lo hi=>∃t u v,h.get? a=some { cls:=.type "range",data:=.fields #[.int lo t,.int hi u,.int 1 v] }
 |.frz o u=>h.get? a=some o/\ObjOk H h a u
 |.tbl ps=>h.get? a=some { cls:=.none,data:=.fields ps }
 |.lam q=>∃ps:Array Value,h.get? a=some { cls:=.none,data:=.fields ps }/\TriplesOk ps.toList/\∀pos cv,codeAmong pos ps.toList=some cv->∃c oc u,cv=.ref c/\H c=some (.frz oc u)/\CodR oc q
 |.fn o q=>h.get? a=some o/\∃fd c oc u,o.data=.func fd/\fd.code=.ref c/\H c=some (.frz oc u)/\CodR oc q
 |.met f x=>h.get? a=some (qCw (.ref f) (.ref x))
 |.ext φ=>φ h/\(∃o,h.get? a=some o)/\∀h1 h2:Heap,φ h1->(∀o,h1.get? a=some o->h2.get? a=some o)->φ h2
def HOk(H:Hp)(h:Heap):Prop:=∀a o,H a=some o->ObjOk P w H h a o
end
section
variable{P:Program}{w:World}{H H':Hp}{h h':Heap}{a:Addr}{o:HO}
theorem ObjOk.lt(x:ObjOk P w H h a o):a<h.objs.size:=by
 cases o with
 |lst xs=>obtain⟨_,_,_,_,e⟩:=x;exact Heap.lt_size e
 |tup xs=>obtain⟨_,_,_,p⟩:=x;exact p.lt
 |dK kvs=>obtain⟨_,_,_,_,o,_,_,e,_⟩:=x;exact Heap.lt_size e
 |dT kvs=>obtain⟨_,_,_,_,o,_,_,e,_⟩:=x;exact Heap.lt_size e
 |set S n=>obtain⟨o,_,_,_,e,_⟩:=x;exact Heap.lt_size e
 |ins C dx fs=>obtain⟨_,_,_,e,_⟩:=x;exact Heap.lt_size e
 |own y=>obtain⟨_,e⟩:=x;exact Heap.lt_size e
 |xd fs=>obtain⟨_,⟨_,_,_,e,_⟩,_⟩:=x;exact Heap.lt_size e
 |rng lo hi=>obtain⟨_,_,_,e⟩:=x;exact Heap.lt_size e
 |frz ob u=>obtain⟨e,_⟩:=x;exact Heap.lt_size e
 |tbl ps=>exact Heap.lt_size (show h.get? a=some _ from x)
 |lam q=>obtain⟨_,e,_⟩:=x;exact Heap.lt_size e
 |fn ob q=>obtain⟨e,_⟩:=x;exact Heap.lt_size e
 |met f y=>exact Heap.lt_size (show h.get? a=some _ from x)
 |ext φ=>obtain⟨_,⟨_,e⟩,_⟩:=x;exact Heap.lt_size e
theorem Paired.mapP{α β:Type}{F G:α->β->Prop}:∀{l₁:List α}{l₂:List β},Paired F l₁ l₂->(∀a b,F a b->G a b)->Paired G l₁ l₂
 |_,_,.nil,_=>.nil
 |_,_,.cons r t,f=>.cons (f _ _ r) (Paired.mapP t f)
theorem ObjOk.stay(x:ObjOk P w H h a o)(k:∀b u,(b=a\/H b=some (.own a))->h.get? b=some u->h'.get? b=some u)
  (ho:∀b,H b=some (.own a)->H' b=some (.own a)) (ht:∀b xs,H b=some (.tup xs)->H' b=some (.tup xs)) (hf:∀b o u,H b=some (.frz o u)->(∃vs,o.data=.fields vs)->H' b=some (.frz o u)):ObjOk P w H' h' a o:=by
 induction o with
 |lst xs=>obtain⟨z,its,n,r,e⟩:=x;exact⟨z,its,n,r,k _ _ (.inl rfl) e⟩
 |tup xs=>obtain⟨z,its,r,ob,e,c⟩:=x;exact⟨z,its,r,ob,k _ _ (.inl rfl) e,c⟩
 |dK kvs=>obtain⟨z,y,vs,r,ob,es,ep,e,c⟩:=x;exact⟨z,y,vs,r,ob,es,ep,k _ _ (.inl rfl) e,c⟩
 |dT kvs=>
  obtain⟨z,y,xs,r,ob,es,ep,e,c⟩:=x;exact⟨z,y,xs,Paired.mapP r fun p q z=>⟨z.1,ht _ _ z.2.1,z.2.2⟩,ob,es,ep,k _ _ (.inl rfl) e,c⟩
 |set S n=>obtain⟨ob,es,ep,t,e,c⟩:=x;exact⟨ob,es,ep,t,k _ _ (.inl rfl) e,c⟩
 |ins C dx fs=>
  obtain⟨d,z,ne,e,mA,⟨od,es,ep,e2,c⟩,r⟩:=x;exact⟨ho _ d,z,ne,k _ _ (.inl rfl) e,mA,⟨od,es,ep,k _ _ (.inr d) e2,c⟩,r⟩
 |own y=>obtain⟨ob,e⟩:=x;exact⟨ob,k _ _ (.inl rfl) e⟩
 |xd fs=>obtain⟨mA,⟨od,es,ep,e,c⟩,r⟩:=x;exact⟨mA,⟨od,es,ep,k _ _ (.inl rfl) e,c⟩,r⟩
 |rng lo hi=>obtain⟨t,u,v,e⟩:=x;exact⟨t,u,v,k _ _ (.inl rfl) e⟩
 |frz ob u ih=>obtain⟨e,q⟩:=x;exact⟨k _ _ (.inl rfl) e,ih q⟩
 |tbl ps=>
  have e:h.get? a=some { cls:=.none,data:=.fields ps }:=x;show h'.get? a=some { cls:=.none,data:=.fields ps };exact k a _ (.inl rfl) e
 |lam q=>
  obtain⟨ps,e,t,r⟩:=x;exact⟨ps,k _ _ (.inl rfl) e,t,fun pos cv z=>let⟨c,oc,u,e1,e2,e3⟩:=r pos cv z;⟨c,oc,u,e1,hf _ _ _ e2 (let⟨vs,_,d,_⟩:=e3;⟨vs,d⟩),e3⟩⟩
 |fn ob q=>
  obtain⟨e,fd,c,oc,u,e1,e2,e3,e4⟩:=x;exact⟨k _ _ (.inl rfl) e,fd,c,oc,u,e1,e2,hf _ _ _ e3 (let⟨vs,_,d,_⟩:=e4;⟨vs,d⟩),e4⟩
 |met f y=>
  have e:h.get? a=some (qCw (.ref f) (.ref y)):=x;show h'.get? a=some (qCw (.ref f) (.ref y));exact k a _ (.inl rfl) e
 |ext φ=>obtain⟨p,⟨o,e⟩,st⟩:=x;exact⟨st _ _ p fun o q=>k _ _ (.inl rfl) q,⟨o,k _ _ (.inl rfl) e⟩,st⟩
theorem HOk.lt(x:HOk P w H h)(e:H a=some o):a<h.objs.size:=(x a o e).lt
theorem HOk.fresh(x:HOk P w H h)(e:h.objs.size<=a):H a=none:=by
 cases q:H a with
 |none=>rfl
 |some u=>exact absurd (qA7 (x.lt q) e) (qB9 _)
theorem HOk.kept(x:HOk P w H h)(k:∀b u,h.get? b=some u->h'.get? b=some u):HOk P w H h':=fun a o e=>
 (x a o e).stay (fun b u _ q=>k b u q) (fun _ q=>q) (fun _ _ q=>q) fun _ _ _ q _=>q
theorem HOk.laid(x:HOk P w H h)(k:∀b u,h.get? b=some u->h'.get? b=some u)(hp:h.objs.size<=a)(new:ObjOk P w (upd H a o) h' a o):HOk P w (upd H a o) h':=fun b u e=>by
 have hn:=x.fresh hp
 by_cases hb:b=a
 ·subst hb;rw[zAH]at e;cases e;exact new
 ·rw[zA9 hb]at e;exact(x b u e).stay (fun c v _ q=>k c v q) (fun c q=>by rw[zA9 (zAG q hn)];exact q) (fun c xs q=>by rw[zA9 (zAG q hn)];exact q) fun c _ _ q _=>by rw[zA9 (zAG q hn)];exact q
end
def Rd(H:Hp)(a:Addr)(u:HO):Prop:=H a=some u\/∃o,H a=some (.frz o u)
theorem Rd.ok{P:Program}{w:World}{H:Hp}{h:Heap}{a:Addr}{u:HO}(r:Rd H a u)(x:HOk P w H h):ObjOk P w H h a u:=by
 rcases r with r|⟨o,r⟩
 ·exact x a u r
 ·obtain⟨_,q⟩:=x a _ r;exact q
noncomputable def Mut:Option HO->Prop
 |some (.lst _)=>True
 |some (.dK _)=>True
 |some (.dT _)=>True
 |some (.set _ _)=>True
 |some (.ins _ _ _)=>True
 |some (.ext _)=>True
 |some (.lam _)=>True
 |_=>False
section
variable{P:Program}{w:World}{H:Hp}{h h':Heap}{x e:Addr}{o':HO}
theorem HOk.write(ok:HOk P w H h)(mu:Mut (H x))(he:e=x\/H e=some (.own x))(k:∀b u,b≠e->h.get? b=some u->h'.get? b=some u)(heo:∃u,h'.get? e=some u)
  (new:ObjOk P w (upd H x o') h' x o'):HOk P w (upd H x o') h':=fun b u q=>by
 have nown:∀c y,H c=some (.own y)->c≠x:=fun c y r z=>by subst z;rw[r]at mu;exact mu
 have ntup:∀c xs,H c=some (.tup xs)->c≠x:=fun c xs r z=>by subst z;rw[r]at mu;exact mu
 have nfrz:∀c o v,H c=some (.frz o v)->c≠x:=fun c o v r z=>by subst z;rw[r]at mu;exact mu
 by_cases hb:b=x
 ·subst hb;rw[zAH]at q;cases q;exact new
 ·rw[zA9 hb]at q
  by_cases hbe:b=e
  ·have q':H b=some (.own x):=by
    rcases he with z|z
    ·exact absurd (hbe.trans z) hb
    ·rw[hbe];exact z
   rw[q]at q';cases q';obtain⟨v,hv⟩:=heo;exact⟨v,by rw[hbe];exact hv⟩
  ·refine(ok b u q).stay (fun c v hc r=>k c v ?_ r) (fun c r=>by rw[zA9 (nown c b r)];exact r) (fun c xs r=>by rw[zA9 (ntup c xs r)];exact r) fun c o v r _=>by rw[zA9 (nfrz c o v r)];exact r
   rcases hc with rfl|hc
   ·exact hbe
   ·rintro rfl
    rcases he with z|z
    ·exact nown c b hc z
    ·rw[hc]at z;cases z;exact hb rfl
end
structure Un(fs ex:List Addr)(H H':Hp)(h h':Heap):Prop where
 keep:∀b o,h.get? b=some o->H b=none->b∉fs->b∉ex->h'.get? b=some o
 slot:∀b o,h.get? b=some o->H b=none->b∈fs->b∉ex->∃sl,h'.get? b=some { o with slots:=sl }
 free:∀b o,h.get? b=some o->H b=none->b∉ex->H' b=none
 there:∀b o,h.get? b=some o->b∉ex->∃o',h'.get? b=some o'
 tups:∀b xs,H b=some (.tup xs)->H' b=some (.tup xs)
 frzs:∀b o u,H b=some (.frz o u)->H' b=some (.frz o u)
 tbls:∀b ps,H b=some (.tbl ps)->∃more,H' b=some (.tbl (ps++more))
section
variable{fs fs' ex ex':List Addr}{H H1 H2:Hp}{h h1 h2 h':Heap}{a x e:Addr}{o:HO}
theorem Un.any(u:Un fs ex H H1 h h1){b:Addr}{ob:Obj}(q:h.get? b=some ob)(n:H b=none)(hx:b∉ex):∃sl,h1.get? b=some { ob with slots:=sl }:=by
 by_cases hb:b∈fs
 ·exact u.slot b ob q n hb hx
 ·exact⟨ob.slots,u.keep b ob q n hb hx⟩
theorem Un.kept(k:∀b u,h.get? b=some u->h'.get? b=some u):Un fs ex H H h h':=
 ⟨fun b ob q _ _ _=>k b ob q,fun b ob q _ _ _=>⟨ob.slots,k b ob q⟩,fun _ _ _ n _=>n,fun b ob q _=>⟨ob,k b ob q⟩,fun _ _ q=>q,fun _ _ _ q=>q,fun _ ps q=>⟨#[],by rw[q];simp⟩⟩
theorem Un.refl:Un fs ex H H h h:=Un.kept fun _ _ q=>q
theorem Un.laid(k:∀b u,h.get? b=some u->h'.get? b=some u)(hp:h.objs.size<=a)(hn:H a=none):Un fs ex H (upd H a o) h h' where
 keep:=fun b u q _ _ _=>k b u q
 slot:=fun b u q _ _ _=>⟨u.slots,k b u q⟩
 free:=fun b u q n _=>by rw[zA9 (qAj (qA7 (Heap.lt_size q) hp))];exact n
 there:=fun b u q _=>⟨u,k b u q⟩
 tups:=fun b xs q=>by rw[zA9 (zAG q hn)];exact q
 frzs:=fun b u xs q=>by rw[zA9 (zAG q hn)];exact q
 tbls:=fun b ps q=>⟨#[],by rw[zA9 (zAG q hn),q];simp⟩
theorem Un.write(mu:Mut (H x))(he:e=x\/H e=some (.own x))(k:∀b u,b≠e->h.get? b=some u->h'.get? b=some u)(heo:∃u,h'.get? e=some u):Un fs ex H (upd H x o) h h':=by
 have hx:∀b,H b=none->b≠x:=fun b n z=>by subst z;rw[n]at mu;exact mu
 have hb:∀b,H b=none->b≠e:=fun b n z=>by
  subst z
  rcases he with r|r
  ·exact hx b n r
  ·rw[n]at r;cases r
 have hm:∀b u,H b=some u->¬Mut (some u)->b≠x:=fun b u q nm z=>by subst z;rw[q]at mu;exact nm mu
 refine⟨fun b u q n _ _=>k b u (hb b n) q,fun b u q n _ _=>⟨u.slots,k b u (hb b n) q⟩,fun b u q n _=>by rw[zA9 (hx b n)];exact n,fun b u q _=>?_,
  fun b xs q=>by rw[zA9 (hm b _ q fun z=>z)];exact q,fun b u xs q=>by rw[zA9 (hm b _ q fun z=>z)];exact q,fun b ps q=>⟨#[],by rw[zA9 (hm b _ q fun z=>z),q];simp⟩⟩
 by_cases hbe:b=e
 ·subst hbe;exact heo
 ·exact⟨u,k b u hbe q⟩
end
noncomputable def trk(h:Heap)(H:Hp):List Addr:=(qA9 h.objs.size).filter fun a=>(H a).isSome
def hidT(h:Heap)(H:Hp):Heap:=PySem.W.hideAll h (trk h H)
theorem zMA(h:Heap)(H:Hp):(hidT h H).objs.size=h.objs.size:=PySem.W.hideAll_size _ _
theorem zO2{h:Heap}{H:Hp}{b:Addr}{o:Obj}(e:h.get? b=some o)(n:H b=none):(hidT h H).get? b=some o:=
 PySem.W.hideAll_get _ e fun hm=>by
  have q:(H b).isSome=true:=(qCj.mp hm).2;rw[n]at q;simp at q
theorem zQ4{h:Heap}{H:Hp}{b:Addr}{o:Obj}(e:(hidT h H).get? b=some o):h.get? b=some o/\H b=none:=by
 have e':h.get? b=some o:=PySem.W.of_hideAll (trk h H) e;refine⟨e',?_⟩;cases q:H b with
 |none=>rfl
 |some x=>
  have hm:b∈trk h H:=qCj.mpr ⟨qCs.mpr (Heap.lt_size e'),by simp[q]⟩;have z:(hidT h H).get? b=none:=PySem.W.hideAll_none (trk h H) hm;rw[z]at e;cases e
noncomputable def zQT(g h:Heap)(L:Addr):List (Addr×Obj):=(qA9 h.objs.size).filterMap fun a=>if a=L\/(g.get? a).isSome=true then none else(h.get? a).map fun o=>(a,o)
def rest(g h:Heap)(L d:Addr):List (Addr×Obj):=(zQT g h L).filter fun p=>decide (p.1≠d)
end L2
namespace L2
open PySem PySem.Spec PyProof.Rows
structure Mod(K:qA0)(mg:Str->Option Value)(base:Heap):Prop where
 kin:K.In base
 glob:base.Ns mainGlobals mg
 blt:∃mb,base.Ns builtinsNs mb/\∀x:Str,x ≠ "__name__" -> mb x=bootBuiltins x
 nolimit:base.NoLimit
 bm:∃bm ob,mg "__builtins__" = some (.ref bm)/\bm≠builtinsNs/\base.get? bm=some ob/\ob.cls=.type "module" /\ ob.dict=some builtinsNs/\ob.data=.plain
structure Cx where
 prog:Program
 w:World
 K:qA0
 mg:Str->Option Value
 base:Heap
 A:Around
 N:List Str
 s₀:Shared
 H₀:Hp
 env:Env
 outer:List Env
 stack:List Env
 ex:List Addr
 fn:Str->Bool
 calm:Bool
 pn:List (Addr×Obj)
 xe:Value->Shared->Prop
noncomputable def frs(l:List Env):List Addr:=l.filterMap (·.frame)
abbrev Cx.fs(X:Cx):List Addr:=frs X.outer
def Vis(sc:Scope)(x:Str):Prop:=sc.names.lookup x=some .local\/sc.names.lookup x=some .cell\/sc.names.lookup x=some .free
def Loc(sc:Scope)(x:Str):Prop:=sc.names.lookup x=some .local\/sc.names.lookup x=some .cell
def Look(env:Env)(h:Heap)(m:Str->Option Value)(x:Str)(u:Value):Prop:=
 (env.kindOf x=some .local/\m x=some u)\/((env.kindOf x=some .cell\/env.kindOf x=some .free)/\∃c,env.cells.lookup x=some c/\h.IsCell c (some u))
structure Cx.Ok(X:Cx):Prop where
 mod:Mod X.K X.mg X.base
 kind:X.env.scope.kind=.function
 glob:X.env.globals=mainGlobals
 blt:X.env.builtins=builtinsNs
 above:X.s₀.heap.objs.size<=X.env.locals
 inj:∀x y c,X.env.cells.lookup x=some c->X.env.cells.lookup y=some c->x=y
 has:∀x,(X.env.kindOf x=some .cell\/X.env.kindOf x=some .free)->∃c,X.env.cells.lookup x=some c
 cab:∀x c,X.fn x=true->X.env.cells.lookup x=some c->X.s₀.heap.objs.size<=c
 hd:X.calm=true->X.A.handled=none
 frames:X.A.frames=some X.stack
 stk:X.stack=X.outer\/(X.stack=X.env::X.outer/\X.env.frame=some X.env.locals)
 exf:∀b∈X.ex,b≠X.env.locals/\∀x c,X.env.cells.lookup x=some c->c≠b
 bs:∀b o,X.base.get? b=some o->X.s₀.heap.get? b=some o/\X.H₀ b=none
 bsz:X.base.objs.size<=X.s₀.heap.objs.size
 noex:∀b o,X.base.get? b=some o->b∉X.ex
 exfs:∀b∈X.ex,b∉X.fs
 funs:X.s₀.heap.FunFrames X.base X.outer
 frf:∀b∈X.fs,X.H₀ b=none
structure Inv(X:Cx)(pins:List (Addr×Obj))(σ:List (Option V))(H:Hp)(s:Shared):Prop where
 ok:X.Ok
 os:s.os=X.s₀.os
 bare:AllBare s.gens
 base:Un X.fs X.ex X.H₀ H X.s₀.heap s.heap
 loc:∃m,s.heap.Ns X.env.locals m/\∀(i:Nat)(x:Str)(v:V),X.N[i]?=some x->σ[i]?=some (some v)->Vis X.env.scope x->∃u,RelV v u/\Look X.env s.heap m x u
 cell:∀x c,X.env.cells.lookup x=some c->∃v,s.heap.IsCell c v
 free:H X.env.locals=none
 freeC:∀x c,X.env.cells.lookup x=some c->H c=none
 pin:∀p∈X.pn++pins,s.heap.get? p.1=some p.2/\H p.1=none/\p.1≠X.env.locals/\p.1∉X.fs/\∀v,p.2.data≠.cell v
 hok:HOk X.prog X.w H s.heap
 len:σ.length=X.N.length
section
variable{X:Cx}{pins:List (Addr×Obj)}{σ:List (Option V)}{H H':Hp}{s:Shared}{h':Heap}
theorem Cx.Ok.nofr(ok:X.Ok){b:Addr}{o:Obj}(e:X.base.get? b=some o):b∉X.fs:=fun hb=>by
 have:=(ok.funs.mem hb).1
 rw[e]at this;cases this
theorem Inv.bs(I:Inv X pins σ H s):∀b o,X.base.get? b=some o->s.heap.get? b=some o/\H b=none:=fun b o e=>
 ⟨I.base.keep b o (I.ok.bs b o e).1 (I.ok.bs b o e).2 (I.ok.nofr e) (I.ok.noex b o e),I.base.free b o (I.ok.bs b o e).1 (I.ok.bs b o e).2 (I.ok.noex b o e)⟩
theorem Inv.bk(I:Inv X pins σ H s):∀b o,X.base.get? b=some o->s.heap.get? b=some o:=fun b o e=>(I.bs b o e).1
theorem Inv.mod(I:Inv X pins σ H s):Mod X.K X.mg X.base:=I.ok.mod
theorem Inv.kIn(I:Inv X pins σ H s):X.K.In s.heap:=I.ok.mod.kin.keeps I.bk
theorem Inv.nolimit(I:Inv X pins σ H s):s.heap.NoLimit:=I.ok.mod.nolimit.keeps I.bk
theorem Inv.fr(I:Inv X pins σ H s):∃m,Fr X.base X.env.locals s.heap m:=
 let⟨m,hn,_⟩:=I.loc
 ⟨m,hn,I.bk,qAh I.ok.bsz I.ok.above⟩
theorem Inv.lt(I:Inv X pins σ H s):X.env.locals<s.heap.objs.size:=let⟨_,hn,_⟩:=I.loc;hn.lt
theorem Inv.sz(I:Inv X pins σ H s):X.s₀.heap.objs.size<=s.heap.objs.size:=qAh I.ok.above (qBe I.lt)
theorem Inv.nofs(I:Inv X pins σ H s){a:Addr}(h:s.heap.objs.size<=a):a∉X.fs:=fun hb=>by
 obtain⟨_,o,ho,_⟩:=I.ok.funs.mem hb;exact absurd (qA7 (Heap.lt_size ho) (qAh I.sz h)) (qB9 _)
theorem Inv.cne(I:Inv X pins σ H s):∀x c,X.env.cells.lookup x=some c->c≠X.env.locals:=fun x c e z=>by
 obtain⟨v,o,ho,hd⟩:=I.cell x c e;obtain⟨m,⟨o',es,ep,ho',hd',_⟩,_⟩:=I.loc;rw[z,ho']at ho;cases ho;rw[hd']at hd;cases hd
theorem Inv.funs(I:Inv X pins σ H s):s.heap.FunFrames X.base X.outer:=by
 have all:∀(l:List Env),(∀b∈frs l,b∈X.fs)->X.s₀.heap.FunFrames X.base l->s.heap.FunFrames X.base l:=by
  intro l
  induction l with
  |nil=>intro _ _;trivial
  |cons env r ih=>
   intro hs hl;obtain⟨hk,⟨L,o,hf,hn,ho,hd⟩,hr⟩:=hl;have hL:L∈X.fs:=hs L (by unfold frs;rw[qCk,hf];exact qB7);obtain⟨sl,e⟩:=I.base.slot L o ho (I.ok.frf L hL) hL fun z=>I.ok.exfs L z hL
   exact⟨hk,⟨L,_,hf,hn,e,hd⟩,ih (fun b hb=>hs b (by unfold frs;rw[qCk,hf];exact qAr _ hb)) hr⟩
 exact all X.outer (fun _ hb=>hb) I.ok.funs
theorem Inv.stack(I:Inv X pins σ H s):s.heap.FunFrames X.base X.stack:=by
 rcases I.ok.stk with e|⟨e,hf⟩
 ·rw[e];exact I.funs
 ·rw[e];obtain⟨m,hn,_⟩:=I.loc;refine .cons (by rw[I.ok.kind];decide) hf hn ?_ I.funs;exact Heap.get?_none_of_le (qAh I.ok.bsz I.ok.above)
theorem Inv.stkSub(I:Inv X pins σ H s):∀b∈frs X.stack,b∈X.env.locals::X.fs:=fun b hb=>by
 rcases I.ok.stk with e|⟨e,hf⟩
 ·rw[e]at hb;exact qAr _ hb
 ·rw[e]at hb;unfold frs at hb;rw[qCk,hf]at hb;exact hb
theorem Inv.stkFree(I:Inv X pins σ H s):∀b∈frs X.stack,H b=none:=fun b hb=>by
 rcases qAk.mp (I.stkSub b hb)with e|hb
 ·rw[e];exact I.free
 ·obtain⟨_,o,ho,_⟩:=I.ok.funs.mem hb;exact I.base.free b o ho (I.ok.frf b hb) fun z=>I.ok.exfs b z hb
theorem Inv.step{g':Array GenState}{t':Nat}{d':Drawn}{ch:List Addr}(I:Inv X pins σ H s)
  (hch:∀b∈ch,(b∈X.ex\/X.s₀.heap.objs.size<=b)/\b≠X.env.locals/\(∀x c,X.env.cells.lookup x=some c->c≠b)/\∀p∈X.pn++pins,p.1≠b)
  (keep:∀b o,b≠X.env.locals->b∉X.fs->b∉ch->s.heap.get? b=some o->H b=none->h'.get? b=some o)
  (slot:∀b o,b≠X.env.locals->b∈X.fs->b∉ch->s.heap.get? b=some o->H b=none->∃sl,h'.get? b=some { o with slots:=sl }) (free:∀b o,b∉ch->s.heap.get? b=some o->H b=none->H' b=none)
  (there:∀b o,b∉ch->s.heap.get? b=some o->∃o',h'.get? b=some o')
  (tups:∀b xs,H b=some (.tup xs)->H' b=some (.tup xs)) (frzs:∀b o u,H b=some (.frz o u)->H' b=some (.frz o u)) (tbls:∀b ps,H b=some (.tbl ps)->∃more,H' b=some (.tbl (ps++more)))
  (ns:∀m,s.heap.Ns X.env.locals m->h'.Ns X.env.locals m) (hok:HOk X.prog X.w H' h') (hg:AllBare g') :
  Inv X pins σ H' { s with heap:=h',gens:=g',drawn:=d',toks:=t' }:=by
 have neL:∀b o,X.s₀.heap.get? b=some o->b≠X.env.locals:=fun b o e=>qAj (qA7 (Heap.lt_size e) I.ok.above)
 have neC:∀b o,X.s₀.heap.get? b=some o->b∉X.ex->b∉ch:=fun b o e hx hb=>by
  rcases(hch b hb).1 with z|z
  ·exact hx z
  ·exact absurd (qA7 (Heap.lt_size e) z) (qB9 _)
 have cellK:∀x c,X.env.cells.lookup x=some c->∀v,s.heap.IsCell c v->h'.IsCell c v:=fun x c e v ⟨o,ho,hd⟩=>by
  have nch:c∉ch:=fun z=>(hch c z).2.2.1 x c e rfl
  by_cases hc:c∈X.fs
  ·obtain⟨sl,q⟩:=slot c o (I.cne x c e) hc nch ho (I.freeC x c e);exact⟨_,q,hd⟩
  ·exact⟨o,keep c o (I.cne x c e) hc nch ho (I.freeC x c e),hd⟩
 refine⟨I.ok,I.os,hg,⟨fun b o e n hb hx=>?_,fun b o e n hb hx=>?_,fun b o e n hx=>?_,fun b o e hx=>?_,fun b xs e=>tups b xs (I.base.tups b xs e),fun b o xs e=>frzs b o xs (I.base.frzs b o xs e),fun b ps e=>?_⟩,?_,fun x c e=>?_,?_,fun x c e=>?_,fun p hp=>?_,hok,I.len⟩
 ·exact keep b o (neL b o e) hb (neC b o e hx) (I.base.keep b o e n hb hx) (I.base.free b o e n hx)
 ·obtain⟨sl,e1⟩:=I.base.slot b o e n hb hx;obtain⟨sl',e2⟩:=slot b _ (neL b o e) hb (neC b o e hx) e1 (I.base.free b o e n hx);exact⟨sl',e2⟩
 ·obtain⟨o',e1⟩:=I.base.there b o e hx;exact free b o' (neC b o e hx) e1 (I.base.free b o e n hx)
 ·obtain⟨o',e1⟩:=I.base.there b o e hx;exact there b o' (neC b o e hx) e1
 ·obtain⟨m1,e1⟩:=I.base.tbls b ps e;obtain⟨m2,e2⟩:=tbls b _ e1;exact⟨m1++m2,by rw[e2,Array.append_assoc]⟩
 ·obtain⟨m,hn,hl⟩:=I.loc;refine⟨m,ns m hn,fun i x v e1 e2 e3=>?_⟩;obtain⟨u,r,l⟩:=hl i x v e1 e2 e3;refine⟨u,r,?_⟩
  rcases l with l|⟨k,c,e,z⟩
  ·exact .inl l
  ·exact .inr ⟨k,c,e,cellK x c e _ z⟩
 ·obtain⟨v,z⟩:=I.cell x c e;exact⟨v,cellK x c e v z⟩
 ·obtain⟨m,⟨o,_,_,ho,_⟩,_⟩:=I.loc;exact free _ o (fun z=>(hch _ z).2.1 rfl) ho I.free
 ·obtain⟨v,o,ho,hd⟩:=I.cell x c e;exact free c o (fun z=>(hch c z).2.2.1 x c e rfl) ho (I.freeC x c e)
 ·obtain⟨e,n,ne,nf,d⟩:=I.pin p hp;have nch:p.1∉ch:=fun z=>(hch p.1 z).2.2.2 p hp rfl
  exact⟨keep p.1 p.2 ne nf nch e n,free p.1 p.2 nch e n,ne,nf,d⟩
theorem Inv.un{t':Nat}(I:Inv X pins σ H s)(u:Un X.fs [] H H' s.heap h')(hok:HOk X.prog X.w H' h'):Inv X pins σ H' { s with heap:=h',toks:=t' }:=by
 obtain⟨m,⟨o,es,ep,ho,r⟩,_⟩:=id I.loc;obtain⟨sl,hL⟩:=u.any ho I.free (by simp);exact I.step (g':=s.gens) (d':=s.drawn) (ch:=[]) (fun _ z=>nomatch z) (fun b o _ hb _ e n=>u.keep b o e n hb (by simp)) (fun b o _ hb _ e n=>u.slot b o e n hb (by simp)) (fun b o _ e n=>u.free b o e n (by simp)) (fun b o _ e=>u.there b o e (by simp)) u.tups u.frzs u.tbls (fun m' hm=>by
  obtain⟨o',es',ep',ho',r'⟩:=hm;rw[ho]at ho';cases ho';exact⟨_,es',ep',hL,r'⟩) hok I.bare
theorem Inv.call{g':Array GenState}{t':Nat}{d':Drawn}{ch:List Addr}(I:Inv X pins σ H s)(u:Un (frs X.stack) ch H H' s.heap h')(hok:HOk X.prog X.w H' h')(hg:AllBare g')
  (hch:∀b∈ch,(b∈X.ex\/X.s₀.heap.objs.size<=b)/\b≠X.env.locals/\(∀x c,X.env.cells.lookup x=some c->c≠b)/\∀p∈X.pn++pins,p.1≠b) :
  Inv X pins σ H' { s with heap:=h',gens:=g',drawn:=d',toks:=t' }:=by
 obtain⟨m,⟨o,es,ep,ho,r⟩,_⟩:=id I.loc;obtain⟨sl,hL⟩:=u.any ho I.free fun z=>(hch _ z).2.1 rfl
 exact I.step (ch:=ch) hch (fun b o hL hb hc e n=>u.keep b o e n (fun z=>(qAk.mp (I.stkSub b z)).elim hL hb) hc) (fun b o _ _ hc e n=>u.any e n hc) (fun b o hc e n=>u.free b o e n hc) (fun b o hc e=>u.there b o e hc) u.tups u.frzs u.tbls (fun m' hm=>by
  obtain⟨o',es',ep',ho',r'⟩:=hm;rw[ho]at ho';cases ho';exact⟨_,es',ep',hL,r'⟩) hok hg
theorem Inv.turned{t':Nat}{it:Addr}(I:Inv X pins σ H s)(k:∀b o,b≠it->s.heap.get? b=some o->h'.get? b=some o)(hn:H it=none)(hL:it≠X.env.locals)
  (h1:it∈X.ex\/X.s₀.heap.objs.size<=it) (h2:∀x c,X.env.cells.lookup x=some c->c≠it) (h3:∀p∈X.pn++pins,p.1≠it):Inv X pins σ H { s with heap:=h',toks:=t' }:=by
 have nit:∀b u,H b=some u->b≠it:=fun b u e z=>by rw[z,hn]at e;cases e
 refine I.step (g':=s.gens) (d':=s.drawn) (ch:=[it]) (fun b hb=>?_) (fun b o _ _ hc e _=>k b o (fun z=>hc (by simp[z])) e) (fun b o _ _ hc e _=>⟨o.slots,k b o (fun z=>hc (by simp[z])) e⟩) (fun _ _ _ _ n=>n)
  (fun b o hc e=>⟨o,k b o (fun z=>hc (by simp[z])) e⟩) (fun _ _ e=>e) (fun _ _ _ e=>e) (fun b ps e=>⟨#[],by rw[e];simp⟩) (fun m hm=>?_) (fun b u e=>?_) I.bare
 ·have e:b=it:=by simpa using hb
  subst e;exact⟨h1,hL,h2,h3⟩
 ·obtain⟨o,es,ep,ho,r⟩:=hm;exact⟨o,es,ep,k _ o (qCe hL) ho,r⟩
 ·refine(I.hok b u e).stay (fun c v hc q=>k c v ?_ q) (fun _ q=>q) (fun _ _ q=>q) fun _ _ _ q _=>q
  rcases hc with z|z
  ·rw[z];exact nit b u e
  ·exact nit c _ z
theorem Inv.tok(I:Inv X pins σ H s)(t:Nat):Inv X pins σ H { s with toks:=t }:=I.un (h':=s.heap) (t':=t) Un.refl I.hok
theorem Inv.kept{t':Nat}(I:Inv X pins σ H s)(k:∀b u,s.heap.get? b=some u->h'.get? b=some u):Inv X pins σ H { s with heap:=h',toks:=t' }:=I.un (Un.kept k) (I.hok.kept k)
theorem Inv.laid{a:Addr}{o:HO}{t':Nat}(I:Inv X pins σ H s)(k:∀b u,s.heap.get? b=some u->h'.get? b=some u)(hp:s.heap.objs.size<=a)(new:ObjOk X.prog X.w (upd H a o) h' a o) :
  Inv X pins σ (upd H a o) { s with heap:=h',toks:=t' }:=I.un (Un.laid k hp (I.hok.fresh hp)) (I.hok.laid k hp new)
theorem Inv.write{x e:Addr}{o:HO}{t':Nat}(I:Inv X pins σ H s)(mu:Mut (H x))(he:e=x\/H e=some (.own x))(k:∀b u,b≠e->s.heap.get? b=some u->h'.get? b=some u)(heo:∃u,h'.get? e=some u)
  (new:ObjOk X.prog X.w (upd H x o) h' x o):Inv X pins σ (upd H x o) { s with heap:=h',toks:=t' }:=I.un (Un.write mu he k heo) (I.hok.write mu he k heo new)
theorem Inv.weak{σ':List (Option V)}(I:Inv X pins σ H s)(hl:σ'.length=σ.length)(w:∀(i:Nat) v,σ'[i]?=some (some v)->σ[i]?=some (some v)):Inv X pins σ' H s:=
 ⟨I.ok,I.os,I.bare,I.base,let⟨m,hn,hl'⟩:=I.loc;⟨m,hn,fun i x v e1 e2 e3=>hl' i x v e1 (w i v e2) e3⟩,I.cell,I.free,I.freeC,I.pin,I.hok,hl.trans I.len⟩
theorem Inv.pins_of{pins':List (Addr×Obj)}(I:Inv X pins σ H s)(h:∀p∈pins',s.heap.get? p.1=some p.2/\H p.1=none/\p.1≠X.env.locals/\p.1∉X.fs/\∀v,p.2.data≠.cell v):Inv X pins' σ H s:=
 ⟨I.ok,I.os,I.bare,I.base,I.loc,I.cell,I.free,I.freeC,fun p hp=>(qBm.mp hp).elim (fun z=>I.pin p (qCh _ z)) (h p),I.hok,I.len⟩
theorem zGX{N:List Str}(hN:N.Nodup){i j:Nat}{x:Str}(a:N[i]?=some x)(b:N[j]?=some x):i=j:=by
 obtain⟨h1,e1⟩:=qA2.mp a;obtain⟨h2,e2⟩:=qA2.mp b;exact(List.getElem_inj hN).mp (e1.trans e2.symm)
theorem zHM{M:Model}{A:Around}{E:Value->Shared->Prop}{i:Nat}{x:Str}{v:V}{u:Value}{Q:Unit->Shared->Prop}(I:Inv X pins σ H s)(hN:X.N.Nodup)(hi:X.N[i]?=some x)(hx:Loc X.env.scope x)(r:RelV v u)
  (h:∀s',Inv X pins (σ.set i (some v)) H s'->(∃a,Heap.SameBut a s.heap s'.heap/\(a=X.env.locals\/X.env.cells.lookup x=some a))->Q () s') (hf:X.fn x=true\/X.env.scope.names.lookup x=some .local:=by first|exact .inl rfl|exact .inr rfl|assumption):wpAny M A (storeName X.env x u) Q E s:=by
 obtain⟨m,hn,hl⟩:=id I.loc;have hcls:(X.env.scope.kind==.class||(X.env.scope.kind==.module&&X.env.locals != X.env.globals))=false:=by rw[I.ok.kind];rfl
 have hiσ:i<σ.length:=by rw[I.len];exact(qA2.mp hi).1
 have cne:=I.cne;have tracked:∀{a:Addr}{h':Heap},(∃o,s.heap.get? a=some o/\H a=none)->Heap.SameBut a s.heap h'->HOk X.prog X.w H h':=fun{a h'} ha hs b ob e=>by
  obtain⟨_,_,hfree⟩:=ha;refine(I.hok b ob e).stay (fun c w' hc q=>(hs.2 c ?_).trans q) (fun _ q=>q) (fun _ _ q=>q) fun _ _ _ q _=>q
  rintro rfl
  rcases hc with rfl|hc
  ·rw[hfree]at e;cases e
  ·rw[hfree]at hc;cases hc
 rcases hx with hk|hk
 ·refine wpAny_storeName_local hk hn (fun h' hn' hs=>?_) hcls;obtain⟨oL,_,_,hoL,_⟩:=id hn;refine h _ ⟨I.ok,I.os,I.bare,⟨fun b o e n hb hx=>?_,fun b o e n hb hx=>?_,I.base.free,fun b o e hx=>?_,I.base.tups,I.base.frzs,I.base.tbls⟩,⟨_,hn',fun j y v' e1 e2 e3=>?_⟩,fun y c e=>?_,I.free,I.freeC,fun p hp=>?_,tracked ⟨oL,hoL,I.free⟩ hs,by simpa using I.len⟩ ⟨_,hs,.inl rfl⟩
  ·exact(hs.2 b (qAj (qA7 (Heap.lt_size e) I.ok.above))).trans (I.base.keep b o e n hb hx)
  ·obtain⟨sl,e1⟩:=I.base.slot b o e n hb hx;exact⟨sl,(hs.2 b (qAj (qA7 (Heap.lt_size e) I.ok.above))).trans e1⟩
  ·obtain⟨o',e1⟩:=I.base.there b o e hx;exact⟨o',(hs.2 b (qAj (qA7 (Heap.lt_size e) I.ok.above))).trans e1⟩
  ·by_cases hj:j=i
   ·subst hj;rw[hi]at e1;cases e1;rw[qAc hiσ]at e2;cases e2;exact⟨u,r,.inl ⟨hk,by simp⟩⟩
   ·rw[qAd (qCe hj)]at e2;obtain⟨u',r',q⟩:=hl j y v' e1 e2 e3;refine⟨u',r',?_⟩
    rcases q with⟨k,e⟩|⟨k,c,e,z⟩
    ·refine .inl ⟨k,?_⟩
     have:y≠x:=fun e=>hj (zGX hN e1 (e▸hi))
     simp[this,e]
    ·exact .inr ⟨k,c,e,z.sameBut hs (cne y c e)⟩
  ·obtain⟨w',z⟩:=I.cell y c e;exact⟨w',z.sameBut hs (cne y c e)⟩
  ·obtain⟨e,n,ne,nf,d⟩:=I.pin p hp;exact⟨(hs.2 p.1 ne).trans e,n,ne,nf,d⟩
 ·have hfn:X.fn x=true:=by
   rcases hf with z|z
   ·exact z
   ·rw[z]at hk;cases hk
  obtain⟨c,hc⟩:=I.ok.has x (.inl hk);obtain⟨w',z⟩:=I.cell x c hc;refine wpAny_storeName_cell I.ok.kind hk hc z (fun h' hc' hs=>?_);obtain⟨oc,hoc,hocd⟩:=id z;refine h { s with heap:=h' } ⟨I.ok,I.os,I.bare,⟨fun b o e n hb hx=>?_,fun b o e n hb hx=>?_,I.base.free,fun b o e hx=>?_,I.base.tups,I.base.frzs,I.base.tbls⟩,⟨m,hn.sameBut hs (qCe (cne x c hc)),fun j y v' e1 e2 e3=>?_⟩,fun y c' e=>?_,I.free,I.freeC,fun p hp=>?_,tracked ⟨oc,hoc,I.freeC x c hc⟩ hs,by simpa using I.len⟩ ⟨c,hs,.inr hc⟩
  ·exact(hs.2 b (qAj (qA7 (Heap.lt_size e) (I.ok.cab x c hfn hc)))).trans (I.base.keep b o e n hb hx)
  ·obtain⟨sl,e1⟩:=I.base.slot b o e n hb hx;exact⟨sl,(hs.2 b (qAj (qA7 (Heap.lt_size e) (I.ok.cab x c hfn hc)))).trans e1⟩
  ·obtain⟨o',e1⟩:=I.base.there b o e hx;exact⟨o',(hs.2 b (qAj (qA7 (Heap.lt_size e) (I.ok.cab x c hfn hc)))).trans e1⟩
  ·by_cases hj:j=i
   ·subst hj;rw[hi]at e1;cases e1;rw[qAc hiσ]at e2;cases e2;exact⟨u,r,.inr ⟨.inl hk,c,hc,hc'⟩⟩
   ·rw[qAd (qCe hj)]at e2;obtain⟨u',r',q⟩:=hl j y v' e1 e2 e3;refine⟨u',r',?_⟩
    rcases q with q|⟨k,c',e,z'⟩
    ·exact .inl q
    ·refine .inr ⟨k,c',e,z'.sameBut hs ?_⟩
     rintro rfl
     exact hj (zGX hN e1 (I.ok.inj _ _ _ e hc▸hi))
  ·by_cases hcc:c'=c
   ·subst hcc;exact⟨_,hc'⟩
   ·obtain⟨w2,z2⟩:=I.cell y c' e;exact⟨w2,z2.sameBut hs hcc⟩
  ·obtain⟨e,n,ne,nf,d⟩:=I.pin p hp;refine⟨(hs.2 p.1 ?_).trans e,n,ne,nf,d⟩;intro q;rw[q,hoc]at e;have q':oc=p.2:=qAv e;exact d w' (by rw[<- q'];exact hocd)
theorem zGN{M:Model}{A:Around}{E:Value->Shared->Prop}{i:Nat}{x:Str}{v:V}{u:Value}{Q:Unit->Shared->Prop}(I:Inv X pins σ H s)(hN:X.N.Nodup)(hi:X.N[i]?=some x)(hx:Loc X.env.scope x)(r:RelV v u)
  (h:∀s',Inv X pins (σ.set i (some v)) H s'->Q () s') (hf:X.fn x=true\/X.env.scope.names.lookup x=some .local:=by first|exact .inl rfl|exact .inr rfl|assumption):wpAny M A (storeName X.env x u) Q E s:=
 zHM I hN hi hx r (fun s' I' _=>h s' I') hf
theorem Inv.call'{s':Shared}{ch:List Addr}(I:Inv X pins σ H s)(ho:s'.os=s.os)(u:Un (frs X.stack) ch H H' s.heap s'.heap)(hok:HOk X.prog X.w H' s'.heap)(hg:AllBare s'.gens)
  (hch:∀b∈ch,(b∈X.ex\/X.s₀.heap.objs.size<=b)/\b≠X.env.locals/\(∀x c,X.env.cells.lookup x=some c->c≠b)/\∀p∈X.pn++pins,p.1≠b):Inv X pins σ H' s':=by
 obtain⟨h',g',d',t',o'⟩:=s';have e:o'=s.os:=ho;subst e;exact I.call (g':=g') (t':=t') (d':=d') u hok hg hch
end
abbrev XK:=Value->Option Addr->Hp->Prop
abbrev St:=List (Option V)
abbrev VK:=V->Hp->Prop
abbrev TE:=St->Hp->VK->Prop
abbrev TT:=St->Hp->(Bool->Hp->Prop)->Prop
abbrev TA:=St->Hp->(List V->Hp->Prop)->Prop
structure Ends where
 nx:St->Hp->Prop
 rt:VK
 bk:St->Hp->Prop:=fun _ _=>False
 ct:St->Hp->Prop:=fun _ _=>False
abbrev TS:=Ends->St->Hp->Prop
def EP(X:Cx)(pins:List (Addr×Obj))(σ:St)(Q:VK)(u:Value)(s':Shared):Prop:=∃v H',Inv X pins σ H' s'/\RelV v u/\Q v H'
def TP(X:Cx)(pins:List (Addr×Obj))(σ:St)(Q:Bool->Hp->Prop)(b:Bool)(s':Shared):Prop:=∃H',Inv X pins σ H' s'/\Q b H'
def AP(X:Cx)(pins:List (Addr×Obj))(σ:St)(Q:List V->Hp->Prop)(us:List Value)(s':Shared):Prop:=∃vs H',Inv X pins σ H' s'/\Vals vs us/\Q vs H'
def SP(X:Cx)(pins:List (Addr×Obj))(D:Ends)(f:Flow)(s':Shared):Prop:=
 match f with
 |.next=>∃σ' H',Inv X pins σ' H' s'/\D.nx σ' H'
 |.brk=>∃σ' H',Inv X pins σ' H' s'/\D.bk σ' H'
 |.cont=>∃σ' H',Inv X pins σ' H' s'/\D.ct σ' H'
 |.ret u=>∃v σ' H',Inv X pins σ' H' s'/\RelV v u/\D.rt v H'
def PE(X:Cx)(e:Expr)(t:TE):Prop:=
 ∀(pins:List (Addr×Obj))(s:Shared)(σ:St)(H:Hp)(Q:VK),Inv X pins σ H s->t σ H Q->wpAny (model X.prog X.w) X.A (eval e X.env) (EP X pins σ Q) X.xe s
def PT(X:Cx)(e:Expr)(t:TT):Prop:=
 ∀(pins:List (Addr×Obj))(s:Shared)(σ:St)(H:Hp)(Q:Bool->Hp->Prop),Inv X pins σ H s->t σ H Q->wpAny (model X.prog X.w) X.A (isTrue e X.env (eval e X.env)) (TP X pins σ Q) X.xe s
def PW(X:Cx)(e:Expr)(t:TT):Prop:=
 ∀(whole:Sem Value)(pins:List (Addr×Obj))(s:Shared)(σ:St)(H:Hp)(Q:Bool->Hp->Prop),Inv X pins σ H s->t σ H Q->wpAny (model X.prog X.w) X.A (isTrue e X.env whole) (TP X pins σ Q) X.xe s
theorem PW.pt{X:Cx}{e:Expr}{t:TT}(h:PW X e t):PT X e t:=h _
def PA(X:Cx)(es:List Expr)(t:TA):Prop:=
 ∀(pos:Pos)(pins:List (Addr×Obj))(s:Shared)(σ:St)(H:Hp)(Q:List V->Hp->Prop),Inv X pins σ H s->t σ H Q->wpAny (model X.prog X.w) X.A (spliced (backTo pos (starEach es X.env))) (AP X pins σ Q) X.xe s
def PS(X:Cx)(st:Stmt)(t:TS):Prop:=
 ∀(pins:List (Addr×Obj))(s:Shared)(σ:St)(H:Hp)(D:Ends),Inv X pins σ H s->t D σ H->wpAny (model X.prog X.w) X.A (exec st X.env) (SP X pins D) X.xe s
def PSs(X:Cx)(st:List Stmt)(t:TS):Prop:=
 ∀(pins:List (Addr×Obj))(s:Shared)(σ:St)(H:Hp)(D:Ends),Inv X pins σ H s->t D σ H->wpAny (model X.prog X.w) X.A (execs st X.env) (SP X pins D) X.xe s
theorem thn{α:Type}{t:Sem α}{Q Q':α->Shared->Prop}{M:Model}{A:Around}{E:Value->Shared->Prop}{s:Shared}(h:wpAny M A t Q E s)(hQ:∀a s,Q a s->Q' a s):wpAny M A t Q' E s:=wpAny_mono h hQ fun _ _ x=>x
end L2
namespace L2
open PySem PySem.Spec PyProof.Rows
section
variable{X:Cx}
noncomputable def tVar(i:Nat):TE:=fun σ H Q=>∃v,σ[i]?=some (some v)/\Q v H
noncomputable def tC(v:V):TE:=fun _ H Q=>Q v H
theorem zLJ{i:Nat}{x:Str}{pos:Pos}(hN:X.N[i]?=some x)(hv:Vis X.env.scope x)(hd:(x==("__debug__":Str))=false:=by decide)(hcd:(x==("__classdict__":Str))=false:=by decide):PE X (.Name x pos) (tVar i):=by
 intro pins s σ H Q I h;obtain⟨v,e,h⟩:=h;obtain⟨m,hn,hl⟩:=I.loc;obtain⟨u,r,l⟩:=hl i x v hN e hv;have fin:EP X pins σ Q u s:=⟨v,H,I,r,h⟩
 rcases l with⟨hk,hm⟩|⟨hk,c,hc,hcell⟩
 ·exact wpAny_Name (wpAny_loadName_local I.ok.kind hk hn hm fin) hd
 ·rcases hk with hk|hk
  ·exact wpAny_Name (wpAny_loadName_cell I.ok.kind hk hc hcell fin) hd
  ·exact wpAny_Name (wpAny_loadName_free I.ok.kind hk hc hcell fin hcd) hd
theorem zAA{i j pos}:PE X (.Constant (.int i) j pos) (tC (.int i)):=fun _ _ _ H _ I h=>wpAny_Constant_int ⟨.int i,H,I.tok _,⟨_,rfl⟩,h⟩
theorem zGR{b j pos}:PE X (.Constant (.bool b) j pos) (tC (.bl b)):=fun _ _ _ H _ I h=>Constant_bool ⟨.bl b,H,I,rfl,h⟩
theorem zLK{j pos}:PE X (.Constant .none j pos) (tC .non):=fun _ _ _ H _ I h=>Constant_none ⟨.non,H,I,rfl,h⟩
theorem zOT{x j pos}:PE X (.Constant (.str x) j pos) (tC (.str x)):=fun _ _ _ H _ I h=>Calls.Constant_str ⟨.str x,H,I.tok _,⟨_,rfl⟩,h⟩
def Gl(X:Cx)(x:Str):Prop:=X.env.kindOf x=some .globalImplicit
theorem zEC{E:Value->Shared->Prop}{pins:List (Addr×Obj)}{s:Shared}{σ:St}{H:Hp}{x:Str}{u:Value}{pos:Pos}{Q:Value->Shared->Prop}(I:Inv X pins σ H s)(hg:Gl X x)(hm:X.mg x=some u)(h:Q u s)
  (hd:(x==("__debug__":Str))=false:=by decide):wpAny (model X.prog X.w) X.A (eval (.Name x pos) X.env) Q E s:=
 Calls.Name_function_global I.ok.kind hg (Calls.loadGlobal_global (by rw[I.ok.glob];exact I.mod.glob.keeps I.bk) hm h) hd
theorem zGD{E:Value->Shared->Prop}{pins:List (Addr×Obj)}{s:Shared}{σ:St}{H:Hp}{x:Str}{u:Value}{pos:Pos}{Q:Value->Shared->Prop}(I:Inv X pins σ H s)(hg:Gl X x)(hm:X.mg x=none)(hv:bootBuiltins x=some u)(h:Q u s)
  (hn:x ≠ "__name__":=by decide) (hd:(x==("__debug__":Str))=false:=by decide):wpAny (model X.prog X.w) X.A (eval (.Name x pos) X.env) Q E s:=by
 obtain⟨mb,h1,h2⟩:=I.mod.blt;exact Calls.Name_function_global I.ok.kind hg (Calls.loadGlobal_builtin (by rw[I.ok.glob];exact I.mod.glob.keeps I.bk) hm (by rw[I.ok.blt];exact h1.keeps I.bk) ((h2 x hn).trans hv) h) hd
theorem zDK{x:Str}{v:V}{u:Value}{pos:Pos}(hg:Gl X x)(hm:X.mg x=none)(hv:bootBuiltins x=some u)(r:RelV v u)(hn:x ≠ "__name__":=by decide)(hd:(x==("__debug__":Str))=false:=by decide):PE X (.Name x pos) (tC v):=
 fun _ _ _ H _ I h=>zGD I hg hm hv ⟨v,H,I,r,h⟩ hn hd
variable{a b:Expr}{ta tb:TE}{pos:Pos}
noncomputable def tB(t:TE):TT:=fun σ H Q=>t σ H fun x H1=>∃c,x=.bl c/\Q c H1
variable{tA tB':TT}{rest:List Expr}
noncomputable def tAnd(t u:TT):TT:=fun σ H Q=>t σ H fun c H1=>if c=true then u σ H1 Q else Q false H1
noncomputable def tOr(t u:TT):TT:=fun σ H Q=>t σ H fun c H1=>if c=true then Q true H1 else u σ H1 Q
noncomputable def tNot(t:TT):TT:=fun σ H Q=>t σ H fun c H1=>Q (!c) H1
theorem zFB(ha:PT X a tA):PW X (.BoolOp .And [a] pos) tA:=by
 intro wh pins s σ H Q I h;refine isTrue_and (thn (ha pins s σ H Q I h) fun c s1 e=>?_);cases c with
 |true=>exact isTrue_and_nil e
 |false=>exact e
theorem zG7(ha:PT X a tA):PW X (.BoolOp .Or [a] pos) tA:=by
 intro wh pins s σ H Q I h;refine isTrue_or (thn (ha pins s σ H Q I h) fun c s1 e=>?_);cases c with
 |false=>exact isTrue_or_nil e
 |true=>exact e
theorem zDW(ha:PT X a tA)(hb:PW X (.BoolOp .And (b::rest) pos) tB'):PW X (.BoolOp .And (a::b::rest) pos) (tAnd tA tB'):=by
 intro wh pins s σ H Q I h;refine isTrue_and (thn (ha pins s σ H _ I h) fun c s1 z0=>?_);obtain⟨H1,I1,q1⟩:=z0;cases c with
 |true=>exact hb wh pins s1 σ H1 Q I1 q1
 |false=>exact⟨H1,I1,q1⟩
theorem zHW(ha:PT X a tA)(hb:PW X (.BoolOp .Or (b::rest) pos) tB'):PW X (.BoolOp .Or (a::b::rest) pos) (tOr tA tB'):=by
 intro wh pins s σ H Q I h;refine isTrue_or (thn (ha pins s σ H _ I h) fun c s1 z0=>?_);obtain⟨H1,I1,q1⟩:=z0;cases c with
 |true=>exact⟨H1,I1,q1⟩
 |false=>exact hb wh pins s1 σ H1 Q I1 q1
theorem zFC(ha:PT X a tA):PT X (.UnaryOp .Not a pos) (tNot tA):=by
 intro pins s σ H Q I h;exact isTrue_not (ha pins s σ H (fun c H1=>Q (!c) H1) I h)
theorem zG9{op}{t:TE}(h:PE X a t):PE X (.BoolOp op [a] pos) t:=fun pins s σ H Q I hw=>BoolOp_one (h pins s σ H Q I hw)
noncomputable def tIf(t:TT)(ta tb:TE):TE:=fun σ H Q=>t σ H fun c H1=>if c=true then ta σ H1 Q else tb σ H1 Q
theorem zNO{c:Expr}(hc:PT X c tA)(ha:PE X a ta)(hb:PE X b tb):PE X (.IfExp c a b pos) (tIf tA ta tb):=by
 intro pins s σ H Q I h;refine wpAny_IfExp (thn (hc pins s σ H _ I h) fun d s1 z0=>?_);obtain⟨H1,I1,q1⟩:=z0;cases d with
 |true=>exact ha pins s1 σ H1 Q I1 q1
 |false=>exact hb pins s1 σ H1 Q I1 q1
end
end L2
namespace L2
open PySem PySem.Spec PyProof.Rows
def SqL(K:qA0)(H:Hp)(a:Addr)(xs:List V):Prop:=
 Rd H a (.lst xs) \/
  ∃(o:Obj)(its:Array Value)(n:Nat),K.lookup a=some o/\o.cls=.type "list" /\ o.dict=none/\o.data=.seq its n/\its.size<=sizeLine/\Vals xs its.toList
def SqT(K:qA0)(H:Hp)(a:Addr)(xs:List V):Prop:=
 Rd H a (.tup xs) \/
  ∃(o:Obj)(its:Array Value)(n:Nat),K.lookup a=some o/\o.cls=.type "tuple" /\ o.data=.seq its n/\its.size<=sizeLine/\Vals xs its.toList
noncomputable def absV:Value->Option V
 |.none=>some .non
 |.bool b=>some (.bl b)
 |.int i _=>some (.int i)
 |.str x _=>some (.str x)
 |.bytes b _=>some (.byt b)
 |.float b _=>some (.flt b)
 |.ref a=>some (.ref a)
 |.type n=>some (.ty n)
 |_=>none
theorem RelV.abs{x:V}{u:Value}(r:RelV x u):absV u=some x:=by
 cases x with
 |non=>cases r;rfl
 |bl _=>cases r;rfl
 |int _=>obtain⟨t,rfl⟩:=r;rfl
 |str _=>obtain⟨t,rfl⟩:=r;rfl
 |byt _=>obtain⟨t,rfl⟩:=r;rfl
 |flt _=>obtain⟨t,rfl⟩:=r;rfl
 |ref _=>cases r;rfl
 |ty _=>cases r;rfl
theorem RelV.inj{x y:V}{u:Value}(r:RelV x u)(q:RelV y u):x=y:=qAv (r.abs.symm.trans q.abs)
theorem Vals.inj:∀{xs ys:List V}{us:List Value},Vals xs us->Vals ys us->xs=ys
 |_,_,_,.nil,.nil=>rfl
 |_,_,_,.cons r t,.cons r' t'=>by rw[r.inj r',Vals.inj t t']
section
variable{X:Cx}{pins:List (Addr×Obj)}{σ:St}{H:Hp}{s:Shared}{a:Addr}{xs ys:List V}
theorem SqL.of{K:qA0}(h:H a=some (.lst xs)):SqL K H a xs:=.inl (.inl h)
theorem SqT.of{K:qA0}(h:H a=some (.tup xs)):SqT K H a xs:=.inl (.inl h)
theorem Inv.list(I:Inv X pins σ H s)(h:SqL X.K H a xs):∃its:List Value,Vals xs its/\PlainL s.heap a its.toArray/\xs.length<=sizeLine:=by
 rcases h with h|⟨o,its,n,hk,hc,hd,hs,hz,r⟩
 ·obtain⟨z,its,n,r,e⟩:=h.ok I.hok;exact⟨its,r,⟨_,n,e,rfl,rfl,rfl⟩,z⟩
 ·refine⟨its.toList,r,⟨o,n,I.kIn a o hk,hc,hd,by simpa using hs⟩,?_⟩;have e:=r.length;simp only[qBy]at e
  lia
theorem Inv.tuple(I:Inv X pins σ H s)(h:SqT X.K H a xs):∃its:List Value,Vals xs its/\IsTup s.heap a its.toArray/\xs.length<=sizeLine:=by
 rcases h with h|⟨o,its,n,hk,hc,hs,hz,r⟩
 ·obtain⟨z,its,r,p⟩:=h.ok I.hok;exact⟨its,r,p,z⟩
 ·refine⟨its.toList,r,⟨o,I.kIn a o hk,hc,n,by simpa using hs⟩,?_⟩;have e:=r.length;simp only[qBy]at e
  lia
theorem Inv.list_inj(I:Inv X pins σ H s)(h:SqL X.K H a xs)(h':SqL X.K H a ys):xs=ys:=by
 obtain⟨its,r,⟨o,n,e,_,_,d⟩,_⟩:=I.list h;obtain⟨its',r',⟨o',n',e',_,_,d'⟩,_⟩:=I.list h';rw[e]at e';cases e';rw[d]at d'
 injection d' with d1 _
 have:its=its':=by simpa using congrArg qFm d1
 subst this;exact r.inj r'
theorem Inv.tuple_inj(I:Inv X pins σ H s)(h:SqT X.K H a xs)(h':SqT X.K H a ys):xs=ys:=by
 obtain⟨its,r,⟨o,e,_,n,d⟩,_⟩:=I.tuple h;obtain⟨its',r',⟨o',e',_,n',d'⟩,_⟩:=I.tuple h';rw[e]at e';cases e';rw[d]at d'
 injection d' with d1 _
 have:its=its':=by simpa using congrArg qFm d1
 subst this;exact r.inj r'
end
abbrev Cx.wish(X:Cx)(E:Value->Shared->Prop):Cx:={ X with xe:=E }
abbrev Cx.nox(X:Cx):Cx:=X.wish fun _ _=>False
theorem Cx.Ok.wish{X:Cx}(ok:X.Ok)(E:Value->Shared->Prop):(X.wish E).Ok:=
 ⟨ok.mod,ok.kind,ok.glob,ok.blt,ok.above,ok.inj,ok.has,ok.cab,ok.hd,ok.frames,ok.stk,ok.exf,ok.bs,ok.bsz,ok.noex,ok.exfs,ok.funs,ok.frf⟩
theorem Cx.Ok.unwish{X:Cx}{E:Value->Shared->Prop}(ok:(X.wish E).Ok):X.Ok:=
 ⟨ok.mod,ok.kind,ok.glob,ok.blt,ok.above,ok.inj,ok.has,ok.cab,ok.hd,ok.frames,ok.stk,ok.exf,ok.bs,ok.bsz,ok.noex,ok.exfs,ok.funs,ok.frf⟩
section
variable{X:Cx}{pins:List (Addr×Obj)}{σ:St}{H:Hp}{s:Shared}{E:Value->Shared->Prop}
theorem Inv.wish(I:Inv X pins σ H s)(E:Value->Shared->Prop):Inv (X.wish E) pins σ H s:=⟨I.ok.wish E,I.os,I.bare,I.base,I.loc,I.cell,I.free,I.freeC,I.pin,I.hok,I.len⟩
theorem Inv.unwish(I:Inv (X.wish E) pins σ H s):Inv X pins σ H s:=⟨I.ok.unwish,I.os,I.bare,I.base,I.loc,I.cell,I.free,I.freeC,I.pin,I.hok,I.len⟩
theorem SP.unwish{D:Ends}{f:Flow}{s':Shared}(h:SP (X.wish E) pins D f s'):SP X pins D f s':=by
 cases f with
 |next=>obtain⟨σ',H',I,q⟩:=h;exact⟨σ',H',I.unwish,q⟩
 |brk=>obtain⟨σ',H',I,q⟩:=h;exact⟨σ',H',I.unwish,q⟩
 |cont=>obtain⟨σ',H',I,q⟩:=h;exact⟨σ',H',I.unwish,q⟩
 |ret u=>obtain⟨v,σ',H',I,r,q⟩:=h;exact⟨v,σ',H',I.unwish,r,q⟩
theorem PSs.nox{st:List Stmt}{t:TS}(h:PSs X.nox st t):PSs X st t:=fun pins s σ H D I hw=>
 wpAny_mono (h pins s σ H D (I.wish _) hw) (fun _ _ q=>q.unwish) fun _ _ z=>qA3 z
end
section
variable{X:Cx}{st:Stmt}{rest:List Stmt}{t u:TS}{e:Expr}{te:TE}{pos:Pos}
noncomputable def zR8:TS:=fun D σ H=>D.nx σ H
noncomputable def tSeq(t u:TS):TS:=fun D σ H=>t { D with nx:=u D } σ H
theorem zBC:PSs X [] zR8:=fun _ _ σ H _ I h=>wpAny_execs_nil ⟨σ,H,I,h⟩
theorem zAB(h1:PS X st t)(h2:PSs X rest u):PSs X (st::rest) (tSeq t u):=by
 intro pins s σ H D I h;refine wpAny_execs_cons (thn (h1 pins s σ H { D with nx:=u D } I h) fun f s1 q=>?_);cases f with
 |next=>
  obtain⟨σ',H',I',q⟩:=q;exact h2 pins s1 σ' H' D I' q
 |ret v=>exact q
 |brk=>exact q
 |cont=>exact q
theorem zAI(h1:PS X st t):PSs X [st] t:=by
 intro pins s σ H D I h;refine wpAny_execs_cons (thn (h1 pins s σ H D I h) fun f s1 q=>?_);cases f with
 |next=>exact wpAny_execs_nil q
 |ret v=>exact q
 |brk=>exact q
 |cont=>exact q
theorem Inv.quiet{pins:List (Addr×Obj)}{σ:St}{H:Hp}{s:Shared}(I:Inv X pins σ H s):interactive X.env=false:=by simp[interactive,I.ok.kind]
noncomputable def zHL(te:TE):TS:=fun D σ H=>te σ H fun _ H1=>D.nx σ H1
theorem zJ6(he:PE X e te)(hs:swapsWith e none pos.line X.env=pure false:=by rfl):PS X (.Expr e pos) (zHL te):=by
 intro pins s σ H D I h;exact wpAny_Expr_any (thn (he pins s σ H _ I h) fun v s1 ⟨x,H1,I1,r1,q1⟩=>⟨σ,H1,I1,q1⟩) I.quiet hs
noncomputable def tRet(te:TE):TS:=fun D σ H=>te σ H D.rt
theorem zAX(he:PE X e te):PS X (.Return (some e) pos) (tRet te):=by
 intro pins s σ H D I h;exact wpAny_Return_some (thn (he pins s σ H _ I h) fun v s1 ⟨x,H1,I1,r1,q1⟩=>⟨x,σ,H1,I1,r1,q1⟩)
noncomputable def tIfS(c:TT)(t u:TS):TS:=fun D σ H=>c σ H fun b H1=>if b=true then t D σ H1 else u D σ H1
theorem zD9{c:Expr}{a b:List Stmt}{tc:TT}(hc:PT X c tc)(ha:PSs X a t)(hb:PSs X b u):PS X (.If c a b pos) (tIfS tc t u):=by
 intro pins s σ H D I h;refine wpAny_If (thn (hc pins s σ H _ I h) fun d s1 z0=>?_);obtain⟨H1,I1,q1⟩:=z0;cases d with
 |true=>exact ha pins s1 σ H1 D I1 q1
 |false=>exact hb pins s1 σ H1 D I1 q1
end
abbrev TG:=V->St->Hp->(St->Hp->Prop)->Prop
abbrev TGs:=List V->St->Hp->(St->Hp->Prop)->Prop
def PG(X:Cx)(target:Expr)(t:TG):Prop:=
 ∀(pins:List (Addr×Obj))(s:Shared)(σ:St)(H:Hp)(v:V)(u:Value)(Q:St->Hp->Prop),Inv X pins σ H s->RelV v u->t v σ H Q ->
  wpAny (model X.prog X.w) X.A (assign target X.env u) (fun _ s'=>∃σ' H',Inv X pins σ' H' s'/\Q σ' H') X.xe s
def PGs(X:Cx)(ts:List Expr)(t:TGs):Prop:=
 ∀(pins:List (Addr×Obj))(s:Shared)(σ:St)(H:Hp)(vs:List V)(us:List Value)(Q:St->Hp->Prop),Inv X pins σ H s->Vals vs us->t vs σ H Q ->
  wpAny (model X.prog X.w) X.A (assignInOrder ((assignEach ts X.env).map (·.2)) us) (fun _ s'=>∃σ' H',Inv X pins σ' H' s'/\Q σ' H') X.xe s
abbrev TSet:=V->V->V->Hp->(Hp->Prop)->Prop
def PSet(X:Cx)(t:TSet):Prop:=
 ∀(pins:List (Addr×Obj))(s:Shared)(σ:St)(H:Hp)(o i v:V)(ov iv u:Value)(Q:Hp->Prop),Inv X pins σ H s->RelV o ov->RelV i iv->RelV v u->t o i v H Q ->
  wpAny (model X.prog X.w) X.A (setItem ov iv u) (fun _ s'=>∃H',Inv X pins σ H' s'/\Q H') X.xe s
section
variable{X:Cx}{pos:Pos}
noncomputable def zFR(i:Nat):TG:=fun v σ H Q=>Q (σ.set i (some v)) H
theorem zBD{i:Nat}{x:Str}(hN:X.N.Nodup)(hi:X.N[i]?=some x)(hx:Loc X.env.scope x)(hf:X.fn x=true\/X.env.scope.names.lookup x=some .local:=by first|exact .inl rfl|exact .inr rfl|assumption):PG X (.Name x pos) (zFR i):=by
 intro pins s σ H v u Q I r h;exact wpAny_assign_Name (zGN I hN hi hx r (fun s' I'=>⟨_,H,I',h⟩) hf)
noncomputable def gNil:TGs:=fun vs σ H Q=>vs=[]/\Q σ H
noncomputable def zTA(t:TG)(u:TGs):TGs:=fun vs σ H Q=>∃v r,vs=v::r/\t v σ H fun σ' H'=>u r σ' H' Q
theorem zLH:PGs X [] gNil:=by
 intro pins s σ H vs us Q I r h;obtain⟨e,h⟩:=h;subst e;cases r;exact assignInOrder_nil ⟨σ,H,I,h⟩
theorem zEX{e:Expr}{es:List Expr}{t:TG}{u:TGs}(h1:PG X e t)(h2:PGs X es u)
  (hs:(assignEach (e::es) X.env).map (·.2)=assign e X.env::(assignEach es X.env).map (·.2):=by rfl):PGs X (e::es) (zTA t u):=by
 intro pins s σ H vs us Q I r h;obtain⟨v,vr,e1,h⟩:=h;subst e1;cases r with
 |cons r rr=>
  rw[hs];refine assignInOrder_cons (thn (h1 pins s σ H _ _ _ I r h) fun _ s1 z0=>?_);obtain⟨σ1,H1,I1,q1⟩:=z0;exact h2 pins s1 σ1 H1 _ _ Q I1 rr q1
noncomputable def gTup(K:qA0)(n:Nat)(t:TGs):TG:=fun v σ H Q=>∃a xs,v=.ref a/\SqT K H a xs/\xs.length=n/\t xs σ H Q
theorem zS9{es:List Expr}{k:Nat}{t:TGs}{n:Nat}(hc:X.calm=true)(h:PGs X es t)
  (hn:(assignEach es X.env).length=n:=by rfl) (hst:(assignEach es X.env).findIdx? (·.1)=none:=by rfl):PG X (.Tuple es k pos) (gTup X.K n t):=by
 intro pins s σ H v u Q I r hw;obtain⟨a,xs,e1,hq,hl,hw⟩:=hw;subst e1;cases r;obtain⟨its,rv,ht,hz⟩:=I.tuple hq;refine assign_Tuple_tuple (I.ok.hd hc) ht (by simp[hn,<- hl,rv.length]) hst fun h' hx=>?_
 have I1:Inv X pins σ H { s with heap:=h' }:=I.kept (t':=s.toks) fun b o e=>hx b o (qAj (Heap.lt_size e)) e
 exact h pins _ σ H xs _ Q I1 (by simpa using rv) hw
noncomputable def gSub(to ti:TE)(t:TSet):TG:=fun v σ H Q=>to σ H fun o H1=>ti σ H1 fun i H2=>t o i v H2 fun H3=>Q σ H3
theorem zCR{o i:Expr}{to ti:TE}{t:TSet}(ho:PE X o to)(hi:PE X i ti)(hs:PSet X t)
  (ha:∀v,assign (.Subscript o i pos) X.env v=(do
   let ov <- holding [v] (eval o X.env)
   let iv <- holding [v,ov] (eval i X.env)
   standAt pos
   holding [v,ov,iv] (setItem ov iv v)
   release [v,ov,iv] []):=by intro _;rfl):PG X (.Subscript o i pos) (gSub to ti t):=by
 intro pins s σ H v u Q I r h;rw[ha];refine wpAny_bind (wpAny_holding (thn (ho pins s σ H _ I h) fun ov s1 z0=>?_));obtain⟨x,H1,I1,r1,q1⟩:=z0;refine wpAny_bind (wpAny_holding (thn (hi pins s1 σ H1 _ I1 q1) fun iv s2 z0=>?_));obtain⟨y,H2,I2,r2,q2⟩:=z0;refine wpAny_bind (wpAny_standAt (wpAny_bind (wpAny_holding (thn (hs pins s2 σ H2 x y v ov iv u _ I2 r1 r2 r q2) fun _ s3 z0=>?_))));obtain⟨H3,I3,q3⟩:=z0;exact wpAny_release ⟨σ,H3,I3,q3⟩
noncomputable def tAsg(te:TE)(g:TG):TS:=fun D σ H=>te σ H fun x H1=>g x σ H1 D.nx
theorem zCE{tg e:Expr}{te:TE}{g:TG}(he:PE X e te)(hg:PG X tg g)(hs:swapsWithSole [tg] e pos.line X.env=pure false:=by rfl)(hw:swappedStores [tg] e X.env=pure none:=by rfl)
  (h1:(assignEach [tg] X.env).map (·.2)=[assign tg X.env]:=by rfl):PS X (.Assign [tg] e pos) (tAsg te g):=by
 intro pins s σ H D I h;refine wpAny_Assign_stores (thn (he pins s σ H _ I h) fun v s1 z0=>?_) hs hw;obtain⟨x,H1,I1,r1,q1⟩:=z0;rw[h1];exact thn (hg pins s1 σ H1 x v _ I1 r1 q1) fun _ s2 q=>q
theorem zS4{i:Nat}{x:Str}{e:Expr}{te:TE}{pos':Pos}(hN:X.N.Nodup)(hi:X.N[i]?=some x)(hx:Loc X.env.scope x)(he:PE X e te)(hs:swapsWith e (some (.Name x pos')) pos.line X.env=pure false:=by rfl)(hf:X.fn x=true\/X.env.scope.names.lookup x=some .local:=by first|exact .inl rfl|exact .inr rfl|assumption) :
  PS X (.Assign [.Name x pos'] e pos) (tAsg te (zFR i)):=by
 intro pins s σ H D I h;refine wpAny_Assign_Name (thn (he pins s σ H _ I h) fun v s1 z0=>?_) hs;obtain⟨y,H1,I1,r1,q1⟩:=z0;exact zGN I1 hN hi hx r1 (fun s2 I2=>⟨_,H1,I2,q1⟩) hf
end
structure It where
 go:Nat->Hp->Prop
 yld:Nat->Hp->V->Hp->Prop
 stop:Nat->Hp->Prop
def FpOk(X:Cx)(pins:List (Addr×Obj))(H:Hp)(b:Addr):Prop:=
 H b=none/\b≠X.env.locals/\b∉X.fs/\(b∈X.ex\/X.s₀.heap.objs.size<=b)/\(∀x c,X.env.cells.lookup x=some c->c≠b)/\∀p∈X.pn++pins,p.1≠b
theorem Inv.fpOk{X:Cx}{pins:List (Addr×Obj)}{σ:St}{H H':Hp}{s:Shared}{b:Addr}(I:Inv X pins σ H s)(hb:s.heap.objs.size<=b)(hn:H' b=none):FpOk X pins H' b:=by
 refine⟨hn,qBn (qA7 I.lt hb),I.nofs hb,.inr (qAh I.sz hb),fun x c e z=>?_,fun p hp z=>?_⟩
 ·obtain⟨v,q⟩:=I.cell x c e;exact absurd (qA7 q.lt (by rw[z];exact hb)) (qB9 _)
 ·exact absurd (qA7 (Heap.lt_size (I.pin p hp).1) (by rw[z];exact hb)) (qB9 _)
structure Turn(P:Program)(w:World)(K:qA0)(tg:Expr)(J:It)(fp:List Addr)(it:Addr)(tn:Nat->Heap->Prop):Prop where
 mem:it∈fp
 obj:∀i h,tn i h->∀b∈fp,∃o,h.get? b=some o/\∀v,o.data≠.cell v
 keep:∀i h h',tn i h->(∀b∈fp,∀o,h.get? b=some o->h'.get? b=some o)->tn i h'
 item:∀(X:Cx),X.prog=P->X.w=w->X.K=K->X.calm=true->∀(i:Nat)(pins:List (Addr×Obj))(s:Shared)(σ:St)(H:Hp)(E:Value->Shared->Prop),Inv X pins σ H s->(∀b∈fp,FpOk X pins H b)->tn i s.heap->J.go i H ->
  wpAny (model P w) X.A (pyNext (.ref it)) (fun r s1=>∃u,r=some u /\
   wpAny (model P w) X.A (letOwnedTupleGo tg (.ref it) u) (fun _ s2=>∃x H',Inv X pins σ H' s2/\RelV x u/\J.yld i H x H'/\tn (i+1) s2.heap/\∀b∈fp,H' b=none) E s1) E s
 done:∀(X:Cx),X.prog=P->X.w=w->X.K=K->X.calm=true->∀(i:Nat)(pins:List (Addr×Obj))(s:Shared)(σ:St)(H:Hp)(E:Value->Shared->Prop),Inv X pins σ H s->(∀b∈fp,FpOk X pins H b)->tn i s.heap->J.stop i H ->
  wpAny (model P w) X.A (pyNext (.ref it)) (fun r s1=>r=none/\Inv X pins σ H s1) E s
 self:∀(A:Around)(i:Nat)(s:Shared)(Q:Value->Shared->Prop)(E:Value->Shared->Prop),tn i s.heap->Q (.ref it) s->wpAny (model P w) A (pyIter (.ref it)) Q E s
abbrev TI:=St->Hp->(It->Hp->Prop)->Prop
def PIE(X:Cx)(pins:List (Addr×Obj))(σ:St)(tg:Expr)(R:It->Hp->Prop)(itv:Value)(s2:Shared):Prop:=
 ∃(it:Addr)(fp:List Addr)(tn:Nat->Heap->Prop)(J:It)(H':Hp),itv=.ref it/\Inv X pins σ H' s2/\Turn X.prog X.w X.K tg J fp it tn/\tn 0 s2.heap/\(∀b∈fp,FpOk X pins H' b)/\R J H'
def PI(X:Cx)(tg iter:Expr)(wi:TI):Prop:=
 ∀(pins:List (Addr×Obj))(s:Shared)(σ:St)(H:Hp)(R:It->Hp->Prop),Inv X pins σ H s->wi σ H R ->
  wpAny (model X.prog X.w) X.A (eval iter X.env) (fun v s1=>wpAny (model X.prog X.w) X.A (pyIter v) (PIE X pins σ tg R) X.xe s1) X.xe s
theorem zO6{M:Model}{A:Around}{E:Value->Shared->Prop}{s:Shared}{tg:Expr}{it:Addr}{u:Value}{o:Obj}{n:String}{vs:Array Value}{Q:Unit->Shared->Prop}(ho:s.heap.get? it=some o)(hc:o.cls=.type n)(hd:o.data=.fields vs)
  (hn:["enumerate","zip","dict_itemiterator","dict_reverseitemiterator","odict_iterator","itertools.zip_longest","itertools.pairwise"].contains n=false) (hQ:Q () s):wpAny M A (letOwnedTupleGo tg (.ref it) u) Q E s:=by
 unfold letOwnedTupleGo;cases tg<;>first
  |exact wpAny_pure hQ
  |(cases u<;>first
    |exact wpAny_pure hQ
    |(refine wpAny_bind (wpAny_load ho ?_)
      rw[hc,hd];show wpAny M A (if(["enumerate","zip","dict_itemiterator","dict_reverseitemiterator","odict_iterator","itertools.zip_longest","itertools.pairwise"].contains n&&vs[0]?==some (rawInt _))=true then _ else _) Q E s;rw[if_neg (by intro h;rw[hn,qCt]at h;cases h)];exact wpAny_pure hQ))
noncomputable def Itl(K:qA0)(a:Addr):It:=
 ⟨fun i H=>∃xs x,SqL K H a xs/\xs[i]?=some x,fun i H x H'=>H'=H/\∀xs,SqL K H a xs->xs[i]?=some x,fun i H=>∃xs,SqL K H a xs/\xs.length<=i⟩
noncomputable def Itt(K:qA0)(a:Addr):It:=
 ⟨fun i H=>∃xs x,SqT K H a xs/\xs[i]?=some x,fun i H x H'=>H'=H/\∀xs,SqT K H a xs->xs[i]?=some x,fun i H=>∃xs,SqT K H a xs/\xs.length<=i⟩
noncomputable def Itr(lo:Int)(n:Nat):It:=⟨fun i _=>i<n,fun i H x H'=>H'=H/\x=.int (lo+i),fun i _=>n<=i⟩
theorem zL3{P:Program}{w:World}{K:qA0}{tg:Expr}(a it:Addr):Turn P w K tg (Itl K a) [it] it (fun i h=>h.IsListIter it a i) where
 mem:=by simp
 obj:=fun i h st b hb=>by
  have e:b=it:=by simpa using hb
  subst e;obtain⟨o,e,c,d⟩:=st;exact⟨o,e,fun v z=>by rw[d]at z;cases z⟩
 keep:=fun i h h' st k=>st.at fun o e=>k it (by simp) o e
 item:=by
  intro X hP hw hK hc i pins s σ H E I hf st hg;subst hP hw hK;obtain⟨xs,x,hq,hx⟩:=hg;obtain⟨its,rv,p,hz⟩:=I.list hq;obtain⟨u,hu,ru⟩:=rv.get hx;obtain⟨f0,f1,f2,f3,f4,f5⟩:=hf it (by simp);refine wpAny_pyNext_list_item st p.isList (x:=u) (by simpa using hu) fun h' st' sb=>?_
  have I1:Inv X pins σ H { s with heap:=h' }:=I.turned (t':=s.toks) (fun b o hb e=>(sb.2 b hb).trans e) f0 f1 f3 f4 f5;obtain⟨o,e,c,d⟩:=id st';exact⟨u,rfl,zO6 (s:={ s with heap:=h' }) e c d (by decide) ⟨x,H,I1,ru,⟨rfl,fun ys hy=>by rw[I.list_inj hy hq];exact hx⟩,st',fun b hb=>(hf b hb).1⟩⟩
 done:=by
  intro X hP hw hK hc i pins s σ H E I hf st hg;subst hP hw hK;obtain⟨xs,hq,hx⟩:=hg;obtain⟨its,rv,p,hz⟩:=I.list hq;obtain⟨f0,f1,f2,f3,f4,f5⟩:=hf it (by simp);have hl:=rv.length;exact wpAny_pyNext_list_end (I.ok.hd hc) st p.isList (by simp;lia) fun h' eb=>⟨rfl,I.turned (t':=s.toks) (fun b o hb e=>eb b o hb e) f0 f1 f3 f4 f5⟩
 self:=fun _ _ _ _ _ st h=>wpAny_pyIter_listiter st h
theorem zKG{P:Program}{w:World}{K:qA0}{tg:Expr}(a it:Addr):Turn P w K tg (Itt K a) [it] it (fun i h=>h.IsTupleIter it a i) where
 mem:=by simp
 obj:=fun i h st b hb=>by
  have e:b=it:=by simpa using hb
  subst e;obtain⟨o,e,c,d⟩:=st;exact⟨o,e,fun v z=>by rw[d]at z;cases z⟩
 keep:=fun i h h' st k=>st.at fun o e=>k it (by simp) o e
 item:=by
  intro X hP hw hK hc i pins s σ H E I hf st hg;subst hP hw hK;obtain⟨xs,x,hq,hx⟩:=hg;obtain⟨its,rv,p,hz⟩:=I.tuple hq;obtain⟨u,hu,ru⟩:=rv.get hx;obtain⟨f0,f1,f2,f3,f4,f5⟩:=hf it (by simp);refine wpAny_pyNext_tuple_item st (show s.heap.IsTuple a its.toArray from p) (x:=u) (by simpa using hu) fun h' st' sb=>?_
  have I1:Inv X pins σ H { s with heap:=h' }:=I.turned (t':=s.toks) (fun b o hb e=>(sb.2 b hb).trans e) f0 f1 f3 f4 f5;obtain⟨o,e,c,d⟩:=id st';exact⟨u,rfl,zO6 (s:={ s with heap:=h' }) e c d (by decide) ⟨x,H,I1,ru,⟨rfl,fun ys hy=>by rw[I.tuple_inj hy hq];exact hx⟩,st',fun b hb=>(hf b hb).1⟩⟩
 done:=by
  intro X hP hw hK hc i pins s σ H E I hf st hg;subst hP hw hK;obtain⟨xs,hq,hx⟩:=hg;obtain⟨its,rv,p,hz⟩:=I.tuple hq;obtain⟨f0,f1,f2,f3,f4,f5⟩:=hf it (by simp);have hl:=rv.length;exact wpAny_pyNext_tuple_end (I.ok.hd hc) st (show s.heap.IsTuple a its.toArray from p) (by simp;lia) fun h' eb=>⟨rfl,I.turned (t':=s.toks) (fun b o hb e=>eb b o hb e) f0 f1 f3 f4 f5⟩
 self:=fun _ _ _ _ _ st h=>wpAny_pyIter_tupleiter st h
theorem zKH{P:Program}{w:World}{K:qA0}{tg:Expr}(it:Addr)(lo:Int)(n:Nat):Turn P w K tg (Itr lo n) [it] it (fun i h=>IsRangeIter h it (lo+(i:Nat)*1) ((n:Int)-(i:Nat)) 1) where
 mem:=by simp
 obj:=fun i h st b hb=>by
  have e:b=it:=by simpa using hb
  subst e;exact⟨_,st,fun v z=>by
   have z':Data.fields _=Data.cell v:=z;cases z'⟩
 keep:=fun i h h' st k=>k it (by simp) _ st
 item:=by
  intro X hP hw hK hc i pins s σ H E I hf st hg;subst hP hw hK;obtain⟨f0,f1,f2,f3,f4,f5⟩:=hf it (by simp);have W:=Walks.range (prog:=X.prog) (w:=X.w) (I.ok.hd hc) it lo 1 n;refine W.item i s _ _ hg st fun v h' tk hv st' kk=>?_
  obtain⟨t,rfl⟩:=hv;have I1:Inv X pins σ H { s with heap:=h',toks:=tk }:=I.turned (fun b o hb e=>kk b o (by simpa using hb) e) f0 f1 f3 f4 f5;refine⟨_,rfl,zO6 (s:={ s with heap:=h',toks:=tk }) (n:="range_iterator") st' rfl rfl (by decide) ⟨.int (lo+i),H,I1,⟨t,?_⟩,⟨rfl,rfl⟩,st',fun b hb=>(hf b hb).1⟩⟩;rw[qFq]
 done:=by
  intro X hP hw hK hc i pins s σ H E I hf st hg;subst hP hw hK;obtain⟨f0,f1,f2,f3,f4,f5⟩:=hf it (by simp);exact wpAny_pyNext_range_end (I.ok.hd hc) st (by have:n<=i:=hg;lia) fun h' eb=>⟨rfl,I.turned (t':=s.toks) (fun b o hb e=>eb b o hb e) f0 f1 f3 f4 f5⟩
 self:=fun _ _ _ _ _ st h=>wpAny_pyIter_rangeiter st h
end L2
namespace L2
open PySem PySem.Spec PyProof.Rows
section
variable{X:Cx}{tg:Expr}
theorem zNF{pins:List (Addr×Obj)}{σ:St}{H:Hp}{s:Shared}{R:It->Hp->Prop}{E:Value->Shared->Prop}{lo hi:Int}{t u v:Tok}{tk:Nat}(I:Inv X pins σ H s)(h1:-(2 ^ 62)<=lo)(h2:lo<2 ^ 62)(h3:-(2 ^ 62)<=hi)(h4:hi<2 ^ 62)
  (q:R (Itr lo (hi-lo).toNat) H):wpAny (model X.prog X.w) X.A (pyIter (.ref s.heap.objs.size)) (PIE X pins σ tg R) E { s with heap:=s.heap.push { cls:=.type "range",data:=.fields #[.int lo t,.int hi u,.int 1 v] },toks:=tk }:=by
 refine wpAny_pyIter_range (IsRange.new ..) (small_one h1 h2 h3 h4) ?_;have I1:Inv X pins σ H { s with heap:=s.heap.push { cls:=.type "range",data:=.fields #[.int lo t,.int hi u,.int 1 v] },toks:=tk }:=I.kept fun b o e=>Heap.get?_push_of_some _ e
 refine⟨(s.heap.push { cls:=.type "range",data:=.fields #[.int lo t,.int hi u,.int 1 v] }).objs.size,[(s.heap.push { cls:=.type "range",data:=.fields #[.int lo t,.int hi u,.int 1 v] }).objs.size],_,_,H,rfl,
  I1.kept (t':=tk) fun b o e=>Heap.get?_push_of_some _ e,zKH _ lo (hi-lo).toNat,?_,fun b hb=>?_,q⟩
 ·have e1:lo+((0:Nat):Int)*1=lo:=by simp
  have e2:(((hi-lo).toNat:Nat):Int)-((0:Nat):Int)=Builtin.Range.rangeSize lo hi 1:=by rw[rangeSize_one];split<;>lia
  show IsRangeIter _ _ (lo+((0:Nat):Int)*1) ((((hi-lo).toNat:Nat):Int)-((0:Nat):Int)) 1;rw[e1,e2];exact Heap.get?_push_size _ rfl
 ·have e:b=(s.heap.push { cls:=.type "range",data:=.fields #[.int lo t,.int hi u,.int 1 v] }).objs.size:=by simpa using hb
  subst e;exact I1.fpOk (qA4 _) (I1.hok.fresh (qA4 _))
def zT9(ta:TA):TI:=fun σ H R=>ta σ H fun vs H1=>∃j:Int,vs=[.int j]/\-(2 ^ 62)<=j/\j<2 ^ 62/\R (Itr 0 j.toNat) H1
theorem zAY{a:Expr}{ta:TA}{p pos:Pos}(hg:Gl X "range")(hm:X.mg "range" = none)(ha:PA X [a] ta)(hs:starEach [a] X.env=[(false,eval a X.env)]:=by rfl):PI X tg (.Call (.Name "range" p) [a] [] pos) (zT9 ta):=by
 intro pins s σ H R I h;refine Call_ (zGD I hg hm boot_range (qBo (thn (ha pos pins s σ H _ I h) fun us s1 z0=>?_) hs rfl));obtain⟨vs,H1,I1,r1,q1⟩:=z0;obtain⟨j,e,q1,q2,q⟩:=q1;subst e;cases r1 with
 |cons r rr=>
  cases rr;obtain⟨t,rfl⟩:=r;exact call_range_1 (zNF I1 (by lia) (by lia) q1 q2 (by simpa using q))
noncomputable def tFor(wi:TI)(g:TG)(tb:TS):TS:=fun D σ H=>wi σ H fun J H1=>∃W:Nat->Nat->St->Hp->Prop,(∃m,W 0 m σ H1)/\∀i m σ H,W i m σ H ->
 (J.stop i H/\D.nx σ H)\/(J.go i H/\∃N:St->Hp->Prop,(∀σ' H',N σ' H'->∃m',m'<m/\W (i+1) m' σ' H')/\∀x H',J.yld i H x H'->g x σ H' fun σ2 H2=>tb { D with nx:=N,ct:=N,bk:=D.nx } σ2 H2)
noncomputable def zG8(fp:List Addr)(h:Heap):List (Addr×Obj):=fp.filterMap fun b=>(h.get? b).map fun o=>(b,o)
theorem zD4{fp:List Addr}{h:Heap}{b:Addr}{o:Obj}(hb:b∈fp)(e:h.get? b=some o):(b,o)∈zG8 fp h:=qDv.mpr ⟨b,hb,by rw[e];rfl⟩
theorem zLS{fp:List Addr}{h:Heap}{p:Addr×Obj}(hp:p∈zG8 fp h):p.1∈fp/\h.get? p.1=some p.2:=by
 obtain⟨b,hb,e⟩:=qDv.mp hp;cases q:h.get? b with
 |none=>rw[q]at e;cases e
 |some o=>
  rw[q]at e;have e':(b,o)=p:=qAv e;subst e';exact⟨hb,q⟩
theorem Inv.pinned{pins:List (Addr×Obj)}{σ:St}{H:Hp}{s:Shared}{fp:List Addr}(I:Inv X pins σ H s)(hf:∀b∈fp,FpOk X pins H b)(ho:∀b∈fp,∃o,s.heap.get? b=some o/\∀v,o.data≠.cell v):Inv X (pins++zG8 fp s.heap) σ H s:=
 I.pins_of fun p hp=>(qBm.mp hp).elim (fun z=>I.pin p (qAo _ z)) fun z=>by
  obtain⟨hb,e⟩:=zLS z;obtain⟨f0,f1,f2,_⟩:=hf p.1 hb;obtain⟨o,e',d⟩:=ho p.1 hb;rw[e]at e';cases e';exact⟨e,f0,f1,f2,d⟩
theorem Inv.unpinned{pins pl:List (Addr×Obj)}{σ:St}{H:Hp}{s:Shared}(I:Inv X (pins++pl) σ H s):Inv X pins σ H s:=I.pins_of fun p hp=>I.pin p (qAo _ (qCh _ hp))
theorem zS5{iter:Expr}{body:List Stmt}{wi:TI}{g:TG}{tb:TS}{pos:Pos}(hp:PassesOwn (model X.prog X.w) X.A X.env X.xe)(hc:X.calm=true)(hi:PI X tg iter wi)(hg:PG X tg g)(hb:PSs X body tb)
  (hs:∀x,foldedSetIterable iter X.env x=pure x:=by intro _;rfl):PS X (.For tg iter body [] pos) (tFor wi g tb):=by
 intro pins s σ H D I h;refine wpAny_For (thn (hi pins s σ H _ I h) fun v s1 h1=>thn h1 fun itv s2 h2=>?_) hs;obtain⟨it,fp,tn,J,H2,e,I2,T,st2,f2,W,⟨m0,w0⟩,turn⟩:=h2;subst e;have stat:∀{H':Hp},(∀b∈fp,H' b=none)->∀b∈fp,FpOk X pins H' b:=fun hn b hb=>⟨hn b hb,(f2 b hb).2⟩
 refine codeAny_forLoop_any (fun n s'=>∃i σ' H',Inv X pins σ' H' s'/\tn i s'.heap/\(∀b∈fp,H' b=none)/\W i n σ' H') ?_ m0 ⟨0,σ,H2,I2,st2,fun b hb=>(f2 b hb).1,w0⟩
 rintro n s3 ⟨i,σ3,H3,I3,st3,fr3,w3⟩
 rcases turn i n σ3 H3 w3 with⟨stop,qn⟩|⟨go,N,hN,step⟩
 ·refine wpAny_passesOwn hp (thn (T.done X rfl rfl rfl hc i pins s3 σ3 H3 X.xe I3 (stat fr3) st3 stop) fun r s4 z0=>?_);obtain⟨hr,I4⟩:=z0;subst hr;exact wpAny_execs_nil ⟨σ3,H3,I4,qn⟩
 ·refine wpAny_passesOwn hp (thn (T.item X rfl rfl rfl hc i pins s3 σ3 H3 X.xe I3 (stat fr3) st3 go) fun r s4 z0=>?_);obtain⟨u,hr,h4⟩:=z0;subst hr;refine wpAny_passesOwn hp (thn h4 fun _ s5 z0=>?_);obtain⟨x,H5,I5,r5,y5,st5,fr5⟩:=z0;have I5':=I5.pinned (stat fr5) (T.obj _ _ st5);refine wpAny_passesOwn hp (thn (hg _ s5 σ3 H5 x u _ I5' r5 (step x H5 y5)) fun _ s6 z0=>?_);obtain⟨σ6,H6,I6,q6⟩:=z0;refine wpAny_passesOwn hp (thn (hb _ s6 σ6 H6 _ I6 q6) fun f s7 q7=>?_);have again:∀{σ7:St}{H7:Hp},Inv X (pins++zG8 fp s5.heap) σ7 H7 s7->N σ7 H7->∃m,m<n/\∃i σ' H',Inv X pins σ' H' s7/\tn i s7.heap/\(∀b∈fp,H' b=none)/\W i m σ' H':=fun{σ7 H7} I7 n7=>by
   obtain⟨m',hm,w7⟩:=hN σ7 H7 n7;refine⟨m',hm,i+1,σ7,H7,I7.unpinned,T.keep _ _ _ st5 fun b hb o e=>(I7.pin (b,o) (qAo _ (qAo _ (zD4 hb e)))).1,fun b hb=>?_,w7⟩;obtain⟨o,e,d⟩:=T.obj _ _ st5 b hb;exact(I7.pin (b,o) (qAo _ (qAo _ (zD4 hb e)))).2.1
  cases f with
  |next=>obtain⟨σ7,H7,I7,n7⟩:=q7;exact again I7 n7
  |cont=>obtain⟨σ7,H7,I7,n7⟩:=q7;exact again I7 n7
  |brk=>obtain⟨σ7,H7,I7,q7⟩:=q7;exact⟨σ7,H7,I7.unpinned,q7⟩
  |ret v=>obtain⟨x7,σ7,H7,I7,r7,q7⟩:=q7;exact⟨x7,σ7,H7,I7.unpinned,r7,q7⟩
end
end L2
namespace L2
open PySem PySem.Spec PyProof.Rows
abbrev R2:=V->V->Hp->VK->Prop
def OpR(X:Cx)(f:Value->Value->Sem Value)(r:R2):Prop:=
 ∀(pins:List (Addr×Obj))(s:Shared)(σ:St)(H:Hp)(x y:V)(v u:Value)(Q:VK),Inv X pins σ H s->RelV x v->RelV y u->r x y H Q ->
  wpAny (model X.prog X.w) X.A (f v u) (EP X pins σ Q) X.xe s
def UnR(X:Cx)(f:Value->Sem Value)(r:V->Hp->VK->Prop):Prop:=
 ∀(pins:List (Addr×Obj))(s:Shared)(σ:St)(H:Hp)(x:V)(v:Value)(Q:VK),Inv X pins σ H s->RelV x v->r x H Q ->
  wpAny (model X.prog X.w) X.A (f v) (EP X pins σ Q) X.xe s
def zC5(X:Cx)(f:Value)(r:List V->Hp->VK->Prop):Prop:=
 ∀(pins:List (Addr×Obj))(s:Shared)(σ:St)(H:Hp)(xs:List V)(us:List Value)(Q:VK),Inv X pins σ H s->Vals xs us->r xs H Q ->
  wpAny (model X.prog X.w) X.A (call f us) (EP X pins σ Q) X.xe s
def TruR(X:Cx)(r:V->Hp->(Bool->Hp->Prop)->Prop):Prop:=
 ∀(pins:List (Addr×Obj))(s:Shared)(σ:St)(H:Hp)(x:V)(v:Value)(Q:Bool->Hp->Prop),Inv X pins σ H s->RelV x v->r x H Q ->
  wpAny (model X.prog X.w) X.A (truthy v) (TP X pins σ Q) X.xe s
noncomputable def tOp(r:R2)(ta tb:TE):TE:=fun σ H Q=>ta σ H fun x H1=>tb σ H1 fun y H2=>r x y H2 Q
noncomputable def tUn(r:V->Hp->VK->Prop)(ta:TE):TE:=fun σ H Q=>ta σ H fun x H1=>r x H1 Q
noncomputable def rI(C:Int->Int->Prop)(g:Int->Int->V):R2:=fun x y H Q=>∃i j,x=.int i/\y=.int j/\C i j/\Q (g i j) H
noncomputable def rI0(g:Int->Int->V):R2:=fun x y H Q=>∃i j,x=.int i/\y=.int j/\Q (g i j) H
def rU(g:Int->V):V->Hp->VK->Prop:=fun x H Q=>∃i,x=.int i/\Q (g i) H
section
variable{X:Cx}{a b c:Expr}{ta tb tc:TE}{pos:Pos}
theorem binT(ha:PE X a ta)(hb:PE X b tb){pins:List (Addr×Obj)}{s:Shared}{σ:St}{H:Hp}{R:V->V->Hp->Prop}(I:Inv X pins σ H s)
  (h:ta σ H fun x H1=>tb σ H1 fun y H2=>R x y H2) {Q:Value->Shared->Prop} {f:Value->Value->Sem Value}
  (hf:∀v u s2 x y H2,Inv X pins σ H2 s2->RelV x v->RelV y u->R x y H2->wpAny (model X.prog X.w) X.A (f v u) Q X.xe s2) :
  wpAny (model X.prog X.w) X.A (eval a X.env) (fun v s₁=>wpAny (model X.prog X.w) X.A (eval b X.env) (fun u s₂=>wpAny (model X.prog X.w) X.A (f v u) Q X.xe s₂) X.xe s₁) X.xe s:=by
 refine thn (ha pins s σ H _ I h) fun v s1 z0=>?_
 obtain⟨x,H1,I1,r1,q1⟩:=z0;refine thn (hb pins s1 σ H1 _ I1 q1) fun u s2 z0=>?_
 obtain⟨y,H2,I2,r2,q2⟩:=z0;exact hf v u s2 x y H2 I2 r1 r2 q2
theorem zB4{op:Operator}{r:R2}(ho:OpR X (binaryOp op) r)(ha:PE X a ta)(hb:PE X b tb):PE X (.BinOp a op b pos) (tOp r ta tb):=by
 intro pins s σ H Q I h;exact wpAny_BinOp (binT ha hb I h fun v u s2 x y H2 I2 rx ry q=>ho pins s2 σ H2 x y v u Q I2 rx ry q)
theorem zSB{op:UnaryOp}{r:V->Hp->VK->Prop}(ho:UnR X (unaryOp op) r)(ha:PE X a ta):PE X (.UnaryOp op a pos) (tUn r ta):=by
 intro pins s σ H Q I h;exact UnaryOp_ (thn (ha pins s σ H _ I h) fun v s1 ⟨x,H1,I1,r1,q1⟩=>ho pins s1 σ H1 x v Q I1 r1 q1)
theorem opI{f:Value->Value->Sem Value}{C:Int->Int->Prop}{g:Int->Int->Int}
  (rule:∀(i j:Int)(t u:Tok)(s:Shared)(Q:Value->Shared->Prop)(E:Value->Shared->Prop),C i j->Q (.int (g i j) s.toks) { s with toks:=s.toks+1 }->wpAny (model X.prog X.w) X.A (f (.int i t) (.int j u)) Q E s) :
  OpR X f (rI C fun i j=>.int (g i j)):=by
 intro pins s σ H x y v u Q I rx ry h;obtain⟨i,j,rfl,rfl,hc,q⟩:=h;obtain⟨t,rfl⟩:=rx;obtain⟨t',rfl⟩:=ry;exact rule i j t t' s _ _ hc ⟨.int (g i j),H,I.tok _,⟨_,rfl⟩,q⟩
theorem opI0{f:Value->Value->Sem Value}{g:Int->Int->Int}
  (rule:∀(i j:Int)(t u:Tok)(s:Shared)(Q:Value->Shared->Prop)(E:Value->Shared->Prop),Q (.int (g i j) s.toks) { s with toks:=s.toks+1 }->wpAny (model X.prog X.w) X.A (f (.int i t) (.int j u)) Q E s) :
  OpR X f (rI0 fun i j=>.int (g i j)):=by
 intro pins s σ H x y v u Q I rx ry h;obtain⟨i,j,rfl,rfl,q⟩:=h;obtain⟨t,rfl⟩:=rx;obtain⟨t',rfl⟩:=ry;exact rule i j t t' s _ _ ⟨.int (g i j),H,I.tok _,⟨_,rfl⟩,q⟩
theorem opB0{f:Value->Value->Sem Value}{g:Int->Int->Bool}
  (rule:∀(i j:Int)(t u:Tok)(s:Shared)(Q:Value->Shared->Prop)(E:Value->Shared->Prop),Q (.bool (g i j)) s->wpAny (model X.prog X.w) X.A (f (.int i t) (.int j u)) Q E s) :
  OpR X f (rI0 fun i j=>.bl (g i j)):=by
 intro pins s σ H x y v u Q I rx ry h;obtain⟨i,j,rfl,rfl,q⟩:=h;obtain⟨t,rfl⟩:=rx;obtain⟨t',rfl⟩:=ry;exact rule i j t t' s _ _ ⟨.bl (g i j),H,I,rfl,q⟩
def CPow(i j:Int):Prop:=0<=j/\j<=1000000/\i.natAbs<2 ^ 64
def CMul(i j:Int):Prop:=(-(2 ^ 64)<i/\i<2 ^ 64)\/(-(2 ^ 64)<j/\j<2 ^ 64)
theorem CMul.ok{i j:Int}(h:CMul i j):IntMulOk i j:=by
 rcases h with⟨h1,h2⟩|⟨h1,h2⟩
 ·exact .of_left (intBits_le_64 h1 h2)
 ·exact .of_right (intBits_le_64 h1 h2)
theorem zSP:OpR X (binaryOp .Add) (rI0 fun i j=>.int (i+j)):=opI0 fun _ _ _ _ _ _ _ q=>add_int q
theorem zSH:OpR X (binaryOp .Sub) (rI0 fun i j=>.int (i-j)):=opI0 fun _ _ _ _ _ _ _ q=>sub_int q
theorem zSL:OpR X (binaryOp .Mod) (rI (fun _ j=>0<j) fun i j=>.int (i%j)):=opI fun i j _ _ _ _ _ hc q=>by
 have h1:(0:Int)<j:=hc;exact mod_int' (by lia) (by rw[Int.fmod_eq_emod_of_nonneg i (by lia)];exact q)
theorem zSJ:OpR X (binaryOp .Pow) (rI CPow fun i j=>.int (i ^ j.toNat)):=opI fun _ _ _ _ _ _ _ hc q=>pow_int_small hc.1 hc.2.1 hc.2.2 q
theorem zSG:OpR X (binaryOp .BitXor) (rI0 fun i j=>.int (Builtin.bitXor i j)):=opI0 fun _ _ _ _ _ _ _ q=>xor_int q
theorem unI{f:Value->Sem Value}{g:Int->Int}
  (rule:∀(i:Int)(t:Tok)(s:Shared)(Q:Value->Shared->Prop)(E:Value->Shared->Prop),Q (.int (g i) s.toks) { s with toks:=s.toks+1 }->wpAny (model X.prog X.w) X.A (f (.int i t)) Q E s) :
  UnR X f (rU fun i=>.int (g i)):=by
 intro pins s σ H x v Q I rx h;obtain⟨i,rfl,q⟩:=h;obtain⟨t,rfl⟩:=rx;exact rule i t s _ _ ⟨.int (g i),H,I.tok _,⟨_,rfl⟩,q⟩
theorem zR1:UnR X (unaryOp .USub) (rU fun i=>.int (-i)):=unI fun _ _ _ _ _ q=>neg_int q
end
noncomputable def scal:V->V->Bool
 |.non,.non=>true | .non,.int _=>true | .int _,.non=>true | .non,.bl _=>true | .bl _,.non=>true | .non,.str _=>true | .str _,.non=>true
 |.int _,.int _=>true | .bl _,.bl _=>true | .str _,.str _=>true | .byt _,.byt _=>true
 |.int _,.str _=>true | .str _,.int _=>true | .bl _,.str _=>true | .str _,.bl _=>true
 |_,_=>false
def rEq:R2:=fun x y H Q=>scal x y=true/\Q (.bl (decide (x=y))) H
def rNe:R2:=fun x y H Q=>scal x y=true/\Q (.bl (!decide (x=y))) H
theorem zMH{i j:Int}:decide (V.int i=V.int j)=(i==j):=by
 rw[qC1];simp
theorem dec_bl{i j:Bool}:decide (V.bl i=V.bl j)=(i==j):=by
 rw[qC1];simp
theorem zMG{i j:Str}:decide (V.str i=V.str j)=(i==j):=by
 rw[qC1];simp
theorem zMI{i j:Array UInt8}:decide (V.byt i=V.byt j)=(i.toList==j.toList):=by
 rw[qC1];cases i;cases j;simp
section
variable{X:Cx}{a b c:Expr}{ta tb tc:TE}{pos:Pos}
theorem fin_bl{pins:List (Addr×Obj)}{σ:St}{H:Hp}{s:Shared}{Q:VK}{k k':Bool}(I:Inv X pins σ H s)(q:Q (.bl k) H)(e:k=k'):EP X pins σ Q (.bool k') s:=by
 subst e;exact⟨.bl k,H,I,rfl,q⟩
theorem zUN:OpR X (compareOp .Eq) rEq:=by
 intro pins s σ H x y v u Q I rx ry h;obtain⟨hs,q⟩:=h;cases x with
 |non=>
  cases rx;cases y with
  |non=>cases ry;exact qEv (fin_bl I q (by simp))
  |bl j=>cases ry;exact qEw (fin_bl I q (by simp))
  |int j=>obtain⟨t',rfl⟩:=ry;exact qF8 (fin_bl I q (by simp))
  |str j=>obtain⟨t',rfl⟩:=ry;exact qF9 (fin_bl I q (by simp))
  |_=>exact absurd (show false=true from hs) qAb
 |bl i=>
  cases rx;cases y with
  |non=>cases ry;exact qEx (fin_bl I q (by simp))
  |bl j=>cases ry;exact eq_bool (fin_bl I q dec_bl)
  |str j=>obtain⟨t',rfl⟩:=ry;exact qEy (fin_bl I q (by simp))
  |_=>exact absurd (show false=true from hs) qAb
 |int i=>
  obtain⟨t,rfl⟩:=rx;cases y with
  |non=>cases ry;exact qFa (fin_bl I q (by simp))
  |int j=>obtain⟨t',rfl⟩:=ry;exact eq_int (fin_bl I q zMH)
  |str j=>obtain⟨t',rfl⟩:=ry;exact qFb (fin_bl I q (by simp))
  |_=>exact absurd (show false=true from hs) qAb
 |str i=>
  obtain⟨t,rfl⟩:=rx;cases y with
  |non=>cases ry;exact qFc (fin_bl I q (by simp))
  |bl j=>cases ry;exact qEz (fin_bl I q (by simp))
  |int j=>obtain⟨t',rfl⟩:=ry;exact qFd (fin_bl I q (by simp))
  |str j=>obtain⟨t',rfl⟩:=ry;exact eq_str (fin_bl I q zMG)
  |_=>exact absurd (show false=true from hs) qAb
 |byt i=>
  obtain⟨t,rfl⟩:=rx;cases y with
  |byt j=>obtain⟨t',rfl⟩:=ry;exact PySem.W.eq_bytes (fin_bl I q zMI)
  |_=>exact absurd (show false=true from hs) qAb
 |_=>cases y<;>exact absurd (show false=true from hs) qAb
theorem zUI:OpR X (compareOp .NotEq) rNe:=by
 intro pins s σ H x y v u Q I rx ry h;obtain⟨hs,q⟩:=h;cases x with
 |non=>
  cases rx;cases y with
  |non=>cases ry;exact qF0 (fin_bl I q (by simp))
  |bl j=>cases ry;exact qF1 (fin_bl I q (by simp))
  |int j=>obtain⟨t',rfl⟩:=ry;exact qFe (fin_bl I q (by simp))
  |str j=>obtain⟨t',rfl⟩:=ry;exact qFf (fin_bl I q (by simp))
  |_=>exact absurd (show false=true from hs) qAb
 |bl i=>
  cases rx;cases y with
  |non=>cases ry;exact qF2 (fin_bl I q (by simp))
  |bl j=>cases ry;exact ne_bool (fin_bl I q (congrArg not dec_bl))
  |str j=>obtain⟨t',rfl⟩:=ry;exact qF3 (fin_bl I q (by simp))
  |_=>exact absurd (show false=true from hs) qAb
 |int i=>
  obtain⟨t,rfl⟩:=rx;cases y with
  |non=>cases ry;exact qFg (fin_bl I q (by simp))
  |int j=>obtain⟨t',rfl⟩:=ry;exact ne_int (fin_bl I q (congrArg not zMH))
  |str j=>obtain⟨t',rfl⟩:=ry;exact qFh (fin_bl I q (by simp))
  |_=>exact absurd (show false=true from hs) qAb
 |str i=>
  obtain⟨t,rfl⟩:=rx;cases y with
  |non=>cases ry;exact qFi (fin_bl I q (by simp))
  |bl j=>cases ry;exact qF4 (fin_bl I q (by simp))
  |int j=>obtain⟨t',rfl⟩:=ry;exact qFj (fin_bl I q (by simp))
  |str j=>obtain⟨t',rfl⟩:=ry;exact ne_str (fin_bl I q (congrArg not zMG))
  |_=>exact absurd (show false=true from hs) qAb
 |byt i=>
  obtain⟨t,rfl⟩:=rx;cases y with
  |byt j=>obtain⟨t',rfl⟩:=ry;exact PySem.W.ne_bytes (fin_bl I q (congrArg not zMI))
  |_=>exact absurd (show false=true from hs) qAb
 |_=>cases y<;>exact absurd (show false=true from hs) qAb
theorem zUJ:OpR X (compareOp .Lt) (rI0 fun i j=>.bl (decide (i<j))):=opB0 fun _ _ _ _ _ _ _ q=>lt_int q
theorem zUK:OpR X (compareOp .LtE) (rI0 fun i j=>.bl (decide (i<=j))):=opB0 fun _ _ _ _ _ _ _ q=>le_int q
theorem zUL:OpR X (compareOp .Gt) (rI0 fun i j=>.bl (decide (j<i))):=opB0 fun _ _ _ _ _ _ _ q=>gt_int q
theorem zUM:OpR X (compareOp .GtE) (rI0 fun i j=>.bl (decide (j<=i))):=opB0 fun _ _ _ _ _ _ _ q=>ge_int q
theorem zLQ:OpR X (compareOp .In) (fun x y H Q=>∃i j,x=.str i/\y=.str j/\Q (.bl (!(Builtin.Str.occurrences j i 0 j.length 1).isEmpty)) H):=by
 intro pins s σ H x y v u Q I rx ry h;obtain⟨i,j,rfl,rfl,q⟩:=h;obtain⟨t,rfl⟩:=rx;obtain⟨t',rfl⟩:=ry;exact in_str (fin_bl I q rfl)
theorem zSM:OpR X (compareOp .Is) (fun x y H Q=>y=.non/\Q (.bl (decide (x=.non))) H):=by
 intro pins s σ H x y v u Q I rx ry h;obtain⟨rfl,q⟩:=h;cases ry;refine is_none_gen (fin_bl I q ?_);cases x<;>first
  |(cases rx;rfl)
  |(obtain⟨t,rfl⟩:=rx;rfl)
theorem zAU(b:Expr){op:CmpOp}(h:op≠.In:=by decide)(h2:op≠.NotIn:=by decide):behindInMarks op b=false:=by
 have e1:(op==CmpOp.In)=false:=by cases op<;>first|rfl|exact absurd rfl h
 have e2:(op==CmpOp.NotIn)=false:=by cases op<;>first|rfl|exact absurd rfl h2
 cases b<;>simp[behindInMarks,e1,e2]
theorem zBX{op:CmpOp}{r:R2}(ho:OpR X (compareOp op) r)(ha:PE X a ta)(hb:PE X b tb)(hm:behindInMarks op b=false):PE X (.Compare a [op] [b] pos) (tOp r ta tb):=by
 intro pins s σ H Q I h;exact wpAny_Compare1 (binT ha hb I h fun v u s2 x y H2 I2 rx ry q=>ho pins s2 σ H2 x y v u Q I2 rx ry q) hm
def TruV(K:qA0)(x:V)(H:Hp)(k:Bool):Prop:=
 match x with
 |.non=>k=false
 |.bl b=>k=b
 |.int i=>k=(i != 0)
 |.str y=>y.length<=sizeLine/\k=((y.length:Int) != 0)
 |.byt y=>y.size<=sizeLine/\k=((y.size:Int) != 0)
 |.ref p=>(∃xs,SqL K H p xs/\k = !xs.isEmpty)\/(∃xs,SqT K H p xs/\k = !xs.isEmpty)\/∃kvs,H p=some (.dK kvs)/\k = !kvs.isEmpty
 |_=>False
theorem zKR{κ:Type}{kvs:List (κ×V)}{vs:List (κ×Value)}(r:KV kvs vs):(!vs.isEmpty) = !kvs.isEmpty:=by
 cases r<;>rfl
theorem zGE{xs:List V}{its:List Value}(r:Vals xs its):(!its.toArray.isEmpty) = !xs.isEmpty:=by
 cases r<;>simp
theorem zFK:(sizeLine:Nat)<2 ^ 63:=by rw[sizeLine_eq];decide
theorem zR4:TruR X (fun x H Q=>∃k,TruV X.K x H k/\Q k H):=by
 intro pins s σ H x v Q I rx h;obtain⟨k,e,q⟩:=h;have hl:=zFK;have hs:sizeLine=16777216:=sizeLine_eq;cases x with
 |non=>
  cases rx;have e':k=false:=e;subst e';exact truthy_none ⟨H,I,q⟩
 |bl b=>
  cases rx;have e':k=b:=e;subst e';exact wpAny_truthy_bool ⟨H,I,q⟩
 |int i=>
  obtain⟨t,rfl⟩:=rx;have e':k=(i != 0):=e;subst e';exact PySem.P.truthy_int ⟨H,I,q⟩
 |str y=>
  obtain⟨t,rfl⟩:=rx;obtain⟨hy,e'⟩:y.length<=sizeLine/\k=((y.length:Int) != 0):=e;subst e';exact PySem.P.truthy_str (by lia) ⟨H,I.tok _,q⟩
 |byt y=>
  obtain⟨t,rfl⟩:=rx;obtain⟨hy,e'⟩:y.size<=sizeLine/\k=((y.size:Int) != 0):=e;subst e';exact PySem.W.truthy_bytes (by lia) ⟨H,I.tok _,q⟩
 |ref p=>
  cases rx;have e':(∃xs,SqL X.K H p xs/\k = !xs.isEmpty)\/(∃xs,SqT X.K H p xs/\k = !xs.isEmpty)\/∃kvs,H p=some (.dK kvs)/\k = !kvs.isEmpty:=e
  rcases e' with⟨xs,hx,e'⟩|⟨xs,hx,e'⟩|⟨kvs,hx,e'⟩
  ·subst e';obtain⟨its,r,pl,hz⟩:=I.list hx;have hlen:=r.length;exact wpAny_truthy_list pl.isList (by simp only[qAf];lia) ⟨H,I.tok _,by rw[zGE r];exact q⟩
  ·subst e';obtain⟨its,r,pl,hz⟩:=I.tuple hx;have hlen:=r.length;exact truthy_tuple pl (by simp only[qAf];lia) ⟨H,I.tok _,by rw[zGE r];exact q⟩
  ·subst e';obtain⟨hz,hS,vs,r,m⟩:kvs.length<=sizeLine/\(p==sysModules)=false/\∃vs,KV kvs vs/\s.heap.DictOf (zJB X.prog X.w) p vs:=I.hok p _ hx;have hlen:kvs.length=vs.length:=Paired.length r;exact wpAny_truthy_dict hS m (by lia) ⟨H,I.tok _,by rw[zKR r];exact q⟩
 |_=>exact(show False from e).elim
theorem zKL:OpR X (binaryOp .Add) (fun x y H Q=>∃i j,x=.str i/\y=.str j/\i.length+j.length<=sizeLine/\Q (.str (i++j)) H):=by
 intro pins s σ H x y v u Q I rx ry h;obtain⟨i,j,rfl,rfl,hz,q⟩:=h;obtain⟨t,rfl⟩:=rx;obtain⟨t',rfl⟩:=ry;exact add_str (fun t' tk=>⟨.str (i++j),H,I.tok _,⟨_,rfl⟩,q⟩) hz
theorem zHI{x:V}{us:List Value}(r:Vals [x] us):∃u,us=[u]/\RelV x u:=by
 cases r with
 |cons r1 r2=>cases r2;exact⟨_,rfl,r1⟩
theorem zL1{x y:V}{us:List Value}(r:Vals [x,y] us):∃u w',us=[u,w']/\RelV x u/\RelV y w':=by
 cases r with
 |cons r1 r2=>
  cases r2 with
  |cons r3 r4=>cases r4;exact⟨_,_,rfl,r1,r3⟩
theorem zIK(hc:X.calm=true):zC5 X (.builtin "max") (fun xs H Q=>∃i j,xs=[.int i,.int j]/\Q (.int (if j>i then j else i)) H):=by
 intro pins s σ H xs us Q I r h;obtain⟨i,j,rfl,q⟩:=h;obtain⟨u,w',rfl,⟨t,rfl⟩,⟨t',rfl⟩⟩:=zL1 r;refine max_two_ints (I.ok.hd hc) fun h' tk k=>⟨_,H,I.kept k,?_,q⟩
 by_cases hj:j>i
 ·rw[if_pos hj,if_pos hj];exact⟨_,rfl⟩
 ·rw[if_neg hj,if_neg hj];exact⟨_,rfl⟩
theorem zMP(hc:X.calm=true):zC5 X (.builtin "min") (fun xs H Q=>∃i j,xs=[.int i,.int j]/\Q (.int (if j<i then j else i)) H):=by
 intro pins s σ H xs us Q I r h;obtain⟨i,j,rfl,q⟩:=h;obtain⟨u,w',rfl,⟨t,rfl⟩,⟨t',rfl⟩⟩:=zL1 r;refine min_two_ints (I.ok.hd hc) fun h' tk k=>⟨_,H,I.kept k,?_,q⟩
 by_cases hj:j<i
 ·rw[if_pos hj,if_pos hj];exact⟨_,rfl⟩
 ·rw[if_neg hj,if_neg hj];exact⟨_,rfl⟩
end
end L2
namespace L2
open PySem PySem.Spec PyProof.Rows
structure ObjM(h:Heap)(x dx C:Addr)(mA:Str->Option Value):Prop where
 obj:h.get? x=some (qDd C dx)
 ns:h.Ns1 dx mA
 ne:dx≠x
theorem zI6{h:Heap}{dx:Addr}{mA:Str->Option Value}(n:h.Ns1 dx mA):∃od,h.get? dx=some od/\∀name,qDn name od=some (mA name):=by
 obtain⟨o,es,ep,ho,hd,hk,_,hm⟩:=n;refine⟨o,ho,fun name=>?_⟩;have e:=hm name;unfold nsFind findBy at e;rw[<- Array.find?_toList]at e;unfold qDn;rw[hd];dsimp only
 split
 ·rename_i y q
  rw[q]at e;exact congrArg some e
 ·rename_i q
  rw[q]at e;have a:es.toList.any (·.refKey)=false:=by
   rw[List.any_eq_false];intro y hy;obtain⟨z,t,hkey⟩:=hk y (Array.mem_toList_iff.mp hy);simp[DictEntry.refKey,hkey]
  have a':¬es.toList.any (·.refKey)=true:=by rw[a];exact qAb
  rw[if_neg a'];exact congrArg some e
theorem ObjM.look{h:Heap}{x dx C:Addr}{mA:Str->Option Value}(I:ObjM h x dx C mA):∃od,qF5 h x (qDd C dx) C (some od)/\∀name,qDn name od=some (mA name):=
 let⟨od,ho,hl⟩:=zI6 I.ns
 ⟨od,⟨I.obj,rfl,rfl,ho⟩,hl⟩
section
variable{prog:Program}{w:World}{A:Around}{E:Value->Shared->Prop}{s:Shared}{K:qA0}{x dx C f:Addr}{mA:Str->Option Value}{name:Str}{v:Value}
end
section
variable{P:Program}{w:World}{H H':Hp}{h h':Heap}{a C dx:Addr}{fs fs':List (Str×V)}
theorem zQH(hok:HOk P w H h)(e:H a=some (.ins C dx fs)):∃mA,ObjM h a dx C mA/\(∀f,RelO (fs.lookup f) (mA f))/\qFl mA (fs.map (·.1))/\fs.length<=1000/\H dx=some (.own a):=by
 obtain⟨d,z,ne,ob,mA,n,r,q⟩:=(show ObjOk P w H h a (.ins C dx fs) from hok a _ e)
 exact⟨mA,⟨ob,n,ne⟩,r,q,z,d⟩
end
structure Cls(K:qA0)(C:Addr):Prop where
 pg:qEh K C Str.empty=true
 hd:qC9 K C=true
 po:PySem.W.plainOver K C=true
 sa:qAi K (.ref C) "__setattr__" = some (some (.builtin "object.__setattr__"))
theorem Cls.get{K:qA0}{C:Addr}(c:Cls K C)(f:Str):qEh K C f=true:=c.pg
def zPG(K:qA0)(C:Addr)(f:Str):Prop:=qAi K (.ref C) f=some none
structure Con(K:qA0)(C:Addr)(f:Str)(v:V)(u:Value):Prop where
 at_:qAi K (.ref C) f=some (some u)
 rel:RelV v u
 get:qBs K u "__get__" = some none
 cp:PySem.W.copiedNames.contains f=false
structure Meth(K:qA0)(C:Addr)(m:Str)(f:Addr):Prop where
 at_:qAi K (.ref C) m=some (some (.ref f))
 fn:qEd K (.ref f)=true
 kp:qAp K (.ref f)=true
section
variable{X:Cx}{pins:List (Addr×Obj)}{σ:St}{H:Hp}{s:Shared}{a C dx:Addr}{fs:List (Str×V)}{f:Str}{v:V}{A:Around}{E:Value->Shared->Prop}
end
section
variable{X:Cx}{o e value:Expr}{f:Str}{pos pos' tpos:Pos}{ta tv:TE}
end
section
variable{X:Cx}{pins:List (Addr×Obj)}{σ:St}{H:Hp}{s:Shared}{A:Around}{E:Value->Shared->Prop}{Q:Value->Shared->Prop}{c:Value}{b:Bool}
inductive TyOf(K:qA0)(H:Hp):V->Value->Prop where
 |non:TyOf K H .non (.type "NoneType")
 |bl (x:Bool):TyOf K H (.bl x) (.type "bool")
 |int (i:Int):TyOf K H (.int i) (.type "int")
 |str (x:Str):TyOf K H (.str x) (.type "str")
 |flt (x:UInt64):TyOf K H (.flt x) (.type "float")
 |lst {a:Addr} {xs:List V} (e:H a=some (.lst xs)):TyOf K H (.ref a) (.type "list")
 |frz {a:Addr} {o:Obj} {xs:List V} (e:H a=some (.frz o (.lst xs))):TyOf K H (.ref a) (.type "list")
 |tup {a:Addr} {xs:List V} (e:H a=some (.tup xs)):TyOf K H (.ref a) (.type "tuple")
 |dK {a:Addr} {kvs:List (Key×V)} (e:H a=some (.dK kvs)):TyOf K H (.ref a) (.type "dict")
 |dT {a:Addr} {kvs:List (List Key×V)} (e:H a=some (.dT kvs)):TyOf K H (.ref a) (.type "dict")
 |ins {a C dx:Addr} {fs:List (Str×V)} (e:H a=some (.ins C dx fs)) (cl:Cls K C) (ha:qAi K (.ref C) "__class__" = some (some (.builtin "object.__class__")))
   (hn:qBs K (.builtin "object.__class__") "__get__" = some (some (.builtin "getset_descriptor.__get__"))) (htk:qDe K (.builtin "object.__class__")=some true)
   (hm:qCi K C (.type "object")=some true):TyOf K H (.ref a) (.ref C)
theorem zM6{x:V}{u t:Value}(I:Inv X pins σ H s)(rx:RelV x u)(ty:TyOf X.K H x t)(e:qAy X.K t c=some b)(h:∀tk,Q (.bool b) { s with toks:=tk }) :
  wpAny (model X.prog X.w) A (call (.builtin "isinstance") [u,c]) Q E s:=by
 cases ty with
 |non=>cases(show u=Value.none from rx);exact qAt PySem.W.kitx_none I.kIn qDm e (fun z=>nomatch z) h
 |bl y=>cases(show u=Value.bool y from rx);exact qAt PySem.W.kitx_bool I.kIn qDm e (fun z=>nomatch z) h
 |int i=>obtain⟨t,q⟩:=(show ∃t,u=Value.int i t from rx);cases q;exact qAt PySem.W.kitx_int I.kIn qDm e (fun z=>nomatch z) h
 |str y=>obtain⟨t,q⟩:=(show ∃t,u=Value.str y t from rx);cases q;exact qAt PySem.W.kitx_str I.kIn qDm e (fun z=>nomatch z) h
 |flt y=>obtain⟨t,q⟩:=(show ∃t,u=Value.float y t from rx);cases q;exact qAt PySem.W.kitx_float I.kIn qDm e (fun z=>nomatch z) h
 |@lst a xs ea=>
  cases(show u=Value.ref a from rx)
  obtain⟨_,_,n,_,h1⟩:=(show ObjOk X.prog X.w H s.heap a (.lst xs) from I.hok a _ ea)
  exact qAt qE6 I.kIn ⟨_,h1,rfl⟩ e (fun z=>nomatch z) h
 |@frz a ob xs ea=>
  cases(show u=Value.ref a from rx)
  obtain⟨_,_,_,n,_,h1⟩:=(show ObjOk X.prog X.w H s.heap a (.frz ob (.lst xs)) from I.hok a _ ea)
  exact qAt qE6 I.kIn ⟨_,h1,rfl⟩ e (fun z=>nomatch z) h
 |@tup a xs ea=>
  cases(show u=Value.ref a from rx)
  obtain⟨_,_,_,p⟩:=(show ObjOk X.prog X.w H s.heap a (.tup xs) from I.hok a _ ea)
  obtain⟨o,h1,h2,_⟩:=p;exact qAt PySem.W.kitx_tuple I.kIn ⟨o,h1,h2⟩ e (fun z=>nomatch z) h
 |@dK a kvs ea=>
  cases(show u=Value.ref a from rx)
  obtain⟨_,_,vs,_,p⟩:=(show ObjOk X.prog X.w H s.heap a (.dK kvs) from I.hok a _ ea)
  obtain⟨o,es,ep,h1,h2,_⟩:=p;exact qAt qE7 I.kIn ⟨o,h1,h2.1⟩ e (fun z=>nomatch z) h
 |@dT a kvs ea=>
  cases(show u=Value.ref a from rx)
  obtain⟨_,_,xs,_,o,es,ep,h1,h2,_⟩:=(show ObjOk X.prog X.w H s.heap a (.dT kvs) from I.hok a _ ea)
  exact qAt qE7 I.kIn ⟨o,h1,h2.1⟩ e (fun z=>nomatch z) h
 |@ins a C dx fs ea cl ha hn htk hm=>
  cases(show u=Value.ref a from rx)
  obtain⟨mA,O,_⟩:=zQH I.hok ea;obtain⟨od,J,_⟩:=O.look;exact qAt (PySem.W.kitx_own (cl.get _) cl.hd ha hn htk hm) I.kIn J e (fun z=>nomatch z) h
end
end L2
namespace L2
open PySem PySem.Spec PyProof.Rows
structure Room(k:Nat)(A:Around):Prop where
 hd:A.handled=none
 dp:A.depth+3*k+5<recursionLimit
 un:A.units+16*k+200<cLine
theorem Room.mono{j k:Nat}{A:Around}(r:Room k A)(h:j<=k):Room j A:=⟨r.hd,by have:=r.dp;lia,by have:=r.un;lia⟩
theorem Room.deeper{k:Nat}{A:Around}(r:Room (k+1) A)(env:Env):Room k (A.deeper env):=
 ⟨r.hd,by have:=r.dp;show A.depth+1+3*k+5<_;lia,by have:=r.un;show A.units+3+16*k+200<_;lia⟩
theorem Room.depth{k:Nat}{A:Around}(r:Room k A):A.depth<recursionLimit:=by have:=r.dp;lia
theorem Room.units{k:Nat}{A:Around}(r:Room k A):A.units+64<cLine:=by have:=r.un;lia
noncomputable def tNil:TA:=fun _ H Q=>Q [] H
noncomputable def zDH(ta:TE)(tr:TA):TA:=fun σ H Q=>ta σ H fun x H1=>tr σ H1 fun xs H2=>Q (x::xs) H2
section
variable{X:Cx}{e:Expr}{es:List Expr}{te:TE}{t:TA}{pos:Pos}
theorem zA4:PA X [] tNil:=fun _ _ _ _ H Q I h=>Calls.spliced_nil ⟨[],H,I,.nil,h⟩
theorem zA1(ha:PE X e te)(hr:PA X es t)(hs:starEach (e::es) X.env=(false,eval e X.env)::starEach es X.env:=by rfl):PA X (e::es) (zDH te t):=by
 intro pos pins s σ H Q I h;rw[hs];show wpAny _ _ (spliced ((false,eval e X.env)::backTo pos (starEach es X.env))) _ _ s;refine Calls.spliced_cons (thn (ha pins s σ H _ I h) fun u s1 z0=>?_);obtain⟨x,H1,I1,r1,q1⟩:=z0;exact thn (hr pos pins s1 σ H1 _ I1 q1) fun us s2 ⟨xs,H2,I2,r2,q2⟩=>⟨x::xs,H2,I2,.cons r1 r2,q2⟩
def tTup(t:TA):TE:=fun σ H Q=>t σ H fun xs H1=>xs.length<=sizeLine/\∀p,H1 p=none->Q (.ref p) (upd H1 p (.tup xs))
def tLst(t:TA):TE:=fun σ H Q=>t σ H fun xs H1=>xs.length<=sizeLine/\∀p,H1 p=none->Q (.ref p) (upd H1 p (.lst xs))
theorem zEM{x1}(h:PA X es t):PE X (.Tuple es x1 pos) (tTup t):=by
 intro pins s σ H Q I hq;refine wpAny_Tuple_spliced (thn (h pos pins s σ H _ I hq) fun us s1 ⟨xs,H1,I1,r,z,q⟩=>⟨by rw[<- r.length];exact z,?_⟩);have hf:H1 s1.heap.objs.size=none:=I1.hok.fresh (qA4 _);refine⟨.ref s1.heap.objs.size,upd H1 s1.heap.objs.size (.tup xs),I1.laid (t':=s1.toks) (fun b u e=>Heap.get?_push_of_some _ e) (qA4 _) ?_,rfl,q _ hf⟩;exact⟨z,us,r,⟨_,Heap.get?_push_size _ rfl,rfl,_,rfl⟩⟩
theorem zBA(h:PA X es t):PE X (.List es pos) (tLst t):=by
 intro pins s σ H Q I hq;refine wpAny_List_spliced (thn (h pos pins s σ H _ I hq) fun us s1 ⟨xs,H1,I1,r,z,q⟩=>⟨by rw[<- r.length];exact z,?_⟩);have hf:H1 s1.heap.objs.size=none:=I1.hok.fresh (qA4 _);refine⟨.ref s1.heap.objs.size,upd H1 s1.heap.objs.size (.lst xs),I1.laid (t':=s1.toks) (fun b u e=>Heap.get?_push_of_some _ e) (qA4 _) ?_,rfl,q _ hf⟩;exact⟨z,us,0,r,Heap.get?_push_size _ rfl⟩
end
abbrev Sp:=List V->Hp->VK->XK->Prop
abbrev CXT:=List Env->Hp->Shared->XK->Value->Shared->Prop
structure Env0(P:Program)(w:World)(K:qA0)(mg:Str->Option Value)(base:Heap)(A:Around)(outer:List Env)(s:Shared)(H:Hp):Prop where
 frames:A.frames=some outer
 mod:Mod K mg base
 bs:∀b o,base.get? b=some o->s.heap.get? b=some o/\H b=none
 bsz:base.objs.size<=s.heap.objs.size
 funs:s.heap.FunFrames base outer
 frf:∀b∈frs outer,H b=none
 hok:HOk P w H s.heap
 bare:AllBare s.gens
def CE(outer:List Env)(P:Program)(w:World)(H:Hp)(s:Shared)(Q:VK)(u:Value)(s':Shared):Prop:=
 ∃v H',s'.os=s.os/\AllBare s'.gens/\Un (frs outer) [] H H' s.heap s'.heap/\HOk P w H' s'.heap/\RelV v u/\Q v H'
def CR(CX:CXT)(outer:List Env)(P:Program)(w:World)(H:Hp)(s:Shared)(Q:VK)(E:XK)(r:Result)(s':Shared):Prop:=
 match r with
 |.ok (.ret u)=>CE outer P w H s Q u s'
 |.ok _=>False
 |.error e=>CX outer H s E e s'
structure FnOk(P:Program)(w:World)(K:qA0)(mg:Str->Option Value)(base:Heap)(CX:CXT)(k:Nat)(f:Addr)(fd:FuncData)(ps:List Str)(sp:Sp):Prop where
 len:∀vs H Q E,sp vs H Q E->vs.length=ps.length
 run:∀(A:Around)(outer:List Env)(s:Shared)(H:Hp)(args:Args)(us:List Value)(vs:List V)(Q:VK)(E:XK),Room k A->Env0 P w K mg base A outer s H->BindsTo s fd args (ps.zip us)->Vals vs us->sp vs H Q E ->
  codeAny (model P w) A (.call (.ref f) args) (CR CX outer P w H s Q E) s
theorem FnOk.imp{P:Program}{w:World}{K:qA0}{mg:Str->Option Value}{base:Heap}{CX:CXT}{k:Nat}{f:Addr}{fd:FuncData}{ps:List Str}{sp sp':Sp}(F:FnOk P w K mg base CX k f fd ps sp)
  (h:∀vs H Q E,sp' vs H Q E->sp vs H Q E):FnOk P w K mg base CX k f fd ps sp':=
 ⟨fun vs H Q E q=>F.len vs H Q E (h _ _ _ _ q),fun A outer s H args us vs Q E hr he hb hv hs=>F.run A outer s H args us vs Q E hr he hb hv (h _ _ _ _ hs)⟩
section
variable{X:Cx}{pins:List (Addr×Obj)}{σ:St}{H:Hp}{s s':Shared}
theorem Inv.env0(I:Inv X pins σ H s):Env0 X.prog X.w X.K X.mg X.base X.A X.stack s H:=
 ⟨I.ok.frames,I.ok.mod,I.bs,qAh I.ok.bsz I.sz,I.stack,I.stkFree,I.hok,I.bare⟩
theorem Inv.after{Q:VK}{u:Value}(I:Inv X pins σ H s)(h:CE X.stack X.prog X.w H s Q u s'):EP X pins σ Q u s':=by
 obtain⟨v,H',os,bare,un,hok,r,q⟩:=h;obtain⟨hh,g,d,t,os'⟩:=s';obtain rfl:os'=s.os:=os;exact⟨v,H',I.call (h':=hh) (g':=g) (d':=d) (t':=t) (ch:=[]) un hok bare (fun b z=>absurd z (by simp)),r,q⟩
end
noncomputable def zG1(sp:Sp)(dvs:List V)(E:XK)(t:TA):TE:=fun σ H Q=>t σ H fun vs H1=>sp (vs++dvs) H1 Q E
def Binds(K:qA0)(fd:FuncData)(ps:List Str)(ds:List Value):Prop:=
 ∀(s:Shared)(us:List Value),K.In s.heap->(us++ds).length=ps.length->BindsTo s fd ⟨us,[]⟩ (ps.zip (us++ds))
theorem Binds.all{K:qA0}{fd:FuncData}{ps:List Str}(h:∀us:List Value,us.length=ps.length->bindArgs fd ⟨us,[]⟩=pure (ps.zip us)):Binds K fd ps []:=fun s us _ hl=>by
 rw[qBp]at hl ⊢;exact .of_eq (h us hl)
def zKE(CX:CXT)(X:Cx)(E:XK):Prop:=∀(pins:List (Addr×Obj))(σ:St)(H:Hp)(s:Shared)(e:Value)(s':Shared),Inv X pins σ H s->CX X.stack H s E e s'->X.xe e s'
section
variable{X:Cx}{CX:CXT}{k:Nat}{f C:Addr}{fd:FuncData}{ps:List Str}{sp:Sp}{dvs:List V}{ds:List Value}{E:XK}{x m:Str}{p pos apos:Pos}{e o:Expr}{es:List Expr}{ta:TE}{t:TA}
theorem zRH{pins:List (Addr×Obj)}{σ:St}{H:Hp}{s:Shared}{Q:VK}{us:List Value}{vs:List V}(F:FnOk X.prog X.w X.K X.mg X.base CX k f fd ps sp)(hr:Room k X.A)(hb:Binds X.K fd ps ds)(hd:Vals dvs ds)(hx:zKE CX X E)
  (I:Inv X pins σ H s) (r:Vals vs us) (h:sp (vs++dvs) H Q E):wpAny (model X.prog X.w) X.A (call (.ref f) us) (EP X pins σ Q) X.xe s:=by
 have r2:Vals (vs++dvs) (us++ds):=r.append hd;have hl:(us++ds).length=ps.length:=by rw[<- r2.length];exact F.len _ _ _ _ h
 refine wpAny_call (codeAny_mono (F.run X.A X.stack s H ⟨us,[]⟩ (us++ds) (vs++dvs) Q E hr I.env0 (hb s us I.kIn hl) r2 h) fun r s' hq=>?_);cases r with
 |error e=>exact hx pins σ H s e s' I hq
 |ok fl=>
  cases fl with
  |ret u=>exact I.after hq
  |next=>exact qA3 hq
  |brk=>exact qA3 hq
  |cont=>exact qA3 hq
theorem zLO(F:FnOk X.prog X.w X.K X.mg X.base CX k f fd ps sp)(hr:Room k X.A)(hg:Gl X x)(hm:X.mg x=some (.ref f))(hk:qAp X.K (.ref f)=true)(hb:Binds X.K fd ps ds)(hd:Vals dvs ds)(hx:zKE CX X E)
  (ha:PA X (e::es) t) (hdb:(x==("__debug__":Str))=false:=by decide) (he:starEach (e::es) X.env=(false,eval e X.env)::starEach es X.env:=by rfl) (hpl:(backTo pos (starEach es X.env)).any (·.1)=false:=by rfl) :
  PE X (.Call (.Name x p) (e::es) [] pos) (zG1 sp dvs E t):=by
 intro pins s σ H Q I h;refine wpAny_Call_Name_kw (zEC I hg hm ?_ hdb);refine qC2 (h₀:=X.base) I.ok.mod.kin hk (thn (ha pos pins s σ H _ I h) fun us s1 ⟨vs,H1,I1,r,q⟩=>⟨I1.kIn,?_⟩) he hpl;exact zRH F hr hb hd hx I1 r q
structure Mk(K:qA0)(C f:Addr):Prop where
 makes:qEm K C=true
 init:qAi K (.ref C) "__init__" = some (some (.ref f))
 fn:qEd K (.ref f)=true
 kp:qAp K (.ref C)=true
end
section
variable{X:Cx}{CX:CXT}{k:Nat}{f C:Addr}{fd:FuncData}{ps ks:List Str}{sp:Sp}{E:XK}{x m:Str}{p pos apos kpos:Pos}{e o:Expr}{es:List Expr}{kws:List Keyword}{te ta:TE}{t tk:TA}{nm:Option Str}
structure KBinds(K:qA0)(fd:FuncData)(ps ks:List Str)(g:List Value->List Value->List Value)(gV:List V->List V->List V):Prop where
 to:∀(s:Shared)(us ws:List Value),K.In s.heap->(g us ws).length=ps.length->BindsTo s fd ⟨us,ks.zip ws⟩ (ps.zip (g us ws))
 rel:∀{vs:List V}{us:List Value}{zs:List V}{ws:List Value},Vals vs us->Vals zs ws->Vals (gV vs zs) (g us ws)
variable{g:List Value->List Value->List Value}{gV:List V->List V->List V}
end
structure FnScope(N P:List Str)(sc:Scope):Prop where
 kind:sc.kind=.function
 co:sc.isCoroutine=false
 gen:sc.isGenerator=false
 nd:N.Nodup
 pre:N.take P.length=P
 par:∀x∈P,sc.names.lookup x=some .local\/sc.names.lookup x=some .cell
 nofree:∀y∈sc.names,y.2≠.free
theorem zIQ{kindOf:Str->Option NameKind}{x:Str}:∀{binds:List (Str×Value)}{m:Str->Option Value},(∀v,(x,v)∉binds)->bindL kindOf binds m x=m x
 |[],_,_=>rfl
 |(n,v)::r,m,h=>by
  unfold bindL;rw[zIQ fun w hw=>h w (qAr _ hw)]
  split
  ·have:x≠n:=by rintro rfl;exact h v qB7
   simp[this]
  ·rfl
theorem zIS{kindOf:Str->Option NameKind}{x:Str}:∀{binds:List (Str×Value)}{m:Str->Option Value},(∀v,(x,v)∉binds)->bindC kindOf binds m x=m x
 |[],_,_=>rfl
 |(n,v)::r,m,h=>by
  unfold bindC;rw[zIS fun w hw=>h w (qAr _ hw)]
  split
  ·rfl
  ·have:x≠n:=by rintro rfl;exact h v qB7
   simp[this]
theorem zIR{kindOf:Str->Option NameKind}{x:Str}{v:Value}:∀{P:List Str}{vs:List Value}{i:Nat}{m:Str->Option Value},P.Nodup->P[i]?=some x->vs[i]?=some v->kindOf x=some .local ->
  bindL kindOf (P.zip vs) m x=some v
 |[],_,_,_,_,h,_,_=>by simp at h
 |_::_,[],_,_,_,_,h,_=>by simp at h
 |p::P,w::vs,0,m,nd,h1,h2,hk=>by
  simp at h1 h2;subst h1;subst h2;show bindL kindOf ((p,w)::P.zip vs) m p=_;unfold bindL;rw[zIQ fun v hv=>(qBj.mp nd).1 (qBq hv).1,if_pos hk];simp
 |p::P,w::vs,i+1,m,nd,h1,h2,hk=>by
  show bindL kindOf ((p,w)::P.zip vs) m x=_;unfold bindL;exact zIR (i:=i) (qBj.mp nd).2 (by simpa using h1) (by simpa using h2) hk
theorem zIT{kindOf:Str->Option NameKind}{x:Str}{v:Value}:∀{P:List Str}{vs:List Value}{i:Nat}{m:Str->Option Value},P.Nodup->P[i]?=some x->vs[i]?=some v->kindOf x≠some .local ->
  bindC kindOf (P.zip vs) m x=some v
 |[],_,_,_,_,h,_,_=>by simp at h
 |_::_,[],_,_,_,_,h,_=>by simp at h
 |p::P,w::vs,0,m,nd,h1,h2,hk=>by
  simp at h1 h2;subst h1;subst h2;show bindC kindOf ((p,w)::P.zip vs) m p=_;unfold bindC;rw[zIS fun v hv=>(qBj.mp nd).1 (qBq hv).1,if_neg hk];simp
 |p::P,w::vs,i+1,m,nd,h1,h2,hk=>by
  show bindC kindOf ((p,w)::P.zip vs) m x=_;unfold bindC;exact zIT (i:=i) (qBj.mp nd).2 (by simpa using h1) (by simpa using h2) hk
noncomputable def start(N:List Str)(vs:List V):St:=vs.map some++qA5 (N.length-vs.length) none
noncomputable def cxOf(CX:CXT)(P:Program)(w:World)(K:qA0)(mg:Str->Option Value)(base:Heap)(N:List Str)(qual:Str)(scope:Scope)(f:Addr)(cd:Value)(A:Around)(outer:List Env)(s:Shared)(H:Hp)(E:XK):Cx where
 prog:=P
 w:=w
 K:=K
 mg:=mg
 base:=base
 A:=A.deeper (envOfC qual scope s.heap.objs.size f cd)
 N:=N
 s₀:=s
 H₀:=H
 env:=envOfC qual scope s.heap.objs.size f cd
 outer:=outer
 stack:=envOfC qual scope s.heap.objs.size f cd::outer
 ex:=[]
 calm:=true
 fn:=fun _=>true
 pn:=[]
 xe:=fun e s'=>wpAny (model P w) (A.deeper (envOfC qual scope s.heap.objs.size f cd)) (leaving (envOfC qual scope s.heap.objs.size f cd) e) (fun _ s''=>CX outer H s E e s'') (fun e' s''=>CX outer H s E e' s'') s'
theorem zKC{sc:Scope}{n:Nat}{x:Str}(h:sc.names.lookup x=some .cell):∃c,(cellsFrom n sc.names []).lookup x=some c:=by
 have q:=qC8 sc.names n [] (.inl h);exact qBz.mp q
theorem zM8{CX:CXT}{P:Program}{w:World}{K:qA0}{mg:Str->Option Value}{base:Heap}{N ps:List Str}{qual:Str}{scope:Scope}{f:Addr}{cd:Value}{A:Around}{outer:List Env}{s s1:Shared}{H:Hp}{E:XK}{us:List Value}{vs:List V}
  (S:FnScope N ps scope) (hd:A.handled=none) (e0:Env0 P w K mg base A outer s H) (hl:vs.length=ps.length) (r:Vals vs us)
  (x:InCallC s s.heap.objs.size (bindL (envOfC qual scope s.heap.objs.size f cd).kindOf (ps.zip us) fun _=>none) (cellsFrom (s.heap.objs.size+1) scope.names []) (bindC (envOfC qual scope s.heap.objs.size f cd).kindOf (ps.zip us) fun _=>none) s1) :
  Inv (cxOf CX P w K mg base N qual scope f cd A outer s H E) [] (start N vs) H s1:=by
 have hpl:ps.length<=N.length:=by have:=congrArg qFr S.pre;rw[qD3]at this;lia
 obtain⟨h1,tk,rfl,hk⟩:=x.done;have noA:∀b:Addr,b∉(cxOf CX P w K mg base N qual scope f cd A outer s H E).ex:=fun b z=>absurd (show b∈([]:List Addr) from z) (by simp)
 refine⟨⟨e0.mod,S.kind,rfl,rfl,qA4 _,fun y z c h1 h2=>?_,fun y hy=>?_,fun y c _ h=>?_,fun _=>hd,Around.frames_deeper e0.frames,.inr ⟨rfl,rfl⟩,fun b z=>absurd z (noA b),e0.bs,e0.bsz,fun b _ _=>noA b,fun b z=>absurd z (noA b),e0.funs,e0.frf⟩,
  rfl,e0.bare,Un.kept hk,⟨_,x.toInCall.ns,fun i y v h1 h2 h3=>?_⟩,fun y c h=>⟨_,x.cell y c h⟩,e0.hok.fresh (qA4 _),fun y c h=>?_,fun p hp=>absurd (show p∈([]:List (Addr×Obj)) from hp) (by simp),e0.hok.kept hk,?_⟩
 ·exact name_of_addr x.apart (qB5 h1) (qB5 h2)
 ·have hy:scope.names.lookup y=some .cell\/scope.names.lookup y=some .free:=hy
  rcases hy with hy|hy
  ·exact zKC hy
  ·exact absurd rfl (S.nofree _ (qB5 hy))
 ·exact qBe (x.above y c (qB5 h))
 ·have hi:i<vs.length:=by
   unfold start at h2
   by_cases hi:i<vs.length
   ·exact hi
   ·rw[qA8 (by simpa using hi)]at h2;rw[qBa]at h2
    split at h2<;>cases h2
  have ha:vs[i]?=some v:=by
   unfold start at h2;rw[qAa (by simpa using hi),qAg]at h2;cases e:vs[i]? with
   |none=>rw[e]at h2;cases h2
   |some a=>rw[e]at h2;cases h2;rfl
  obtain⟨u,hu,rv⟩:=r.get ha;have hp:ps[i]?=some y:=by
   rw[<- S.pre,List.getElem?_take_of_lt (by lia)];exact h1
  have ndP:ps.Nodup:=by rw[<- S.pre];exact S.nd.sublist (List.take_sublist _ _)
  refine⟨u,rv,?_⟩
  rcases S.par y (qAq hp)with k|k
  ·exact .inl ⟨k,zIR ndP hp hu k⟩
  ·obtain⟨c,e⟩:=zKC (n:=s.heap.objs.size+1) k;refine .inr ⟨.inl k,c,e,?_⟩;have q:=x.cell y c e;rw[zIT ndP hp hu (by show scope.names.lookup y≠_;rw[k];decide)]at q;exact q
 ·exact e0.hok.fresh (qBe (x.above y c (qB5 h)))
 ·unfold start;show _=N.length;rw[qB1,qAn,qCc]
  lia
theorem zO7{CX:CXT}{P:Program}{w:World}{K:qA0}{mg:Str->Option Value}{base:Heap}{k:Nat}{f:Addr}{name qual:Str}{params:Arguments}{body:List Stmt}{scope:Scope}{dV kV doc pm cdv ct oc:Value}{an od:Option Addr}
  {osl:Array (Option Value)} {N ps:List Str} {sp:Sp} (lk:K.lookup f=some ⟨oc,od,.func (qAw name qual params body scope dV kV doc pm an cdv ct),osl⟩) (hcd:qBu K cdv qual=true) (S:FnScope N ps scope)
  (len:∀vs H Q E,sp vs H Q E->vs.length=ps.length)
  (hbody:∀(A:Around)(outer:List Env)(s:Shared)(H:Hp)(vs:List V)(Q:VK)(E:XK),Room k (A.deeper (envOfC qual scope s.heap.objs.size f cdv))->sp vs H Q E ->
   ∃t,PSs (cxOf CX P w K mg base N qual scope f cdv A outer s H E) body t/\t { nx:=fun _ H'=>Q .non H',rt:=Q } (start N vs) H) :
  FnOk P w K mg base CX (k+1) f (qAw name qual params body scope dV kV doc pm an cdv ct) ps sp:=by
 refine⟨len,fun A outer s H args us vs Q E hr e0 hb r hsp=>?_⟩;have hl:=len _ _ _ _ hsp;have KX:K.In s.heap:=e0.mod.kin.keeps fun b o e=>(e0.bs b o e).1
 have lim:s.heap.NoLimit:=e0.mod.nolimit.keeps fun b o e=>(e0.bs b o e).1
 have hkind:∀y∈ps.zip us,scope.names.lookup y.1=some .local\/(scope.names.lookup y.1=some .cell/\((cellsFrom (s.heap.objs.size+1) scope.names []).lookup y.1).isSome=true):=fun⟨n,v⟩ hy=>by
  rcases S.par n (qBq hy).1 with q|q
  ·exact .inl q
  ·exact .inr ⟨q,qC8 _ _ _ (.inl q)⟩
 refine codeAny_call_function hr.depth (KX _ _ lk) rfl S.co S.gen rfl (PySem.W.codeRec_of KX hcd) (hb _ _ _ _ ?_);refine wpAny_newFunctionEnv_cells S.kind hkind fun env he s1 x=>?_
 subst he;refine⟨lim.keeps x.toInCall.keep,codeAny_func ?_⟩;obtain⟨t,ht,hq⟩:=hbody A outer s H vs Q E (hr.deeper _) hsp;have I:Inv (cxOf CX P w K mg base N qual scope f cdv A outer s H E) [] (start N vs) H s1:=zM8 S hr.hd e0 hl r x;refine wpAny_mono (ht [] s1 (start N vs) H _ I hq) (fun fl s' hs=>?_) fun e s' hs=>hs
 have fin:∀{σ':St}{H':Hp}{v:V}{u:Value},Inv (cxOf CX P w K mg base N qual scope f cdv A outer s H E) [] σ' H' s'->RelV v u->Q v H'->CE outer P w H s Q u s':=
  fun{σ' H' v u} J rv q=>⟨v,H',J.os,J.bare,J.base,J.hok,rv,q⟩
 cases fl with
 |ret u=>
  obtain⟨v,σ',H',J,rv,q⟩:=hs;exact fin J rv q
 |next=>
  obtain⟨σ',H',J,q⟩:=hs;exact fin (v:=V.non) (u:=Value.none) J rfl q
 |brk=>
  obtain⟨_,_,_,q⟩:=hs;exact qA3 q
 |cont=>
  obtain⟨_,_,_,q⟩:=hs;exact qA3 q
end L2
namespace L2
open PySem PySem.Spec PyProof.Rows
section
variable{X:Cx}{x:Str}{p pos:Pos}{e:Expr}{es:List Expr}{t:TA}{id T:String}{r:List V->Hp->VK->Prop}
noncomputable def tCB(r:List V->Hp->VK->Prop)(t:TA):TE:=fun σ H Q=>t σ H fun vs H1=>r vs H1 Q
theorem zAJ(hc:zC5 X (.builtin id) r)(hg:Gl X x)(hm:X.mg x=none)(hv:bootBuiltins x=some (.builtin id))(ha:PA X (e::es) t)(hn:x ≠ "__name__":=by decide)(hdb:(x==("__debug__":Str))=false:=by decide)
  (he:starEach (e::es) X.env=(false,eval e X.env)::starEach es X.env:=by rfl) (hpl:(backTo pos (starEach es X.env)).any (·.1)=false:=by rfl):PE X (.Call (.Name x p) (e::es) [] pos) (tCB r t):=by
 intro pins s σ H Q I h;refine wpAny_Call_Name_kw (zGD I hg hm hv ?_ hn hdb);exact qEe (thn (ha pos pins s σ H _ I h) fun us s1 ⟨vs,H1,I1,r1,q1⟩=>hc pins s1 σ H1 vs us Q I1 r1 q1) he hpl
theorem zCF(hc:zC5 X (.type T) r)(hg:Gl X x)(hm:X.mg x=none)(hv:bootBuiltins x=some (.type T))(ha:PA X (e::es) t)(hn:x ≠ "__name__":=by decide)(hdb:(x==("__debug__":Str))=false:=by decide)
  (he:starEach (e::es) X.env=(false,eval e X.env)::starEach es X.env:=by rfl) (hpl:(backTo pos (starEach es X.env)).any (·.1)=false:=by rfl):PE X (.Call (.Name x p) (e::es) [] pos) (tCB r t):=by
 intro pins s σ H Q I h;refine wpAny_Call_Name_kw (zGD I hg hm hv ?_ hn hdb);exact qBo (thn (ha pos pins s σ H _ I h) fun us s1 ⟨vs,H1,I1,r1,q1⟩=>hc pins s1 σ H1 vs us Q I1 r1 q1) he hpl
end
end L2
namespace HT
open PySem PyProof.Rows
section
open PySem.SeqAt
open PySem.AutoSeq1 (wpAny_loadPart')
open PySem.MeetsSeq PySem.MeetsSeq2 PySem.MeetsSeq3
end
section
variable{prog:Program}{w:World}{A:Around}{E:Value->Shared->Prop}{s:Shared}
noncomputable def sIx(n d:Nat):Option Int->Nat
 |none=>d
 |some v=>if v<0 then(v+(n:Int)).toNat else min v.toNat n
end
end HT
namespace L2
open PySem PySem.Spec PyProof.Rows
abbrev TO:=St->Hp->(Option Int->Hp->Prop)->Prop
def PO(X:Cx)(e:Option Expr)(t:TO):Prop:=
 ∀(pins:List (Addr×Obj))(s:Shared)(σ:St)(H:Hp)(Q:Option Int->Hp->Prop),Inv X pins σ H s->t σ H Q ->
  wpAny (model X.prog X.w) X.A (evalPart e X.env) (fun u s'=>∃o H',Inv X pins σ H' s'/\IsPart u o/\Q o H') X.xe s
noncomputable def zL5:TO:=fun _ H Q=>Q none H
noncomputable def zR7(t:TE):TO:=fun σ H Q=>t σ H fun x H1=>∃i,x=.int i/\Q (some i) H1
section
variable{X:Cx}{e:Expr}{te:TE}{lo hi:Option Expr}{tl th:TO}{pos p2:Pos}
theorem zPW:PO X none zL5:=by
 intro pins s σ H Q I h;rw[evalPart_none];exact wpAny_pure ⟨none,H,I,.none,h⟩
theorem zPV(h:PE X e te):PO X (some e) (zR7 te):=by
 intro pins s σ H Q I hw;rw[evalPart_some];refine thn (h pins s σ H _ I hw) fun u s1 z0=>?_
 obtain⟨x,H1,I1,r1,q1⟩:=z0;obtain⟨i,rfl,q⟩:=q1;obtain⟨t,rfl⟩:=r1;exact⟨some i,H1,I1,.int i t,q⟩
def SlR(X:Cx)(r:V->Option Int->Option Int->Hp->VK->Prop):Prop:=
 ∀(pins:List (Addr×Obj))(s:Shared)(σ:St)(H:Hp)(x:V)(v vl vu:Value)(lo hi:Option Int)(sl:Addr)(Q:VK),Inv X pins σ H s->RelV x v->s.heap.IsSliceOf sl vl vu .none->IsPart vl lo->IsPart vu hi->r x lo hi H Q ->
  ∃T id,typeLookup (.type T) "__getitem__" = pure (some (.builtin id))/\s.TypeIs v T/\wpAny (model X.prog X.w) X.A (getItem v (.ref sl)) (EP X pins σ Q) X.xe s
noncomputable def tSl(r:V->Option Int->Option Int->Hp->VK->Prop)(te:TE)(tl th:TO):TE:=fun σ H Q=>te σ H fun x H1=>tl σ H1 fun l H2=>th σ H2 fun u H3=>r x l u H3 Q
theorem zNN{r:V->Option Int->Option Int->Hp->VK->Prop}(hr:SlR X r)(he:PE X e te)(hl:PO X lo tl)(hu:PO X hi th):PE X (.Subscript e (.Slice lo hi none p2) pos) (tSl r te tl th):=by
 intro pins s σ H Q I h;refine Subscript_ (thn (he pins s σ H _ I h) fun v s1 z0=>?_);obtain⟨x,H1,I1,r1,q1⟩:=z0;refine wpAny_Slice (thn (hl pins s1 σ H1 _ I1 q1) fun vl s2 ⟨l,H2,I2,pl,q2⟩=>thn (hu pins s2 σ H2 _ I2 q2) fun vu s3 ⟨u,H3,I3,pu,q3⟩=>?_);rw[evalPart_none];refine wpAny_pure ?_;have I4:Inv X pins σ H3 { s3 with heap:=s3.heap.push { cls:=.type "slice",data:=.fields #[vl,vu,.none] } }:=I3.kept (t':=s3.toks) fun b ob q=>Heap.get?_push_of_some _ q
 obtain⟨T,id,hT,ht,hg⟩:=hr pins { s3 with heap:=s3.heap.push { cls:=.type "slice",data:=.fields #[vl,vu,.none] } } σ H3 x v vl vu l u s3.heap.objs.size Q I4 r1 (Heap.IsSliceOf.new ..) pl pu q3;show wpAny (model X.prog X.w) X.A (subscriptTail e (.Slice lo hi none p2) v (.ref s3.heap.objs.size)) (EP X pins σ Q) X.xe { s3 with heap:=s3.heap.push { cls:=.type "slice",data:=.fields #[vl,vu,.none] } };exact tail_any (ops:=[.ref s3.heap.objs.size,v]) ht hT hg (by with_unfolding_all rfl)
def cutV(xs:List V)(lo hi:Option Int):List V:=(xs.drop (HT.sIx xs.length 0 lo)).take (HT.sIx xs.length xs.length hi-HT.sIx xs.length 0 lo)
theorem zJI(xs:List V)(lo hi:Option Int):(cutV xs lo hi).length<=xs.length:=by
 unfold cutV;rw[qD3,qEi]
 lia
end
end L2
namespace L2
open PySem PySem.Spec PyProof.Rows
noncomputable def ixN(n:Nat)(i:Int):Option Nat:=if 0<=i then(if i<n then some i.toNat else none)else if -(n:Int)<=i then some (i+n).toNat else none
def atI{α:Type}(xs:List α)(i:Int):Option α:=(ixN xs.length i).bind fun j=>xs[j]?
theorem zM3{n:Nat}{i:Int}{j:Nat}(h:ixN n i=some j):seqIndex? i n=some j/\j<n/\-(n:Int)<=i/\i<n:=by
 unfold ixN at h
 by_cases h0:0<=i
 ·rw[if_pos h0]at h
  by_cases h1:i<n
  ·rw[if_pos h1]at h;have e:i.toNat=j:=qAv h;exact⟨by rw[seqIndex_of h0 h1,e],by lia,by lia,h1⟩
  ·rw[if_neg h1]at h;cases h
 ·rw[if_neg h0]at h
  by_cases h1:-(n:Int)<=i
  ·rw[if_pos h1]at h;have e:(i+n).toNat=j:=qAv h;exact⟨by rw[seqIndex_neg (by lia) h1,e],by lia,h1,by lia⟩
  ·rw[if_neg h1]at h;cases h
theorem zJN{α:Type}{xs:List α}{i:Int}{v:α}(h:atI xs i=some v):∃j,seqIndex? i xs.length=some j/\xs[j]?=some v/\j<xs.length/\-(xs.length:Int)<=i/\i<xs.length:=by
 unfold atI at h;cases e:ixN xs.length i with
 |none=>rw[e]at h;cases h
 |some j=>
  rw[e]at h;obtain⟨h1,h2,h3,h4⟩:=zM3 e;exact⟨j,h1,h,h2,h3,h4⟩
def zQU(b:Expr):Prop:=∀o i,subscripted b false o i=operate [o,i] (getItem o i)
def IxR(X:Cx)(r:R2):Prop:=
 ∀(value slice:Expr)(pins:List (Addr×Obj))(s:Shared)(σ:St)(H:Hp)(x y:V)(v u:Value)(Q:VK),Inv X pins σ H s->RelV x v->RelV y u->r x y H Q ->
  subscripted slice false v u=operate [v,u] (getItem v u)->wpAny (model X.prog X.w) X.A (subscriptTail value slice v u) (EP X pins σ Q) X.xe s
def MtR(X:Cx)(id:String)(r:V->List V->Hp->VK->Prop):Prop:=
 ∀(pins:List (Addr×Obj))(s:Shared)(σ:St)(H:Hp)(x:V)(xs:List V)(v:Value)(us:List Value)(Q:VK),Inv X pins σ H s->RelV x v->Vals xs us->r x xs H Q ->
  wpAny (model X.prog X.w) X.A (call (.builtin id) (v::us)) (EP X pins σ Q) X.xe s
section
variable{X:Cx}{a b:Expr}{ta tb:TE}{pos:Pos}
theorem zAM{r:R2}(hr:IxR X r)(ha:PE X a ta)(hb:PE X b tb)(hs:zQU b):PE X (.Subscript a b pos) (tOp r ta tb):=by
 intro pins s σ H Q I h;exact Subscript_ (binT ha hb I h fun v u s2 x y H2 I2 rx ry q=>hr a b pins s2 σ H2 x y v u Q I2 rx ry q (hs _ _))
def rIxL(K:qA0):R2:=fun x y H Q=>∃p xs i v,x=.ref p/\y=.int i/\SqL K H p xs/\atI xs i=some v/\Q v H
def rIxT(K:qA0):R2:=fun x y H Q=>∃p xs i v,x=.ref p/\y=.int i/\SqT K H p xs/\atI xs i=some v/\Q v H
def rIxS:R2:=fun x y H Q=>∃z i c,x=.str z/\y=.int i/\z.length<=sizeLine/\atI z.cps.toList i=some c/\Q (.str ⟨#[c]⟩) H
theorem zQE:IxR X (rIxL X.K):=by
 intro value slice pins s σ H x y v u Q I rx ry h hs;obtain⟨p,xs,i,z,rfl,rfl,hq,he,q⟩:=h;cases rx;obtain⟨t,rfl⟩:=ry;obtain⟨its,r,pl,hz⟩:=I.list hq;obtain⟨j,h1,h2,h3,h4,h5⟩:=zJN he;obtain⟨w,ew,rw'⟩:=r.get h2;have hl:=r.length;have hn:=zFK;have fin:EP X pins σ Q w s:=⟨z,H,I,rw',q⟩
 by_cases h0:0<=i
 ·have hj:i.toNat=j:=by
   rw[seqIndex_of h0 h5]at h1;exact qAv h1
  exact item_listR pl.isList h0 (by lia) (by rw[hj];simpa using ew) fin hs
 ·have hj:(i+(its.toArray.size:Int)).toNat=j:=by
   rw[seqIndex_neg (by lia) h4]at h1;rw[qAf,<- hl];exact qAv h1
  exact subscriptTail_builtinR (x:=w) pl.isList.typeIs slot_list_getitem.lookup
   (wpAny_getItem_list_neg (Q:=fun r s'=>r=w/\EP X pins σ Q r s') pl.isList (by lia) (by rw[qAf]<;>lia) (by lia) (by rw[hj];simpa using ew) ⟨rfl,fin⟩) hs
theorem zT1:IxR X (rIxT X.K):=by
 intro value slice pins s σ H x y v u Q I rx ry h hs;obtain⟨p,xs,i,z,rfl,rfl,hq,he,q⟩:=h;cases rx;obtain⟨t,rfl⟩:=ry;obtain⟨its,r,pl,hz⟩:=I.tuple hq;obtain⟨j,h1,h2,h3,h4,h5⟩:=zJN he;obtain⟨w,ew,rw'⟩:=r.get h2;have hl:=r.length;have hn:=zFK;have fin:EP X pins σ Q w s:=⟨z,H,I,rw',q⟩
 exact subscriptTail_builtinR (x:=w) pl.typeIs slot_tuple_getitem.lookup
  (getItem_tuple (j:=j) (Q:=fun r s'=>r=w/\EP X pins σ Q r s') pl (by lia) (by lia) (by rw[qAf,<- hl];exact h1) (by simpa using ew) ⟨rfl,fin⟩) hs
theorem zT3:IxR X rIxS:=by
 intro value slice pins s σ H x y v u Q I rx ry h hs;obtain⟨z,i,c,rfl,rfl,hz,he,q⟩:=h;obtain⟨t,rfl⟩:=rx;obtain⟨t',rfl⟩:=ry;obtain⟨j,h1,h2,h3,h4,h5⟩:=zJN he;have hl:z.cps.toList.length=z.length:=by simp[Str.length]
 rw[hl]at h1 h4 h5;have hn:=zFK;exact tail_any (typeIs_str s z t) slot_str_getitem.lookup (getItem_str (c:=c) (by
  have e1:decide (i < -(2 ^ 63:Int))=false:=decide_eq_false (by lia);have e2:decide (i>=2 ^ 63)=false:=decide_eq_false (by lia);rw[e1,e2,Bool.or_false]) (by rw[h1];simpa using h2) ⟨.str ⟨#[c]⟩,H,I.tok _,⟨_,rfl⟩,q⟩) hs
theorem zKP(its:List Value)(n j:Nat)(u:Value):Obj.mapSeq (·.setIfInBounds j u) { cls:=.type "list",data:=.seq its.toArray n }={ cls:=.type "list",data:=.seq (its.set j u).toArray n }:=by
 simp[Obj.mapSeq]
theorem Inv.lst{pins:List (Addr×Obj)}{σ:St}{H:Hp}{s:Shared}{p:Addr}{xs:List V}(I:Inv X pins σ H s)(h:H p=some (.lst xs)) :
  ∃(its:List Value)(n:Nat),Vals xs its/\s.heap.get? p=some { cls:=.type "list",data:=.seq its.toArray n }/\xs.length<=sizeLine:=by
 obtain⟨z,its,n,r,e⟩:=I.hok p _ h;exact⟨its,n,r,e,z⟩
theorem Inv.lstUpd{pins:List (Addr×Obj)}{σ:St}{H:Hp}{s:Shared}{p:Addr}{xs ys:List V}{its its':List Value}{n n':Nat}{f:Obj->Obj}(I:Inv X pins σ H s)(h:H p=some (.lst xs))
  (ho:s.heap.get? p=some { cls:=.type "list",data:=.seq its.toArray n }) (hf:f { cls:=.type "list",data:=.seq its.toArray n }={ cls:=.type "list",data:=.seq its'.toArray n' }) (r:Vals ys its') (hz:ys.length<=sizeLine) (t:Nat) :
  Inv X pins σ (upd H p (.lst ys)) { s with heap:=s.heap.update p f,toks:=t }:=by
 have e:(s.heap.update p f).get? p=some { cls:=.type "list",data:=.seq its'.toArray n' }:=by
  rw[Heap.get?_update_self f ho (by rw[hf]<;>rfl),hf]
 refine I.write (x:=p) (e:=p) (by rw[h];trivial) (.inl rfl) (fun b u hb q=>(Heap.get?_update_other _ _ (qCe hb)).trans q) ⟨_,e⟩ ?_;exact⟨hz,its',n',r,e⟩
def zUF:V->V->V->Hp->(Hp->Prop)->Prop:=fun o i v H Q=>∃p xs k j,o=.ref p/\i=.int k/\H p=some (.lst xs)/\ixN xs.length k=some j/\Q (upd H p (.lst (xs.set j v)))
theorem zN8:PSet X zUF:=by
 intro pins s σ H o i v ov iv u Q I ro ri rv h;obtain⟨p,xs,k,j,rfl,rfl,hp,hj,q⟩:=h;cases ro;obtain⟨t,rfl⟩:=ri;obtain⟨its,n,r,ho,hz⟩:=I.lst hp;obtain⟨h1,h2,h3,h4⟩:=zM3 hj;have hl:=r.length;have hn:=zFK;have I':Inv X pins σ (upd H p (.lst (xs.set j v))) { s with heap:=s.heap.update p (Obj.mapSeq (·.setIfInBounds j u)) }:=
  I.lstUpd hp ho (zKP its n j u) (r.set rv j) (by rw[qEn];exact hz) s.toks
 by_cases h0:0<=k
 ·have hk:k.toNat=j:=by
   rw[seqIndex_of h0 h4]at h1;exact qAv h1
  exact PySem.W.ki_setAt ho h0 (by lia) (by rw[qAf,<- hl];exact h4) (by rw[hk];exact⟨_,I',q⟩)
 ·have hk:(k+(its.toArray.size:Int)).toNat=j:=by
   rw[seqIndex_neg (by lia) h3]at h1;rw[qAf,<- hl];exact qAv h1
  exact PySem.W.ki_setBack ho (by lia) (by rw[qAf,<- hl];exact h3) (by lia) (by rw[hk];exact⟨_,I',q⟩)
theorem zHN(lo hi:Option Int)(n:Nat):(sliceBounds lo hi none n).1=((HT.sIx n 0 lo:Nat):Int)/\(sliceBounds lo hi none n).2.1=((HT.sIx n n hi:Nat):Int)/\(sliceBounds lo hi none n).2.2=1:=by
 refine⟨?_,?_,rfl⟩
 ·cases lo with
  |none=>simp[sliceBounds,HT.sIx]
  |some i=>
   simp only[sliceBounds,HT.sIx,qEj,show(1:Int)>0 by decide,if_true]
   by_cases h:i<0
   ·simp only[h,if_true]<;>lia
   ·simp only[h,if_false]<;>lia
 ·cases hi with
  |none=>simp[sliceBounds,HT.sIx]
  |some i=>
   simp only[sliceBounds,HT.sIx,qEj,show(1:Int)>0 by decide,if_true]
   by_cases h:i<0
   ·simp only[h,if_true]<;>lia
   ·simp only[h,if_false]<;>lia
theorem zGO(its:List Value)(lo hi:Option Int):slicePick its.toArray lo hi none=((its.drop (HT.sIx its.length 0 lo)).take (HT.sIx its.length its.length hi-HT.sIx its.length 0 lo)).toArray:=by
 obtain⟨h1,h2,h3⟩:=zHN lo hi its.toArray.size;unfold slicePick;rw[h1,h2,h3];simp only[sliceRange_one,pick_run,qAf]<;>rfl
def rSlL(K:qA0):V->Option Int->Option Int->Hp->VK->Prop:=fun x lo hi H Q=>∃a xs,x=.ref a/\SqL K H a xs/\∀p,H p=none->Q (.ref p) (upd H p (.lst (cutV xs lo hi)))
theorem zPN:SlR X (rSlL X.K):=by
 intro pins s σ H x v vl vu lo hi sl Q I rx hs pl pu h;obtain⟨a,xs,rfl,hx,q⟩:=h;cases rx;obtain⟨its,r,ht,hz⟩:=I.list hx;have hlen:=r.length;refine⟨"list",_,slot_list_getitem.lookup,ht.isList.typeIs,?_⟩;refine wpAny_getItem_list_slice ht.isList hs pl pu .none (by simp) ?_ (by rw[qAf]<;>lia);rw[zGO,<- hlen];refine⟨.ref s.heap.objs.size,_,I.laid (t':=s.toks) (o:=.lst (cutV xs lo hi)) (fun b ob q=>Heap.get?_push_of_some _ q) (qA4 _) ?_,rfl,q _ (I.hok.fresh (qA4 _))⟩;exact⟨qAh (zJI xs lo hi) hz,_,0,(r.drop (HT.sIx xs.length 0 lo)).take (HT.sIx xs.length xs.length hi-HT.sIx xs.length 0 lo),Heap.get?_push_size _ rfl⟩
noncomputable def zED:V->Bool
 |.non=>true
 |.bl _=>true
 |.int _=>true
 |.str _=>true
 |_=>false
noncomputable def eqV:V->V->Bool
 |.non,.non=>true
 |.bl a,.bl b=>a==b
 |.bl a,.int b=>(if a then 1 else 0)==b
 |.int a,.bl b=>a==(if b then 1 else 0)
 |.int a,.int b=>a==b
 |.str a,.str b=>a==b
 |_,_=>false
theorem zP7{A:Around}{s:Shared}{y x:V}{u v:Value}(ry:RelV y u)(rx:RelV x v)(fy:zED y=true)(fx:zED x=true):SeqAt.EqAt A s u v (eqV y x):=by
 cases y with
 |non=>
  cases ry;cases x with
  |non=>cases rx;exact SeqAt.EqAt.same _
  |bl b=>cases rx;exact SeqAt.EqAt.none_bool b
  |int b=>obtain⟨t,rfl⟩:=rx;exact SeqAt.EqAt.none_int b t
  |str b=>obtain⟨t,rfl⟩:=rx;exact SeqAt.EqAt.none_str b t
  |_=>exact absurd (show false=true from fx) qAb
 |bl a=>
  cases ry;cases x with
  |non=>cases rx;exact SeqAt.EqAt.bool_none a
  |bl b=>cases rx;exact SeqAt.EqAt.bool_bool a b
  |int b=>obtain⟨t,rfl⟩:=rx;exact SeqAt.EqAt.bool_int a b t
  |str b=>obtain⟨t,rfl⟩:=rx;exact SeqAt.EqAt.bool_str a b t
  |_=>exact absurd (show false=true from fx) qAb
 |int a=>
  obtain⟨t',rfl⟩:=ry;cases x with
  |non=>cases rx;exact SeqAt.EqAt.int_none a t'
  |bl b=>cases rx;exact SeqAt.EqAt.int_bool a t' b
  |int b=>obtain⟨t,rfl⟩:=rx;exact SeqAt.EqAt.int_int a t' b t
  |str b=>obtain⟨t,rfl⟩:=rx;exact SeqAt.EqAt.int_str a t' b t
  |_=>exact absurd (show false=true from fx) qAb
 |str a=>
  obtain⟨t',rfl⟩:=ry;cases x with
  |non=>cases rx;exact SeqAt.EqAt.str_none a t'
  |bl b=>cases rx;exact SeqAt.EqAt.str_bool a t' b
  |int b=>obtain⟨t,rfl⟩:=rx;exact SeqAt.EqAt.str_int a t' b t
  |str b=>obtain⟨t,rfl⟩:=rx;exact SeqAt.EqAt.str_str a t' b t
  |_=>exact absurd (show false=true from fx) qAb
 |_=>exact absurd (show false=true from fy) qAb
def eqU(x:V)(u:Value):Bool:=match u with
 |.none=>eqV .non x
 |.bool b=>eqV (.bl b) x
 |.int i _=>eqV (.int i) x
 |.str z _=>eqV (.str z) x
 |_=>false
theorem zP6{x y:V}{u:Value}(r:RelV y u)(f:zED y=true):eqU x u=eqV y x:=by
 cases y with
 |non=>cases r;rfl
 |bl b=>cases r;rfl
 |int i=>obtain⟨t,rfl⟩:=r;rfl
 |str z=>obtain⟨t,rfl⟩:=r;rfl
 |_=>exact absurd (show false=true from f) qAb
theorem zG0{x:V}:∀{xs:List V}{us:List Value},Vals xs us->xs.all zED=true->us.any (eqU x)=xs.any fun y=>eqV y x
 |_,_,.nil,_=>rfl
 |y::xs,u::us,.cons r t,f=>by
  rw[qC3,qAs]at f;rw[qBt,qBt,zP6 r f.1,zG0 t f.2]
theorem zDY{A:Around}{s:Shared}{x:V}{v:Value}(rx:RelV x v)(fx:zED x=true):∀{xs:List V}{us:List Value},Vals xs us->xs.all zED=true->∀u∈us,SeqAt.EqAt A s u v (eqU x u)
 |_,_,.nil,_=>fun u hu=>by cases hu
 |y::xs,u::us,.cons r t,f=>fun u' hu=>by
  rw[qC3,qAs]at f
  rcases qAk.mp hu with rfl|hu
  ·rw[zP6 r f.1];exact zP7 r rx f.1 fx
  ·exact zDY rx fx t f.2 u' hu
def inV(x:V)(xs:List V):Bool:=xs.any fun y=>eqV y x
def rIn(K:qA0)(neg:Bool):R2:=fun x y H Q=>∃p xs,y=.ref p/\(SqL K H p xs\/SqT K H p xs)/\zED x=true/\xs.all zED=true/\Q (.bl (if neg then !inV x xs else inV x xs)) H
theorem zLR:OpR X (compareOp .In) (rIn X.K false):=by
 intro pins s σ H x y v u Q I rx ry h;obtain⟨p,xs,rfl,hq,fx,fs,q⟩:=h;cases ry
 rcases hq with hq|hq
 ·obtain⟨its,r,pl,hz⟩:=I.list hq;refine SeqAt.in_listAt (eqU x) pl.isList (fun w hw=>zDY rx fx r fs w (by simpa using hw)) ⟨.bl _,H,I,rfl,?_⟩;rw[show its.toArray.any (eqU x)=its.any (eqU x) by simp,zG0 r fs];exact q
 ·obtain⟨its,r,pl,hz⟩:=I.tuple hq;refine SeqAt.in_tupleAt (eqU x) pl (fun w hw=>zDY rx fx r fs w (by simpa using hw)) ⟨.bl _,H,I,rfl,?_⟩;rw[show its.toArray.any (eqU x)=its.any (eqU x) by simp,zG0 r fs];exact q
theorem zI0:OpR X (compareOp .NotIn) (rIn X.K true):=by
 intro pins s σ H x y v u Q I rx ry h;obtain⟨p,xs,rfl,hq,fx,fs,q⟩:=h;cases ry
 rcases hq with hq|hq
 ·obtain⟨its,r,pl,hz⟩:=I.list hq;refine SeqAt.notIn_listAt (eqU x) pl.isList (fun w hw=>zDY rx fx r fs w (by simpa using hw)) ⟨.bl _,H,I,rfl,?_⟩;rw[show its.toArray.any (eqU x)=its.any (eqU x) by simp,zG0 r fs];exact q
 ·obtain⟨its,r,pl,hz⟩:=I.tuple hq;refine SeqAt.notIn_tupleAt (eqU x) pl (fun w hw=>zDY rx fx r fs w (by simpa using hw)) ⟨.bl _,H,I,rfl,?_⟩;rw[show its.toArray.any (eqU x)=its.any (eqU x) by simp,zG0 r fs];exact q
theorem zHZ:OpR X (compareOp .NotIn) (fun x y H Q=>∃i j,x=.str i/\y=.str j/\Q (.bl (!(!(Builtin.Str.occurrences j i 0 j.length 1).isEmpty))) H):=by
 intro pins s σ H x y v u Q I rx ry h;obtain⟨i,j,rfl,rfl,q⟩:=h;obtain⟨t,rfl⟩:=rx;obtain⟨t',rfl⟩:=ry;exact notIn_str ⟨.bl _,H,I,rfl,q⟩
theorem zIN:zC5 X (.builtin "len") (fun xs H Q=>∃p ys,xs=[.ref p]/\(SqL X.K H p ys\/SqT X.K H p ys)/\Q (.int ys.length) H):=by
 intro pins s σ H xs us Q I r h;obtain⟨p,ys,rfl,hq,q⟩:=h;obtain⟨u,rfl,rx⟩:=zHI r;cases rx;have hn:=zFK
 rcases hq with hq|hq
 ·obtain⟨its,r',pl,hz⟩:=I.list hq;have hlen:=r'.length;exact Calls.call_len_list pl.isList (by simp only[qAf]<;>lia) ⟨.int ys.length,H,I.tok _,⟨s.toks+1,by rw[qAf,hlen]⟩,q⟩
 ·obtain⟨its,r',pl,hz⟩:=I.tuple hq;have hlen:=r'.length;exact len_tuple pl (by simp only[qAf]<;>lia) ⟨.int ys.length,H,I.tok _,⟨s.toks+1,by rw[qAf,hlen]⟩,q⟩
theorem zIM:zC5 X (.builtin "len") (fun xs H Q=>∃z,xs=[.str z]/\z.length<=sizeLine/\Q (.int z.length) H):=by
 intro pins s σ H xs us Q I r h;obtain⟨z,rfl,hz,q⟩:=h;obtain⟨u,rfl,t,rfl⟩:=zHI r;have hn:=zFK;exact len_str (by lia) ⟨.int z.length,H,I.tok _,⟨_,rfl⟩,q⟩
theorem zIL:zC5 X (.type "list") (fun xs H Q=>∃p ys,xs=[.ref p]/\(SqL X.K H p ys\/SqT X.K H p ys)/\∀l,H l=none->Q (.ref l) (upd H l (.lst ys))):=by
 intro pins s σ H xs us Q I r h;obtain⟨p,ys,rfl,hq,q⟩:=h;obtain⟨u,rfl,rx⟩:=zHI r;cases rx;have fin:∀(its:List Value),Vals ys its->ys.length<=sizeLine->∀(h':Heap)(c':Nat),(∀b o',s.heap.get? b=some o'->h'.get? b=some o') ->
   h'.get? s.heap.objs.size=some { cls:=.type "list",dict:=none,data:=.seq its.toArray c',slots:=#[] }->EP X pins σ Q (.ref s.heap.objs.size) { s with heap:=h' }:=fun its r' hz h' c' kp e=>
  ⟨.ref s.heap.objs.size,_,I.laid (t':=s.toks) kp (qA4 _) (show ObjOk X.prog X.w _ h' _ (.lst ys) from⟨hz,its,c',r',e⟩),rfl,q _ (I.hok.fresh (qA4 _))⟩
 rcases hq with hq|hq
 ·obtain⟨its,r',pl,hz⟩:=I.list hq;have hlen:=r'.length;obtain⟨o,ho,hc,n,hd⟩:=pl.isList;exact call_list_seq p (.inl rfl) ho hc hd (fun h' c' kp e=>fin its r' hz h' c' kp e) (by simp only[qAf]<;>lia)
 ·obtain⟨its,r',pl,hz⟩:=I.tuple hq;have hlen:=r'.length;obtain⟨o,ho,hc,n,hd⟩:=pl;exact call_list_seq p (.inr rfl) ho hc hd (fun h' c' kp e=>fin its r' hz h' c' kp e) (by simp only[qAf]<;>lia)
def tyV(K:qA0)(T:String)(x:V)(H:Hp):Prop:=match x with
 |.str _=>T = "str"
 |.int _=>T = "int"
 |.ref p=>(T = "list" /\ ∃xs,SqL K H p xs)\/(T = "tuple" /\ ∃o,K.lookup p=some o/\o.cls=.type "tuple" /\ o.dict=none) \/
   (T = "dict" /\ ((∃kvs,H p=some (.dK kvs))\/∃kvs,H p=some (.dT kvs)))\/(T = "set" /\ ∃S n,H p=some (.set S n))
 |_=>False
theorem zOK{pins:List (Addr×Obj)}{σ:St}{H:Hp}{s:Shared}{T:String}{x:V}{v:Value}(I:Inv X pins σ H s)(r:RelV x v)(ty:tyV X.K T x H) :
  s.TypeIs v T/\∀a,v=.ref a->∃ob,s.heap.get? a=some ob/\ob.dict=none:=by
 cases x with
 |str z=>
  obtain⟨t,rfl⟩:=r
  cases(show T = "str" from ty)
  exact⟨typeIs_str s z t,fun _ e=>nomatch e⟩
 |int i=>
  obtain⟨t,rfl⟩:=r
  cases(show T = "int" from ty)
  exact⟨typeIs_int s i t,fun _ e=>nomatch e⟩
 |ref p=>
  cases r
  rcases ty with⟨rfl,xs,hq⟩|⟨rfl,o,hk,hc,hd⟩|⟨rfl,hk⟩|⟨rfl,S,n,hk⟩
  ·obtain⟨its,_,pl,_⟩:=I.list hq;refine⟨pl.isList.typeIs,fun a e=>?_⟩;cases e;obtain⟨o,n,e,c,hd,_⟩:=pl;exact⟨o,e,hd⟩
  ·refine⟨⟨o,I.kIn p o hk,hc⟩,fun a e=>?_⟩;cases e;exact⟨o,I.kIn _ o hk,hd⟩
  ·have z:∃o,s.heap.get? p=some o/\o.ExactDict:=by
    rcases hk with⟨kvs,hk⟩|⟨kvs,hk⟩
    ·obtain⟨_,_,_,_,o,_,_,e,ex,_⟩:=I.hok p _ hk;exact⟨o,e,ex⟩
    ·obtain⟨_,_,_,_,o,_,_,e,ex,_⟩:=I.hok p _ hk;exact⟨o,e,ex⟩
   obtain⟨o,e,ex⟩:=z;refine⟨⟨o,e,ex.1⟩,fun a e2=>?_⟩;cases e2;exact⟨o,e,ex.2.1⟩
  ·obtain⟨o,_,_,_,e,ex,_⟩:=I.hok p _ hk;refine⟨⟨o,e,ex.1⟩,fun a e2=>?_⟩;cases e2;exact⟨o,e,ex.2.1⟩
 |_=>exact qA3 ty
variable{o e:Expr}{es:List Expr}{to:TE}{t:TA}{name:Str}{apos cpos:Pos}{T id:String}{r:V->List V->Hp->VK->Prop}
end
end L2
namespace L2
open PySem PySem.Spec PyProof.Rows
def MtM(X:Cx)(id:String)(r:V->List V->Hp->VK->Prop):Prop:=
 ∀(pins:List (Addr×Obj))(s:Shared)(σ:St)(H:Hp)(x:V)(xs:List V)(v:Value)(us:List Value)(Q:VK),Inv X pins σ H s->RelV x v->Vals xs us->r x xs H Q ->
  wpAny (model X.prog X.w) X.A (call (.builtin id) (v::us)) (EP X pins σ Q) X.xe s
theorem Vals.one:∀{x:V}{us:List Value},Vals [x] us->∃u,us=[u]/\RelV x u
 |_,_,.cons r .nil=>⟨_,rfl,r⟩
theorem Vals.zero:∀{us:List Value},Vals [] us->us=[]
 |_,.nil=>rfl
theorem Vals.rep{xs:List V}{us:List Value}(h:Vals xs us):∀k:Nat,Vals (qA5 k xs).flatten (qA5 k us).flatten
 |0=>.nil
 |k+1=>by
  rw[qB6,qB6,qBk,qBk];exact Vals.append h (Vals.rep h k)
theorem zIB(its:List Value):∀(k:Nat)(acc:List Value),
  qFk (fun x1 x2=>x1++x2) acc.toArray (qA5 k its.toArray)=(acc++(qA5 k its).flatten).toArray
 |0,acc=>by simp
 |k+1,acc=>by
  have e:acc.toArray++its.toArray=(acc++its).toArray:=by simp
  have e2:(acc++its)++(qA5 k its).flatten=acc++(qA5 (k+1) its).flatten:=by
   rw[qB6,qBk,qCa]
  rw[<- e2,<- zIB its k (acc++its),<- e,qB6,List.foldl_cons]
section
variable{X:Cx}{pins:List (Addr×Obj)}{σ:St}{H:Hp}{s:Shared}{l b:Addr}{xs ys zs:List V}
theorem Inv.lset{its its':List Value}{n:Nat}{f:Array Value->Array Value}{t':Nat}(I:Inv X pins σ H s)(hH:H l=some (.lst xs))
  (e:s.heap.get? l=some { cls:=.type "list",data:=.seq its.toArray n }) (hf:f its.toArray=its'.toArray) (hv:Vals ys its') (hz:ys.length<=sizeLine) :
  Inv X pins σ (upd H l (.lst ys)) { s with heap:=s.heap.update l (Obj.mapSeq f),toks:=t' }:=by
 have q:=PySem.IsL.update e f;rw[hf]at q;refine I.write (x:=l) (e:=l) (by rw[hH];exact trivial) (.inl rfl) (fun b' u hb hu=>(Heap.get?_update_other s.heap (Obj.mapSeq f) (qCe hb)).trans hu) ⟨_,q⟩ ?_;exact⟨hz,its',_,hv,q⟩
theorem Inv.lnew{its:List Value}{t':Nat}(I:Inv X pins σ H s)(hv:Vals ys its)(hz:ys.length<=sizeLine) :
  Inv X pins σ (upd H s.heap.objs.size (.lst ys)) { s with heap:=s.heap.push { cls:=.type "list",data:=.seq its.toArray },toks:=t' }:=
 I.laid (fun _ _ q=>Heap.get?_push_of_some _ q) (qA4 _) ⟨hz,its,0,hv,Heap.get?_push_size _ rfl⟩
theorem Inv.fresh(I:Inv X pins σ H s):H s.heap.objs.size=none:=I.hok.fresh (qA4 _)
theorem Inv.lstM(I:Inv X pins σ H s)(hH:H l=some (.lst xs)):xs.length<=sizeLine/\∃(its:List Value)(n:Nat),Vals xs its/\xs.length=its.length/\s.heap.get? l=some { cls:=.type "list",data:=.seq its.toArray n }:=by
 obtain⟨z,its,n,r,e⟩:=I.hok l _ hH;exact⟨z,its,n,r,r.length,e⟩
theorem zNT{n:Nat}(h:n<=sizeLine):Builtin.List.listTooLong n=false:=by
 unfold Builtin.List.listTooLong;exact decide_eq_false (by lia)
end
section
variable{X:Cx}
def zPT:V->List V->Hp->VK->Prop:=fun x vs H Q=>∃l xs y,x=.ref l/\vs=[y]/\H l=some (.lst xs)/\xs.length<sizeLine/\Q .non (upd H l (.lst (xs++[y])))
theorem zLU:MtM X "list.append" zPT:=by
 intro pins s σ H x vs v us Q I rx rv h;obtain⟨l,xs,y,rfl,rfl,hH,hz,q⟩:=h;cases rx;obtain⟨u,rfl,ru⟩:=rv.one;obtain⟨z,its,n,r,hl,e⟩:=I.lstM hH;refine call_meets F.slot_list_append ⟨_,e,rfl⟩ F.entry_list_append (F.args_list_append_2 _ _) (PySem.list_append l its.toArray n u (by rw[qAf];lia)) ⟨e,?_⟩;refine⟨.non,_,I.lset (its':=its++[u]) hH e (by simp) (r.append (.cons ru .nil)) ?_,rfl,q⟩;rw[qB1,qDf]
 lia
def zRZ:V->List V->Hp->VK->Prop:=fun x vs H Q=>∃l xs,x=.ref l/\vs=[]/\H l=some (.lst xs)/\Q .non (upd H l (.lst []))
theorem zNV:MtM X "list.clear" zRZ:=by
 intro pins s σ H x vs v us Q I rx rv h;obtain⟨l,xs,rfl,rfl,hH,q⟩:=h;cases rx;have hus:=rv.zero;subst hus;obtain⟨z,its,n,r,hl,e⟩:=I.lstM hH;refine call_meets F.slot_list_clear ⟨_,e,rfl⟩ F.entry_list_clear (F.args_list_clear_1 _) (AutoSeq1.list_clear_list_0 l its.toArray n (by rw[qAf];lia)) ⟨e,?_⟩;exact⟨.non,_,I.lset (its':=[]) (ys:=[]) hH e rfl .nil (qAx _),rfl,q⟩
def rCat:R2:=fun x y H Q=>∃l b xs zs,x=.ref l/\y=.ref b/\H l=some (.lst xs)/\H b=some (.lst zs)/\xs.length+zs.length<=sizeLine/\∀p,H p=none->Q (.ref p) (upd H p (.lst (xs++zs)))
theorem zSO:OpR X (binaryOp .Add) rCat:=by
 intro pins s σ H x y v u Q I rx ry h;obtain⟨l,b,xs,zs,rfl,rfl,hH,hB,hz,q⟩:=h;cases rx;cases ry;obtain⟨z,its,n,r,hl,e⟩:=I.lstM hH;obtain⟨z2,its2,n2,r2,hl2,e2⟩:=I.lstM hB;refine PySem.P.add_list e e2 ?_ (by rw[qAf,qAf];lia);have ea:its.toArray++its2.toArray=(its++its2).toArray:=by simp
 rw[ea];exact⟨.ref _,_,I.lnew (t':=s.toks) (r.append r2) (by rw[qB1];lia),rfl,q _ I.fresh⟩
def rRep:R2:=fun x y H Q=>∃l k xs,x=.ref l/\y=.int k/\H l=some (.lst xs)/\-(2 ^ 63)<=k/\k<2 ^ 63/\xs.length*k.toNat<=sizeLine /\
 ∀p,H p=none->Q (.ref p) (upd H p (.lst (qA5 k.toNat xs).flatten))
theorem zQB{α:Type}(xs:List α)(k:Nat):(qA5 k xs).flatten.length=k*xs.length:=by
 induction k with
 |zero=>simp
 |succ k ih=>rw[qB6,qBk,qB1,ih,Nat.succ_mul,Nat.add_comm]
theorem zSI:OpR X (binaryOp .Mult) rRep:=by
 intro pins s σ H x y v u Q I rx ry h;obtain⟨l,k,xs,rfl,rfl,hH,h1,h2,hz,q⟩:=h;cases rx;obtain⟨t,rfl⟩:=ry;obtain⟨z,its,n,r,hl,e⟩:=I.lstM hH;have hlen:its.toArray.size*k.toNat<=sizeLine:=by rw[qAf,<- hl];exact hz
 have hcap:¬its.toArray.size*k.toNat>(2 ^ 63-1)/8:=by
  have:(sizeLine:Nat)<=(2 ^ 63-1)/8:=by decide
  lia
 have hfit:¬(!Builtin.List.listFitsIndex k)=true:=by
  rw[fitsIndex_both h1 h2];exact qAb
 have hlong:¬Builtin.List.listTooLong (its.toArray.size*k.toNat)=true:=by
  rw[zNT hlen];exact qAb
 have hnew:qFk (fun x1 x2=>x1++x2) #[] (qA5 (if its.toArray.isEmpty=true then 0 else k.toNat) its.toArray)=(qA5 k.toNat its).flatten.toArray:=by
  have f0:∀m:Nat,qFk (fun x1 x2=>x1++x2) #[] (qA5 m its.toArray)=(qA5 m its).flatten.toArray:=fun m=>by
   have:=zIB its m []
   rw[qDg]at this;exact this
  rw[f0];cases its with
  |nil=>simp
  |cons a r'=>rw[if_neg (by simp)]
 refine wpAny_binaryOp_repeat_ref (T:="list") (U:="int") (by decide) ⟨_,e,rfl⟩ (fun s'=>typeIs_int s' k t) noFill_list_mul F.fills_int_mul F.slot_int_rmul repeat_list F.slot_int_index.lookup
  (call_meets F.slot_int_rmul (typeIs_int s k t) F.entry_int_rmul (F.args_int_rmul_2 _ _) (int___rmul___int_list k t l its.toArray n)
   ⟨e,rfl,⟨_,e,rfl⟩,call_meets F.slot_list_mul ⟨_,e,rfl⟩ F.entry_list_mul (F.args_list_mul_2 _ _) (AutoListH.list___mul___list_int_3 l its.toArray n k t hfit hcap hlong) ⟨e,?_⟩⟩)
 rw[hnew];exact⟨.ref _,_,I.lnew (t':=s.toks) (r.rep k.toNat) (by rw[zQB,Nat.mul_comm];exact hz),rfl,q _ I.fresh⟩
end
section
variable{prog:Program}{w:World}{A:Around}{E:Value->Shared->Prop}{s:Shared}
end
section
variable{X:Cx}
end
end L2
namespace L2
open PySem PySem.Spec PyProof.Rows
section
variable{κ:Type}[DecidableEq κ]
noncomputable def zTI(kvs:List (κ×V))(k:κ):List (κ×V):=kvs.filter fun kv=>decide (kv.1≠k)
theorem KV.drop{kvs:List (κ×V)}{vs:List (κ×Value)}(r:KV kvs vs)(k:κ):KV (zTI kvs k) (without vs k):=by
 unfold KV at r ⊢;unfold zTI without
 induction r with
 |nil=>exact .nil
 |@cons p q ps qs h t ih=>
  obtain⟨h1,h2⟩:=h;rw[qEk,qEk]
  by_cases e:p.1=k
  ·have a:¬decide (p.1≠k)=true:=by simp[e]
   have b:¬decide (q.1≠k)=true:=by simp[h1.symm.trans e]
   rw[if_neg a,if_neg b];exact ih
  ·have e':¬q.1=k:=fun z=>e (h1.trans z)
   have a:decide (p.1≠k)=true:=by simp[e]
   have b:decide (q.1≠k)=true:=by simp[e']
   rw[if_pos a,if_pos b];exact .cons ⟨h1,h2⟩ ih
end
section
variable{P:Program}{w:World}{H:Hp}{h:Heap}{a:Addr}
end
section
variable{X:Cx}{pins:List (Addr×Obj)}{σ:St}{H:Hp}{s:Shared}{a:Addr}{y v:V}{u r:Value}{o:Option V}{A:Around}{E:Value->Shared->Prop}
end
section
variable{X:Cx}{pins:List (Addr×Obj)}{σ:St}{H:Hp}{s:Shared}{a:Addr}{kvs:List (Key×V)}{k:Key}{u:Value}{A:Around}{E:Value->Shared->Prop}
end
section
variable{X:Cx}{o i e value:Expr}{pos pos' tpos:Pos}{td ty tv:TE}
end
section
variable{X:Cx}{pos:Pos}
end
structure M1(X:Cx)(o:Expr)(m:Str)(apos:Pos)(e:Expr)(cpos:Pos):Prop where
 base:attributeBase o m X.env (eval o X.env)=eval o X.env
 few:((backTo cpos (starEach [e] X.env)).all (fun x=>!x.1)&&(backToKw cpos (keywordEach [] X.env)).all (fun x=>x.1.isSome)
  && decide (([e]:List Expr).length+([]:List Keyword).length+(if([]:List Keyword).isEmpty then 0 else 1)<30))=true
 line:(apos.endLine==cpos.line)=true
 trees:backTo cpos (starEach [e] X.env)=[(false,eval e X.env)]
structure M2(X:Cx)(o:Expr)(m:Str)(apos:Pos)(e f:Expr)(cpos:Pos):Prop where
 base:attributeBase o m X.env (eval o X.env)=eval o X.env
 few:((backTo cpos (starEach [e,f] X.env)).all (fun x=>!x.1)&&(backToKw cpos (keywordEach [] X.env)).all (fun x=>x.1.isSome)
  && decide (([e,f]:List Expr).length+([]:List Keyword).length+(if([]:List Keyword).isEmpty then 0 else 1)<30))=true
 line:(apos.endLine==cpos.line)=true
 trees:backTo cpos (starEach [e,f] X.env)=[(false,eval e X.env),(false,eval f X.env)]
section
variable{X:Cx}{pins:List (Addr×Obj)}{σ:St}{H:Hp}{s:Shared}{a:Addr}{y d:V}{u r:Value}{o:Option V}{A:Around}{E:Value->Shared->Prop}
end
section
variable{X:Cx}{o e f:Expr}{apos cpos:Pos}{td ty tx:TE}
end
section
variable{X:Cx}{pins:List (Addr×Obj)}{σ:St}{H:Hp}{s:Shared}{a:Addr}{kvs:List (Key×V)}{A:Around}{E:Value->Shared->Prop}
end
section
variable{X:Cx}{pins:List (Addr×Obj)}{σ:St}{H:Hp}{s:Shared}{a:Addr}{y:V}{u:Value}{A:Around}{E:Value->Shared->Prop}
end
end L2
namespace Att
open PySem PySem.W PySem.Calls PyProof.Rows
theorem zFP{P:Params}{h:Heap}:∀(ns:List Int)(vs:List Value),WellAll P h vs (ns.map WData.int)->IntsAre vs ns:=by
 intro ns
 induction ns with
 |nil=>
  intro vs w;rw[List.map_nil]at w;cases w;exact .nil
 |cons n ns ih=>
  intro vs w;rw[qAl]at w;cases w with
  |cons a b=>
   cases a;exact .cons _ _ (ih _ b)
theorem zL9{l:OpenLaw}{n:Nat}(hn:l.most=some n){P:Params}{h:Heap}{args:List WData}{vals:List Value}
  (hpre:l.row.toRowW.claim.pre args=true) (hwl:WellAll P h vals args) :
  ∃a vs ns,vals=[Value.ref a]/\args=[WData.list (ns.map WData.int)]/\h.get? a=some { cls:=.type "list",data:=.seq vs.toArray }/\IntsAre vs ns/\ns.length<=n:=by
 have hsh:WShape.hasAll [] args [.list .int]=true:=(pre_splitW hpre).1;have hc:l.pre.holds [] { args:=args }=true:=(pre_splitW hpre).2;obtain⟨d,r,rfl,h1,h2⟩:=hasAllW_cons hsh;obtain rfl:=hasAllW_nil h2;obtain⟨xs,rfl,h3⟩:=hasW_list h1;obtain⟨ns,rfl⟩:=items_int h3;have hlen:ns.length<=n:=by
  unfold OpenLaw.pre at hc;have h4:(WTm.not (.lt (.lit (.int (n:Int))) (.len (.arg 0)))).holds [] { args:=[.list (ns.map .int)] }=true:=by
   have h4:=(holds_andW hc).1;rw[hn]at h4;exact h4
  have h5:=condW_of h4 (w_not (w_lt w_lit (w_len_list (w_arg rfl))));rw[qAn]at h5;refine Nat.le_of_not_lt fun q=>?_
  have q':(n:Int)<((ns.length:Nat):Int):=by lia
  first
   |(rw[decide_eq_true q']at h5;exact absurd h5 (by decide))
   |(simp at h5;omega)
 cases hwl with
 |cons w1 w2=>
  cases w2;cases w1 with
  |list ho hall=>exact⟨_,_,ns,rfl,rfl,ho,zFP ns _ hall,hlen⟩
theorem zLF(l:OpenLaw)(args:List WData):l.row.toRowW.claim.post args (.bool true) args=true:=
 postW_of (r:=l.row.toRowW) (X:=(true==true))
  (show WShape.has [] (.bool true) .bool=true by first|rfl|decide|simp[WShape.has,WShape.arms,WShape.armsAll])
  (show(WTm.eq .res (.lit (.bool true))).value [] { args:=args,res:=some (.bool true),after:=args }=some (.bool (true==true)) from w_eq_bool (w_res rfl) w_lit) rfl
section
variable{prog:Program}{w:World}{A:Around}{E:Value->Shared->Prop}{s:Shared}{K:Frag}
end
end Att
namespace L2
open PySem PySem.Spec PyProof.Rows
theorem zHH:∀{vs:List Value}{ns:List Int},IntsAre vs ns->Vals (ns.map V.int) vs
 |_,_,.nil=>.nil
 |_,_,.cons n t h=>.cons ⟨t,rfl⟩ (zHH h)
noncomputable def zBL(s:Stmt):Arguments:=match s with
 |.FunctionDef _ a _ _ _ _ _ _ _ _=>a
 |_=>{ posonlyargs:=[],args:=[],vararg:=none,kwonlyargs:=[],kw_defaults:=[],kwarg:=none,defaults:=[] }
noncomputable def zAR(s:Stmt):List Stmt:=match s with
 |.FunctionDef _ _ b _ _ _ _ _ _ _=>b
 |_=>[]
noncomputable def zA5(s:Stmt):Scope:=match s with
 |.FunctionDef _ _ _ _ _ _ sc _ _ _=>sc
 |_=>{ kind:=.function,names:=[],isGenerator:=false,isCoroutine:=false }
abbrev CX0:CXT:=fun _ _ _ _ _ _=>False
abbrev E0:XK:=fun _ _ _=>False
theorem zUH{X:Cx}:zKE CX0 X E0:=fun _ _ _ _ _ _ _ h=>h.elim
structure Fun(K:qA0)(x qual:Str)(st:Stmt)(f:Addr)(fd:FuncData):Prop where
 ex:∃(oc:Value)(od:Option Addr)(kV doc pm:Value)(an:Option Addr)(cdv ct:Value)(osl:Array (Option Value)),
  fd=qAw x qual (zBL st) (zAR st) (zA5 st) .none kV doc pm an cdv ct/\K.lookup f=some ⟨oc,od,.func fd,osl⟩/\qBu K cdv qual=true
 kp:qAp K (.ref f)=true
section
variable{P:Program}{w:World}{K:qA0}{mg:Str->Option Value}{base:Heap}
theorem Fun.ok{x qual:Str}{st:Stmt}{f:Addr}{fd:FuncData}{N ps:List Str}{k:Nat}{sp:Sp}(F:Fun K x qual st f fd)(S:FnScope N ps (zA5 st))(len:∀vs H Q E,sp vs H Q E->vs.length=ps.length)
  (hbody:∀(cdv:Value)(A:Around)(outer:List Env)(s:Shared)(H:Hp)(vs:List V)(Q:VK)(E:XK),Room k (A.deeper (envOfC qual (zA5 st) s.heap.objs.size f cdv))->sp vs H Q E ->
   ∃t,PSs (cxOf CX0 P w K mg base N qual (zA5 st) f cdv A outer s H E).nox (zAR st) t/\t { nx:=fun _ H'=>Q .non H',rt:=Q } (start N vs) H):FnOk P w K mg base CX0 (k+1) f fd ps sp:=by
 obtain⟨oc,od,kV,doc,pm,an,cdv,ct,osl,rfl,lk,hcd⟩:=F.ex;refine zO7 lk hcd S len fun A outer s H vs Q E hr hsp=>?_
 obtain⟨t,h,q⟩:=hbody cdv A outer s H vs Q E hr hsp;exact⟨t,h.nox,q⟩
theorem Fun.binds{x qual:Str}{st:Stmt}{f:Addr}{fd:FuncData}{ps:List Str}(F:Fun K x qual st f fd)
  (h:∀(kV doc pm:Value)(an:Option Addr)(cdv ct:Value)(us:List Value),us.length=ps.length->bindArgs (qAw x qual (zBL st) (zAR st) (zA5 st) .none kV doc pm an cdv ct) ⟨us,[]⟩=pure (ps.zip us)):Binds K fd ps []:=by
 obtain⟨oc,od,kV,doc,pm,an,cdv,ct,osl,rfl,lk,hcd⟩:=F.ex;exact .all (h kV doc pm an cdv ct)
theorem zMC{x qual:Str}{st:Stmt}{f:Addr}{oc:Value}{od an:Option Addr}{osl:Array (Option Value)}{kV doc pm cdv ct:Value}(l:K.lookup f=some ⟨oc,od,.func (qAw x qual (zBL st) (zAR st) (zA5 st) .none kV doc pm an cdv ct),osl⟩)
  (c:qBu K cdv qual=true) (k:qAp K (.ref f)=true):Fun K x qual st f (qAw x qual (zBL st) (zAR st) (zA5 st) .none kV doc pm an cdv ct):=⟨⟨oc,od,kV,doc,pm,an,cdv,ct,osl,rfl,l,c⟩,k⟩
end
section
variable{X:Cx}
theorem pv(i:Nat){x:Str}{pos:Pos}(hN:X.N[i]?=some x:=by rfl)(hv:Vis X.env.scope x:=by first|exact qEo rfl|exact qDw (qEo rfl)|exact qDw (qDw rfl))(hd:(x==("__debug__":Str))=false:=by decide)
  (hcd:(x==("__classdict__":Str))=false:=by decide):PE X (.Name x pos) (tVar i):=zLJ hN hv hd hcd
end
def Same(H H':Hp):Prop:=∀b o,H b=some o->H' b=some o
theorem Same.refl(H:Hp):Same H H:=fun _ _ h=>h
theorem Same.trans{H H1 H2:Hp}(a:Same H H1)(b:Same H1 H2):Same H H2:=fun c o h=>b c o (a c o h)
theorem Same.free{H H':Hp}(e:Same H H'){l:Addr}(h:H' l=qDp):H l=qDp:=by
 cases q:H l with
 |none=>rfl
 |some o=>
  rw[e l o q]at h;cases h
theorem Same.seq{K:qA0}{H H':Hp}{a:Addr}{xs:List V}(e:Same H H')(h:SqL K H a xs):SqL K H' a xs:=by
 rcases h with(h|⟨o,h⟩)|h
 ·exact .inl (.inl (e _ _ h))
 ·exact .inl (.inr ⟨o,e _ _ h⟩)
 ·exact .inr h
section
variable{κ:Type}[DecidableEq κ]
end
end L2
namespace L2
open PySem PySem.Spec PyProof.Rows
theorem asN{a b:Nat}(h:a<b):a<b:=h
theorem asL{a b:Nat}(h:a<=b):a<=b:=h
theorem asE{a b:Nat}(h:a=b):a=b:=h
noncomputable def clos(cells:List (Str×Addr)):List (Str×NameKind)->List (Str×Addr)->List (Str×Addr)
 |[],acc=>acc
 |(n,k)::r,acc=>if k==.free then clos cells r ((n,(cells.lookup n).getD 0)::acc)else clos cells r acc
theorem zD8(cells:List (Str×Addr)):∀(names:List (Str×NameKind))(acc:List (Str×Addr)),clos cells names acc=clos cells names []++acc
 |[],_=>rfl
 |(n,k)::r,acc=>by
  unfold clos
  split
  ·rw[zD8 cells r (_::acc),zD8 cells r [_],qCa];rfl
  ·exact zD8 cells r acc
theorem zF1{cells:List (Str×Addr)}{x:Str}{c:Addr}:∀{names:List (Str×NameKind)},(x,c)∈clos cells names []->(x,NameKind.free)∈names/\c=(cells.lookup x).getD 0
 |[],h=>by simp[clos]at h
 |(n,k)::r,h=>by
  unfold clos at h
  split at h
  ·rename_i hk
   rw[zD8]at h
   rcases qBm.mp h with h|h
   ·obtain⟨h1,h2⟩:=zF1 h;exact⟨qAr _ h1,h2⟩
   ·have e:=qCo.mp h
    injection e with e1 e2
    subst e1;have hk':k=.free:=by simpa using hk
    subst hk';exact⟨qB7,e2⟩
  ·obtain⟨h1,h2⟩:=zF1 h;exact⟨qAr _ h1,h2⟩
theorem zH7{cells:List (Str×Addr)}{x:Str}:∀{names:List (Str×NameKind)},(x,NameKind.free)∈names->(x,(cells.lookup x).getD 0)∈clos cells names []
 |[],h=>by simp at h
 |(n,k)::r,h=>by
  unfold clos
  rcases qAk.mp h with e|h
  ·injection e with e1 e2
   subst e1;subst e2;rw[if_pos (by rfl),zD8];exact qAo _ (by simp)
  ·split
   ·rw[zD8];exact qCh _ (zH7 h)
   ·exact zH7 h
theorem zB9:∀(names:List (Str×NameKind))(n:Nat)(acc:List (Str×Addr)),cellsFrom n names acc=cellsFrom n names []++acc
 |[],_,_=>rfl
 |(x,k)::r,n,acc=>by
  unfold cellsFrom
  split
  ·rw[zB9 r (n+1) (_::acc),zB9 r (n+1) [_],qCa];rfl
  ·exact zB9 r n acc
theorem zC0{x:Str}{c:Addr}:∀{names:List (Str×NameKind)}{n:Nat},(x,c)∈cellsFrom n names []->(x,NameKind.cell)∈names
 |[],_,h=>by simp[cellsFrom]at h
 |(y,k)::r,n,h=>by
  unfold cellsFrom at h
  split at h
  ·rename_i hk
   rw[zB9]at h
   rcases qBm.mp h with h|h
   ·exact qAr _ (zC0 h)
   ·have e:=qCo.mp h
    injection e with e1 e2
    subst e1;have hk':k=.cell:=by simpa using hk
    subst hk';exact qB7
  ·exact qAr _ (zC0 h)
theorem zBP{α:Type}{x:Str}{a:α}:∀{l:List (Str×α)},(l.map (·.1)).Nodup->(x,a)∈l->l.lookup x=some a
 |[],_,h=>by simp at h
 |(y,b)::r,nd,h=>by
  have nd':(y::r.map (·.1)).Nodup:=nd;obtain⟨h1,h2⟩:=qBj.mp nd'
  rcases qAk.mp h with e|hm
  ·injection e with e1 e2
   subst e1;subst e2;rw[qB3,beq_self_eq_true]
  ·have hne:(x==y)=false:=by
    rw[beq_eq_false_iff_ne]
    rintro rfl
    exact h1 (qC0.mpr ⟨(x,a),hm,rfl⟩)
   rw[qB3,hne];exact zBP h2 hm
theorem zDE{α:Type}{x:Str}:∀{l:List (Str×α)},(∀a,(x,a)∉l)->l.lookup x=none
 |[],_=>rfl
 |(y,b)::r,h=>by
  have hne:(x==y)=false:=by
   rw[beq_eq_false_iff_ne]
   rintro rfl
   exact h b qB7
  rw[qB3,hne];exact zDE fun a m=>h a (qAr _ m)
theorem zDD{α:Type}{x:Str}{a:α}:∀{l:List (Str×α)},(x,a)∈l->∃b,l.lookup x=some b
 |[],h=>by simp at h
 |(y,b)::r,h=>by
  rw[qB3];cases e:x==y with
  |true=>exact⟨b,rfl⟩
  |false=>
   rcases qAk.mp h with q|q
   ·injection q with q1 _
    subst q1;rw[beq_self_eq_true]at e;cases e
   ·exact zDD q
theorem zGC{α:Type}{x:Str}:∀(l k:List (Str×α)),(l++k).lookup x=(l.lookup x).or (k.lookup x)
 |[],k=>by simp
 |(y,b)::r,k=>by
  show qCl x ((y,b)::(r++k))=_;rw[qB3,qB3];cases x==y with
  |true=>rfl
  |false=>exact zGC r k
def zTV(sc:Scope)(env:Env):Prop:=∀x,(x,NameKind.free)∈sc.names->env.kindOf x=some .cell\/env.kindOf x=some .free
theorem zE4{sc:Scope}{env:Env}(h:∀x,(x,NameKind.free)∈sc.names->∃c,env.cells.lookup x=some c):closureFor sc env=pure (clos env.cells sc.names []):=by
 have go:∀(names:List (Str×NameKind))(acc:List (Str×Addr)),(∀x,(x,NameKind.free)∈names->∃c,env.cells.lookup x=some c) ->
   (forIn names acc fun(x:Str×NameKind)(cs:List (Str×Addr))=>(match x with|(name,kind)=>if(kind==NameKind.free)=true then(do let c <- cellOf env name;pure (qBr ((name,c)::cs)))else pure (qBr cs):Sem (ForInStep (List (Str×Addr)))))=pure (clos env.cells names acc):=by
  intro names
  induction names with
  |nil=>intro acc _;rfl
  |cons p r ih=>
   intro acc hn;obtain⟨n,k⟩:=p;have hr:∀x,(x,NameKind.free)∈r->∃c,env.cells.lookup x=some c:=fun x hx=>hn x (qAr _ hx)
   rw[List.forIn_cons];unfold clos
   by_cases hk:(k==NameKind.free)=true
   ·have hk':k=.free:=by simpa using hk
    subst hk';obtain⟨c,hc⟩:=hn n qB7;have e:cellOf env n=pure c:=by unfold cellOf;rw[hc]
    rw[if_pos (by rfl)];simp only[if_pos (show(NameKind.free==NameKind.free)=true from rfl),e,hc,qD4,pure_bind];exact ih _ hr
   ·rw[if_neg hk];simp only[if_neg hk,pure_bind];exact ih _ hr
 unfold closureFor;have q:=go sc.names [] h
 first
  |(rw[show(forIn sc.names ([]:List (Str×Addr)) _:Sem (List (Str×Addr)))=_ from q];rfl)
  |(refine(congrArg (fun z=>z >>= pure) q).trans ?_;rfl)
  |(simp only[q];rfl)
  |exact q
def zD7(sc:Scope)(C:Addr)(env:Env):Env:=
 { scope:=relabel sc env,locals:=C,globals:=env.globals,cells:=cellsFrom (C+1) sc.names (clos env.cells sc.names []),qual:=env.qual,func:=none,code:=env.code,frame:=env.frame,builtins:=env.builtins }
theorem zDQ{M:Model}{A:Around}{E:Value->Shared->Prop}{s:Shared}{sc:Scope}{env:Env}{cl:List (Str×Addr)}{Q:Env->Shared->Prop}
  (hQ:Q { scope:=sc,locals:=s.heap.objs.size,globals:=env.globals,cells:=cellsFrom (s.heap.objs.size+1) sc.names cl,qual:=env.qual,func:=none,code:=env.code,frame:=env.frame,builtins:=env.builtins }
   { s with heap:=pushCells (s.heap.push { cls:=.type "dict",data:=.dict #[] }) sc.names }) :
  wpAny M A (newFunctionEnv sc env.globals cl [] env.qual none .none (some env)) Q E s:=by
 simp only[newFunctionEnv,qDx,if_true];refine wpAny_bind (wpAny_alloc ?_);refine wpAny_bind (wpAny_layCells _ (fun name kind cells=>by cases hkc:kind==NameKind.cell<;>simp[hkc]) _ _ _ _ ?_);rw[show({ s with heap:=s.heap.push { cls:=.type "dict",data:=.dict #[] } }:Shared).heap.objs.size=s.heap.objs.size+1 from Heap.size_push ..];refine wpAny_bind ?_;rw[List.forIn_nil];exact wpAny_pure (wpAny_pure hQ)
def zCG(X:Cx)(N':List Str)(sc:Scope)(C:Addr)(s:Shared)(H:Hp)(fp:List Addr):Cx:=
 { X with N:=N',s₀:=s,H₀:=H,env:=zD7 sc C X.env,outer:=X.stack,stack:=X.stack,ex:=fp,fn:=fun x=>sc.names.lookup x==some .cell,pn:=[],xe:=fun _ _=>False }
def PTs(X:Cx)(ifs:List Expr)(t:TT):Prop:=
 ∀(pins:List (Addr×Obj))(s:Shared)(σ:St)(H:Hp)(Q:Bool->Hp->Prop),Inv X pins σ H s->t σ H Q ->
  wpAny (model X.prog X.w) X.A (forIn ifs true fun c r=>if r=true then do let ok <- isTrue c X.env (eval c X.env);pure (qBr ok)else pure (qBr r)) (TP X pins σ Q) X.xe s
noncomputable def tYes:TT:=fun _ H Q=>Q true H
theorem zC2{X:Cx}:PTs X [] tYes:=fun _ _ _ H _ I h=>wpAny_tests_nil ⟨H,I,h⟩
theorem zJ5{X:Cx}{c:Expr}{t:TT}(h:PT X c t):PTs X [c] t:=fun pins s σ H Q I q=>wpAny_tests_one (h pins s σ H Q I q)
structure CompNames(N N':List Str)(k:Nat)(sc:Scope)(env:Env):Prop where
 kind:sc.kind=.function
 nd:(sc.names.map (·.1)).Nodup
 len:N'.length=N.length+k
 old:∀(i:Nat)(x:Str),N'[i]?=some x->i<N.length->(x,NameKind.free)∈sc.names/\N[i]?=some x\/sc.names.lookup x=none
 free:zTV sc env
theorem zBE{sc:Scope}{env:Env}{x:Str}{k:NameKind}:∀{names:List (Str×NameKind)},
  (names.map fun(n,k)=>if(k==NameKind.free&&env.scope.kind==.function&&env.kindOf n==some .cell)then(n,NameKind.cell)else(n,k)).lookup x=some k ->
  names.lookup x=some k\/(names.lookup x=some .free/\k=.cell)
 |[],h=>by simp at h
 |(n,j)::r,h=>by
  have ih:=@zBE sc env x k r;rw[qAl]at h;rw[qB3]
  by_cases hc:(j==NameKind.free&&env.scope.kind==.function&&env.kindOf n==some .cell)=true
  ·have h':qCl x ((n,NameKind.cell)::(r.map fun(n,k)=>if(k==NameKind.free&&env.scope.kind==.function&&env.kindOf n==some .cell)then(n,NameKind.cell)else(n,k)))=some k:=by
    rw[<- h];simp only[if_pos hc]
   rw[qB3]at h';cases e:x==n with
   |true=>
    rw[e]at h';have hk:k=.cell:=(qAv h').symm;have hj:j=.free:=by
     simp only[qAs,beq_iff_eq]at hc;exact hc.1.1
    subst hj;exact .inr ⟨rfl,hk⟩
   |false=>
    rw[e]at h';exact ih h'
  ·have h':qCl x ((n,j)::(r.map fun(n,k)=>if(k==NameKind.free&&env.scope.kind==.function&&env.kindOf n==some .cell)then(n,NameKind.cell)else(n,k)))=some k:=by
    rw[<- h];simp only[if_neg hc]
   rw[qB3]at h';cases e:x==n with
   |true=>rw[e]at h';exact .inl h'
   |false=>rw[e]at h';exact ih h'
section
variable{X:Cx}{N':List Str}{k:Nat}{sc:Scope}{pins:List (Addr×Obj)}{σ:St}{H:Hp}{s:Shared}
theorem zKT{C:Addr}{x:Str}{c:Addr}(nd:(sc.names.map (·.1)).Nodup)(h:(zD7 sc C X.env).cells.lookup x=some c) :
  ((x,c)∈cellsFrom (C+1) sc.names []/\(x,NameKind.cell)∈sc.names)\/((x,NameKind.free)∈sc.names/\c=(X.env.cells.lookup x).getD 0):=by
 have m:=mem_of_lookup h;have m':(x,c)∈cellsFrom (C+1) sc.names (clos X.env.cells sc.names []):=m;rw[zB9]at m'
 rcases qBm.mp m' with z|z
 ·exact .inl ⟨z,zC0 z⟩
 ·exact .inr (zF1 z)
theorem zDF{C:Addr}{x:Str}(nd:(sc.names.map (·.1)).Nodup)(h:(x,NameKind.free)∈sc.names):(zD7 sc C X.env).cells.lookup x=some ((X.env.cells.lookup x).getD 0):=by
 show(cellsFrom (C+1) sc.names (clos X.env.cells sc.names [])).lookup x=_
 rw[zB9,zGC,zDE (fun a m=>?_),Option.none_or]
 ·obtain⟨b,hb⟩:=zDD (zH7 (cells:=X.env.cells) h)
  have:=(zF1 (mem_of_lookup hb)).2
  rw[hb,this]
 ·have e1:=zBP nd (zC0 m);rw[zBP nd h]at e1;cases e1
theorem zO1(I:Inv X pins σ H s)(hc:X.calm=true)(S:CompNames X.N N' k sc X.env){fp:List Addr}(hf:∀b∈fp,FpOk X pins H b)(hfo:∀b∈fp,∃o,s.heap.get? b=some o)
  {s4:Shared} {D C:Addr} (eD:D=s.heap.objs.size) (eC:C=s.heap.objs.size+1)
  (e4:s4={ s with heap:=pushCells ((s.heap.push { cls:=.type "list",data:=.seq #[] 0 }).push { cls:=.type "dict",data:=.dict #[] }) sc.names }) :
  Inv (zCG X N' sc C s H fp) [(D,{ cls:=.type "list",data:=.seq #[] 0 })] (σ++qA5 k none) H s4/\∀b∈fp,FpOk (zCG X N' sc C s H fp) [(D,{ cls:=.type "list",data:=.seq #[] 0 })] H b:=by
 subst eD eC e4
 generalize hh1:s.heap.push { cls:=.type "list",data:=.seq #[] 0 }=h1
 generalize hh2:h1.push { cls:=.type "dict",data:=.dict #[] }=h2
 have sz1:h1.objs.size=s.heap.objs.size+1:=by rw[<- hh1];exact Heap.size_push ..
 have sz2:h2.objs.size=s.heap.objs.size+2:=by rw[<- hh2,Heap.size_push,sz1]
 have k1:∀b o,s.heap.get? b=some o->h1.get? b=some o:=fun b o e=>by rw[<- hh1];exact Heap.get?_push_of_some _ e
 have k2:∀b o,h1.get? b=some o->h2.get? b=some o:=fun b o e=>by rw[<- hh2];exact Heap.get?_push_of_some _ e
 have k3:∀b o,h2.get? b=some o->(pushCells h2 sc.names).get? b=some o:=pushCells_keeps sc.names h2;have kk:∀b o,s.heap.get? b=some o->(pushCells h2 sc.names).get? b=some o:=fun b o e=>k3 b o (k2 b o (k1 b o e))
 have own:CellsOk (pushCells h2 sc.names) h2.objs.size (cellsFrom h2.objs.size sc.names []):=cellsFrom_ok sc.names h2 h2.objs.size [] ⟨fun _ _ hm=>(nomatch hm),qE8⟩ (qA4 _);have eC1:s.heap.objs.size+1+1=h2.objs.size:=by rw[sz2]
 have freeCell:∀x,(x,NameKind.free)∈sc.names->∃c,X.env.cells.lookup x=some c:=fun x hx=>I.ok.has x (S.free x hx)
 have cells:∀x c,(zD7 sc (s.heap.objs.size+1) X.env).cells.lookup x=some c ->
   ((x,c)∈cellsFrom h2.objs.size sc.names []/\(x,NameKind.cell)∈sc.names/\(pushCells h2 sc.names).IsCell c none/\h2.objs.size<=c)\/((x,NameKind.free)∈sc.names/\X.env.cells.lookup x=some c):=fun x c e=>by
  rcases zKT S.nd e with⟨m,q⟩|⟨m,q⟩
  ·rw[eC1]at m;exact .inl ⟨m,q,(own.empty x c m).1,(own.empty x c m).2⟩
  ·obtain⟨c',hc'⟩:=freeCell x m;rw[hc',qD4]at q;subst q;exact .inr ⟨m,hc'⟩
 have old:∀x c,X.env.cells.lookup x=some c->c<s.heap.objs.size:=fun x c e=>by
  obtain⟨v,q⟩:=I.cell x c e;exact q.lt
 have fpl:∀b∈fp,b<s.heap.objs.size:=fun b hb=>by
  obtain⟨o,e⟩:=hfo b hb;exact Heap.lt_size e
 have hCn:H (s.heap.objs.size+1)=none:=I.hok.fresh (qDq _);have hDn:H s.heap.objs.size=none:=I.hok.fresh (qA4 _);have nofs:∀a,s.heap.objs.size<=a->a∉frs X.stack:=fun a ha hb=>by
  rcases qAk.mp (I.stkSub a hb)with e|hb
  ·have t1:=asN I.lt;have t2:=asE e;have t3:=asL ha
   lia
  ·exact I.nofs ha hb
 have fin:∀b∈fp,b∉frs X.stack:=fun b hb z=>by
  obtain⟨f0,f1,f2,f3,f4,f5⟩:=hf b hb
  rcases qAk.mp (I.stkSub b z)with e|z
  ·exact f1 e
  ·exact f2 z
 have ok:(zCG X N' sc (s.heap.objs.size+1) s H fp).Ok:=by
  refine⟨I.ok.mod,S.kind,I.ok.glob,I.ok.blt,qDq _,?_,?_,?_,I.ok.hd,I.ok.frames,.inl rfl,?_,I.bs,qAh I.ok.bsz I.sz,?_,fin,I.stack,I.stkFree⟩
  ·intro x y c hx hy
   rcases cells x c hx with⟨m1,_,_,g1⟩|⟨m1,g1⟩<;>rcases cells y c hy with⟨m2,_,_,g2⟩|⟨m2,g2⟩
   ·exact name_of_addr own.apart m1 m2
   ·exact absurd (qA7 (old y c g2) (qAh (by rw[sz2];exact qD5 _ _) g1)) (qB9 _)
   ·exact absurd (qA7 (old x c g1) (qAh (by rw[sz2];exact qD5 _ _) g2)) (qB9 _)
   ·exact I.ok.inj x y c g1 g2
  ·intro x hx;have hx:(relabel sc X.env).names.lookup x=some .cell\/(relabel sc X.env).names.lookup x=some .free:=hx;have two:sc.names.lookup x=some .cell\/sc.names.lookup x=some .free:=by
    rcases hx with hx|hx
    ·rcases zBE (sc:=sc) hx with q|⟨q,_⟩
     ·exact .inl q
     ·exact .inr q
    ·rcases zBE (sc:=sc) hx with q|⟨_,q⟩
     ·exact .inr q
     ·cases q
   rcases two with q|q
   ·have:=qC8 sc.names (s.heap.objs.size+1+1) (clos X.env.cells sc.names []) (.inl q)
    exact qBz.mp this
   ·exact⟨_,zDF S.nd (mem_of_lookup q)⟩
  ·intro x c hx e;have hx:(sc.names.lookup x==some NameKind.cell)=true:=hx;have hx':sc.names.lookup x=some .cell:=by simpa using hx
   rcases cells x c e with⟨_,_,_,g⟩|⟨m,_⟩
   ·show s.heap.objs.size<=c
    lia
   ·rw[zBP S.nd m]at hx';cases hx'
  ·intro b hb;refine⟨?_,fun x c e z=>?_⟩
   ·exact qAj (qE9 (fpl b hb))
   ·rcases cells x c e with⟨_,_,_,g⟩|⟨_,g⟩
    ·have t1:=asN (fpl b hb);have t2:=asL g;have t3:=asE z
     lia
    ·exact(hf b hb).2.2.2.2.1 x c g z
  ·intro b o e hb
   rcases(hf b hb).2.2.2.1 with z|z
   ·exact I.ok.noex b o e z
   ·exact absurd (qA7 (Heap.lt_size e) (qAh I.ok.bsz z)) (qB9 _)
 have ns:(pushCells h2 sc.names).Ns (s.heap.objs.size+1) fun _=>none:=by
  have q:h2.Ns h1.objs.size fun _=>none:=by rw[<- hh2];exact Heap.Ns.new h1 (.type "dict")
  rw[sz1]at q;exact q.keeps k3
 have hD1:h1.get? s.heap.objs.size=some { cls:=.type "list",data:=.seq #[] 0 }:=by rw[<- hh1];exact Heap.get?_push_size _ rfl
 refine⟨⟨ok,rfl,I.bare,Un.kept kk,⟨_,ns,?_⟩,?_,hCn,?_,?_,I.hok.kept kk,?_⟩,?_⟩
 ·intro i x v h1 h2 h3;have hi:i<X.N.length:=by
   rw[<- I.len]
   by_cases hi:i<σ.length
   ·exact hi
   ·rw[qA8 (by lia),qBa]at h2
    split at h2<;>cases h2
  have h2':σ[i]?=some (some v):=by
   rw[qAa (by rw[I.len];exact hi)]at h2;exact h2
  have h1:N'[i]?=some x:=h1
  rcases S.old i x h1 hi with⟨m,e⟩|e
  ·obtain⟨mm,hn,hl⟩:=I.loc;have hv:Vis X.env.scope x:=(S.free x m).elim (fun z=>.inr (.inl z)) fun z=>.inr (.inr z)
   obtain⟨u,r,l⟩:=hl i x v e h2' hv;refine⟨u,r,?_⟩
   rcases l with⟨z,_⟩|⟨_,c,hc,hcell⟩
   ·rcases S.free x m with z'|z'<;>rw[z]at z'<;>cases z'
   ·refine .inr ⟨?_,c,?_,hcell.keeps kk⟩
    ·have hv3:(relabel sc X.env).names.lookup x=some .local\/(relabel sc X.env).names.lookup x=some .cell\/(relabel sc X.env).names.lookup x=some .free:=h3
     rcases hv3 with q|q|q
     ·rcases zBE (sc:=sc) q with q|⟨_,q⟩
      ·rw[zBP S.nd m]at q;cases q
      ·cases q
     ·exact .inl q
     ·exact .inr q
    ·have q:=zDF (X:=X) (C:=s.heap.objs.size+1) S.nd m;rw[hc,qD4]at q;exact q
  ·exfalso
   have hv3:(relabel sc X.env).names.lookup x=some .local\/(relabel sc X.env).names.lookup x=some .cell\/(relabel sc X.env).names.lookup x=some .free:=h3
   rcases hv3 with q|q|q<;>rcases zBE (sc:=sc) q with q|⟨q,_⟩<;>rw[e]at q<;>cases q
 ·intro x c e
  rcases cells x c e with⟨_,_,g,_⟩|⟨_,g⟩
  ·exact⟨_,g⟩
  ·obtain⟨v,q⟩:=I.cell x c g;exact⟨v,q.keeps kk⟩
 ·intro x c e
  rcases cells x c e with⟨_,_,_,g⟩|⟨_,g⟩
  ·exact I.hok.fresh (by lia)
  ·exact I.freeC x c g
 ·intro p hp;have hp':p=(s.heap.objs.size,{ cls:=.type "list",data:=.seq #[] 0 }):=by
   have:p∈([]++[(s.heap.objs.size,({ cls:=.type "list",data:=.seq #[] 0 }:Obj))]:List (Addr×Obj)):=hp
   simpa using this
  subst hp';refine⟨k3 _ _ (k2 _ _ hD1),hDn,?_,nofs _ (qA4 _),fun v z=>by cases z⟩;show s.heap.objs.size≠s.heap.objs.size+1
  lia
 ·show(σ++qA5 k none).length=N'.length
  rw[qB1,qCc,I.len,S.len]
 ·intro b hb;obtain⟨f0,f1,f2,f3,f4,f5⟩:=hf b hb;refine⟨f0,(ok.exf b hb).1,fin b hb,.inl hb,fun x c e=>(ok.exf b hb).2 x c e,fun p hp=>?_⟩;have hp':p=(s.heap.objs.size,{ cls:=.type "list",data:=.seq #[] 0 }):=by
   have:p∈([]++[(s.heap.objs.size,({ cls:=.type "list",data:=.seq #[] 0 }:Obj))]:List (Addr×Obj)):=hp
   simpa using this
  subst hp';exact qBn (fpl b hb)
end
theorem zDB{prog:Program}{w:World}{A:Around}{R:Result->Shared->Prop}{s:Shared}{elt target iter:Expr}{ifs:List Expr}{scope:Scope}{pos:Pos}{it acc:Value}{env:Env}(I:Nat->Shared->Prop)
  (turn:∀n s,I n s->wpAny (model prog w) A (pyNext it) (fun r s₁=>match r with
   |none=>R (.ok .next) s₁
   |some v=>wpAny (model prog w) A (letOwnedTupleGo target it v) (fun _ s₂'=>wpAny (model prog w) A (assign target env v) (fun _ s₂=>
     wpAny (model prog w) A (forIn ifs true fun c r=>if r=true then do let ok <- isTrue c env (eval c env);pure (qBr ok)else pure (qBr r)) (fun ok s₃=>
      if ok=true then wpAny (model prog w) A (eval elt env) (fun x s₄=>
       wpAny (model prog w) A (call (.builtin "list.append") [acc,x]) (fun _ s₅=>∃m,m<n/\I m s₅) (fun _ _=>False) s₄) (fun _ _=>False) s₃
      else ∃m,m<n/\I m s₃) (fun _ _=>False) s₂) (fun _ _=>False) s₂') (fun _ _=>False) s₁) (fun _ _=>False) s)
  (n:Nat) (h:I n s) :
  codeAny (model prog w) A (.compLoop (.ListComp elt [⟨target,iter,ifs,0⟩] scope pos) 0 it acc env) R s:=by
 refine codeAny_loop rfl I (fun n s hI=>?_) n h;show wpAny _ A ((compTurn (.ListComp elt [⟨target,iter,ifs,0⟩] scope pos) 0 it acc env).onRaise (fun x=>do noteFrame x env;theTreesLotGoes x)) _ _ s;refine wpAny_noted ?_;rw[compTurn_list];refine wpAny_bind (wpAny_standAt (wpAny_bind (wpAny_mono (turn n s hI) (fun r s₁ h₁=>?_) fun _ _ z=>z.elim)));cases r with
 |none=>exact wpAny_pure h₁
 |some v=>
  refine wpAny_bind (wpAny_mono h₁ (fun _ s₂' h₂'=>?_) fun _ _ z=>z.elim);refine wpAny_bind (wpAny_mono h₂' (fun _ s₂ h₂=>wpAny_bind (wpAny_mono h₂ (fun ok s₃ h₃=>?_) fun _ _ z=>z.elim)) fun _ _ z=>z.elim);cases ok with
  |false=>exact wpAny_pure ⟨rfl,h₃⟩
  |true=>
   exact wpAny_bind (wpAny_bind (wpAny_mono h₃ (fun x s₄ h₄=>wpAny_bind (wpAny_mono h₄ (fun _ s₅ h₅=>wpAny_pure (wpAny_pure ⟨rfl,h₅⟩)) fun _ _ z=>z.elim)) fun _ _ z=>z.elim))
def zON(k:Nat)(g:TG)(tif:TT)(te:TE)(σ:St)(Q:VK)(J:It)(H1:Hp):Prop:=∃W:Nat->Nat->List V->Hp->Prop,(∃m,W 0 m [] H1)/\∀i m acc H,W i m acc H ->
 (J.stop i H/\∀D,H D=none->Q (.ref D) (upd H D (.lst acc))) \/
 (J.go i H/\acc.length<sizeLine/\∃N:List V->Hp->Prop,(∀acc' H',N acc' H'->∃m',m'<m/\W (i+1) m' acc' H')/\∀x H',J.yld i H x H'->g x (σ++qA5 k none) H' fun σ2 H2=>∃own:St,own.length=k/\σ2=σ++own/\tif σ2 H2 fun b H3=>if b=true then te σ2 H3 fun v H4=>N (acc++[v]) H4 else N acc H3)
noncomputable def zPL(wi:TI)(k:Nat)(g:TG)(tif:TT)(te:TE):TE:=fun σ H Q=>wi σ H (zON k g tif te σ Q)
theorem HOk.track{P:Program}{w:World}{H:Hp}{h:Heap}{a:Addr}{o:HO}(x:HOk P w H h)(hn:H a=none)(new:ObjOk P w (upd H a o) h a o):HOk P w (upd H a o) h:=fun b u e=>by
 by_cases hb:b=a
 ·subst hb;rw[zAH]at e;cases e;exact new
 ·rw[zA9 hb]at e;exact(x b u e).stay (fun c v _ q=>q) (fun c q=>by rw[zA9 (zAG q hn)];exact q) (fun c xs q=>by rw[zA9 (zAG q hn)];exact q) fun c _ _ q _=>by rw[zA9 (zAG q hn)];exact q
section
variable{X:Cx}{N':List Str}{k:Nat}{sc:Scope}{tg iter elt:Expr}{ifs:List Expr}{wi:TI}{g:TG}{tif:TT}{te:TE}{pos:Pos}
theorem zGH{pins:List (Addr×Obj)}{σ:St}{H2:Hp}{s2:Shared}{Q:VK}{RR:Value->Addr->Result->Shared->Prop}{E:Value->Shared->Prop}(hc:X.calm=true)(S:CompNames X.N N' k sc X.env)
  (hg:∀C s H fp,PG (zCG X N' sc C s H fp) tg g) (hif:∀C s H fp,PTs (zCG X N' sc C s H fp) ifs tif) (he:∀C s H fp,PE (zCG X N' sc C s H fp) elt te)
  {it:Addr} {fp:List Addr} {tn:Nat->Heap->Prop} {J:It} (I2:Inv X pins σ H2 s2) (T:Turn X.prog X.w X.K tg J fp it tn) (st2:tn 0 s2.heap) (f2:∀b∈fp,FpOk X pins H2 b)
  {W:Nat->Nat->List V->Hp->Prop} {m0:Nat} (w0:W 0 m0 [] H2)
  (turn:∀i m acc H,W i m acc H->(J.stop i H/\∀D,H D=none->Q (.ref D) (upd H D (.lst acc))) \/
   (J.go i H/\acc.length<sizeLine/\∃N:List V->Hp->Prop,(∀acc' H',N acc' H'->∃m',m'<m/\W (i+1) m' acc' H')/\∀x H',J.yld i H x H'->g x (σ++qA5 k none) H' fun σ2 H2=>∃own:St,own.length=k/\σ2=σ++own/\tif σ2 H2 fun b H3=>if b=true then te σ2 H3 fun v H4=>N (acc++[v]) H4 else N acc H3))
  (hRR:∀D C s' H',D<C->s2.heap.objs.size<=D->(∃m,s'.heap.Ns C m)->H' C=none->C∉frs X.stack->Inv X pins σ H' s'->Q (.ref D) H'->RR (.ref D) C (.ok .next) s') :
  wpAny (model X.prog X.w) X.A (newList []) (fun acc s₃=>wpAny (model X.prog X.w) X.A (newFunctionEnv sc X.env.globals (clos X.env.cells sc.names []) [] X.env.qual none .none (some X.env)) (fun cenv s₄=>
   codeAny (model X.prog X.w) X.A (.compStart (.ListComp elt [⟨tg,iter,ifs,0⟩] sc pos) 0 (.ref it) acc { cenv with scope:=relabel sc X.env }) (RR acc cenv.locals) s₄) E s₃) E s2:=by
 refine wpAny_newObj_type (zDQ ?_);show codeAny _ _ (.compStart _ 0 (.ref it) (.ref s2.heap.objs.size) _) _ _;have szp:(s2.heap.push { cls:=.type "list",dict:=none,data:=.seq ([]:List Value).toArray }).objs.size=s2.heap.objs.size+1:=Heap.size_push ..;obtain⟨I4,F4⟩:=zO1 (s4:={ s2 with heap:=pushCells ((s2.heap.push { cls:=.type "list",data:=.seq #[] 0 }).push { cls:=.type "dict",data:=.dict #[] }) sc.names }) I2 hc S f2 (fun b hb=>let⟨o,e,_⟩:=T.obj 0 _ st2 b hb;⟨o,e⟩) rfl rfl rfl
 generalize hC:(s2.heap.push { cls:=.type "list",dict:=none,data:=.seq ([]:List Value).toArray }).objs.size=C at *
 have eC:C=s2.heap.objs.size+1:=szp;rw[<- eC]at I4 F4
 generalize hs4:({ s2 with heap:=pushCells ((s2.heap.push { cls:=.type "list",data:=.seq #[] 0 }).push { cls:=.type "dict",data:=.dict #[] }) sc.names }:Shared)=s4 at I4 F4
 have kk:∀b o,s2.heap.get? b=some o->s4.heap.get? b=some o:=fun b o e=>by
  rw[<- hs4];exact pushCells_keeps sc.names _ b o (Heap.get?_push_of_some _ (Heap.get?_push_of_some _ e))
 have st4:tn 0 s4.heap:=T.keep 0 _ _ st2 fun b _ o e=>kk b o e
 generalize hX':zCG X N' sc C s2 H2 fp=X' at I4 F4
 have henv:X'.env=zD7 sc C X.env:=by rw[<- hX'];rfl
 have xprog:X'.prog=X.prog:=by rw[<- hX'];rfl
 have xw:X'.w=X.w:=by rw[<- hX'];rfl
 have xK:X'.K=X.K:=by rw[<- hX'];rfl
 have xcalm:X'.calm=true:=by rw[<- hX'];exact hc
 have xA:X'.A=X.A:=by rw[<- hX'];rfl
 have xpn:X'.pn=[]:=by rw[<- hX'];rfl
 have xxe:X'.xe=fun _ _=>False:=by rw[<- hX'];rfl
 have xs0:X'.s₀=s2:=by rw[<- hX'];rfl
 have xH0:X'.H₀=H2:=by rw[<- hX'];rfl
 have xfs:X'.fs=frs X.stack:=by rw[<- hX'];rfl
 have xex:X'.ex=fp:=by rw[<- hX'];rfl
 have hgX:PG X' tg g:=by rw[<- hX'];exact hg C s2 H2 fp
 have hifX:PTs X' ifs tif:=by rw[<- hX'];exact hif C s2 H2 fp
 have heX:PE X' elt te:=by rw[<- hX'];exact he C s2 H2 fp
 have locC:X'.env.locals=C:=by rw[henv];rfl
 generalize hDd:s2.heap.objs.size=D at *
 have loop:codeAny (model X.prog X.w) X.A (.compLoop (.ListComp elt [⟨tg,iter,ifs,0⟩] sc pos) 0 (.ref it) (.ref D) (zD7 sc C X.env)) (RR (.ref D) C) s4:=by
  refine zDB (fun n s'=>∃i H' acc its nn,Inv X' [] (σ++qA5 k none) H' s'/\tn i s'.heap/\(∀b∈fp,H' b=none)/\H' D=none/\W i n acc H'/\acc.length<=sizeLine/\Vals acc its/\s'.heap.get? D=some { cls:=.type "list",data:=.seq its.toArray nn }) ?_ m0 ?_
  ·rintro n s5 ⟨i,H5,acc,its,nn,I5,st5,fr5,hD5,w5,hz5,rv5,hL5⟩
   have hDlt:D<C:=by rw[eC];exact Nat.lt_succ_self _
   have pinD:Inv X' [(D,{ cls:=.type "list",data:=.seq its.toArray nn })] (σ++qA5 k none) H5 s5:=I5.pins_of fun p hp=>by
    have hp':p=(D,{ cls:=.type "list",data:=.seq its.toArray nn }):=by simpa using hp
    subst hp';refine⟨hL5,hD5,?_,?_,fun v z=>by cases z⟩
    ·rw[locC];exact qAj hDlt
    ·have q:=(I4.pin (D,{ cls:=.type "list",data:=.seq #[] 0 }) (by simp)).2.2.2.1;exact q
   have fpD:∀{H':Hp}{oo:Obj},(∀b∈fp,H' b=none)->∀b∈fp,FpOk X' [(D,oo)] H' b:=fun{H' oo} hn b hb=>by
    obtain⟨f0,f1,f2,f3,f4,f5⟩:=F4 b hb;refine⟨hn b hb,f1,f2,f3,f4,fun p hp=>?_⟩;have hp':p=(D,oo):=by
     rw[xpn]at hp
     simpa using hp
    subst hp';exact f5 (D,{ cls:=.type "list",data:=.seq #[] 0 }) (by simp)
   rcases turn i n acc H5 w5 with⟨stop,q⟩|⟨go,hlt,N,hN,step⟩
   ·have dn:=T.done X' xprog xw xK xcalm i _ s5 _ H5 (fun _ _=>False) pinD (fpD fr5) st5 stop;rw[xA]at dn;refine thn dn fun r s6 z0=>?_
    obtain⟨hr,I6⟩:=z0;subst hr;show RR (.ref D) C (.ok .next) s6;have hL6:=(I6.pin (D,{ cls:=.type "list",data:=.seq its.toArray nn }) (by simp)).1;have un6:Un (frs X.stack) fp H2 H5 s2.heap s6.heap:=by
     have:=I6.base
     rw[xs0,xH0,xfs,xex]at this;exact this
    have hok6:HOk X.prog X.w H5 s6.heap:=by
     have:=I6.hok
     rw[xprog,xw]at this;exact this
    have hDno:s2.heap.get? D=none:=Heap.get?_none_of_le (by rw[hDd];exact qA4 _);have un7:Un (frs X.stack) fp H2 (upd H5 D (.lst acc)) s2.heap s6.heap:=
     ⟨un6.keep,un6.slot,fun b o e n hx=>by
       have hb:b≠D:=by rintro rfl;rw[hDno]at e;cases e
       rw[zA9 hb];exact un6.free b o e n hx,un6.there,
      fun b xs e=>by
       have e':=un6.tups b xs e;rw[zA9 (zAG e' hD5)];exact e',
      fun b o u e=>by
       have e':=un6.frzs b o u e;rw[zA9 (zAG e' hD5)];exact e',
      fun b ps e=>by
       obtain⟨more,e'⟩:=un6.tbls b ps e;exact⟨more,by rw[zA9 (zAG e' hD5)];exact e'⟩⟩
    have hok7:HOk X.prog X.w (upd H5 D (.lst acc)) s6.heap:=hok6.track hD5 ⟨hz5,its,nn,rv5,hL6⟩;have os6:s6.os=s2.os:=by have:=I6.os;rw[xs0]at this;exact this
    have I7:Inv X pins σ (upd H5 D (.lst acc)) s6:=I2.call' os6 un7 hok7 I6.bare fun b hb=>by
     obtain⟨f0,f1,f2,f3,f4,f5⟩:=f2 b hb;exact⟨f3,f1,f4,f5⟩
    obtain⟨mm,hn,_⟩:=I6.loc;rw[locC]at hn;have hC5:H5 C=none:=by have:=I6.free;rw[locC]at this;exact this
    refine hRR D C s6 (upd H5 D (.lst acc)) hDlt (qA4 _) ⟨mm,hn⟩ ?_ ?_ I7 (q D hD5)
    ·rw[zA9 (qBn hDlt)];exact hC5
    ·intro hb
     rcases qAk.mp (I2.stkSub C hb)with e|hb
     ·have t1:=asN I2.lt;have t2:=asE e;rw[hDd]at t1;have t3:=asN hDlt
      lia
     ·exact I2.nofs (by rw[hDd];exact qBe hDlt) hb
   ·have itm:=T.item X' xprog xw xK xcalm i _ s5 _ H5 (fun _ _=>False) pinD (fpD fr5) st5 go;rw[xA]at itm;refine thn itm fun r s6 z0=>?_
    obtain⟨u,hr,h6⟩:=z0;subst hr;refine thn h6 fun _ s7 z0=>?_
    obtain⟨x,H7,I7,r7,y7,st7,fr7⟩:=z0;have I7':Inv X' ([(D,{ cls:=.type "list",data:=.seq its.toArray nn })]++zG8 fp s7.heap) (σ++qA5 k none) H7 s7:=I7.pinned (fpD fr7) (T.obj _ _ st7);have asg:=hgX _ s7 _ H7 x u _ I7' r7 (step x H7 y7);rw[xprog,xw,xA,henv,xxe]at asg;refine thn asg fun _ s8 z0=>?_
    obtain⟨σ8,H8,I8,own,hown,hσ8,q8⟩:=z0;have weak:∀{pl:List (Addr×Obj)}{H':Hp}{s':Shared},Inv X' pl σ8 H' s'->Inv X' [] (σ++qA5 k none) H' s':=fun{pl H' s'} J'=>by
     have J0:Inv X' [] σ8 H' s':=J'.pins_of (fun p hp=>by simp at hp);refine J0.weak (by rw[hσ8];simp[hown]) fun j v hj=>?_
     rw[hσ8]
     by_cases hjl:j<σ.length
     ·rw[qAa hjl]at hj ⊢;exact hj
     ·rw[qA8 (by lia),qBa]at hj
      split at hj<;>cases hj
    have tst:=hifX _ s8 σ8 H8 _ I8 q8;rw[xprog,xw,xA,henv,xxe]at tst;refine thn tst fun b s9 z0=>?_
    obtain⟨H9,I9,q9⟩:=z0;have pin9:∀{σ':St}{H':Hp}{s':Shared},Inv X' ([(D,{ cls:=.type "list",data:=.seq its.toArray nn })]++zG8 fp s7.heap) σ' H' s' ->
      s'.heap.get? D=some { cls:=.type "list",data:=.seq its.toArray nn }/\H' D=none/\tn (i+1) s'.heap/\(∀b∈fp,H' b=none):=fun{σ' H' s'} J'=>by
     have a1:=J'.pin (D,{ cls:=.type "list",data:=.seq its.toArray nn }) (by simp);refine⟨a1.1,a1.2.1,T.keep _ _ _ st7 fun b hb o e=>(J'.pin (b,o) (qAo _ (qAo _ (zD4 hb e)))).1,fun b hb=>?_⟩;obtain⟨o,e,d⟩:=T.obj _ _ st7 b hb;exact(J'.pin (b,o) (qAo _ (qAo _ (zD4 hb e)))).2.1
    cases b with
    |false=>
     rw[if_neg qAb];rw[if_neg qAb]at q9;obtain⟨m',hm,w9⟩:=hN _ _ q9;obtain⟨p1,p2,p3,p4⟩:=pin9 I9;exact⟨m',hm,i+1,H9,acc,its,nn,weak I9,p3,p4,p2,w9,hz5,rv5,p1⟩
    |true=>
     rw[if_pos rfl];rw[if_pos rfl]at q9;have ev:=heX _ s9 σ8 H9 _ I9 q9;rw[xprog,xw,xA,henv,xxe]at ev;refine thn ev fun y s10 z0=>?_
     obtain⟨v,H10,I10,r10,n10⟩:=z0;obtain⟨m',hm,w10⟩:=hN _ _ n10;obtain⟨p1,p2,p3,p4⟩:=pin9 I10;have hlen:its.length=acc.length:=rv5.length.symm;refine wpAny_list_append_plain (items:=its.toArray) ⟨nn,p1⟩ (fun h' hl' hs'=>?_) (by simp only[qAf];lia);have hDfp:D∉fp:=fun hb=>(F4 D hb).2.2.2.2.2 (D,{ cls:=.type "list",data:=.seq #[] 0 }) (by simp) rfl
     have I11:Inv X' [] (σ++qA5 k none) H10 { s10 with heap:=h' }:=by
      have J0:Inv X' [] (σ++qA5 k none) H10 s10:=weak I10;refine J0.turned (t':=s10.toks) (it:=D) (fun b o hb e=>(hs'.2 b hb).trans e) p2 ?_ (.inr ?_) (fun x c e z=>?_) (fun p hp=>?_)
      ·rw[locC];exact qAj hDlt
      ·rw[xs0,hDd];exact qA4 _
      ·obtain⟨v',q⟩:=J0.cell x c e;obtain⟨o,ho,hd⟩:=q;rw[z,p1]at ho;cases ho;cases hd
      ·rw[xpn]at hp;simp at hp
     obtain⟨n',hk⟩:=hl';have hk':h'.get? D=some { cls:=.type "list",data:=.seq (its++[y]).toArray n' }:=by rw[hk];simp
     refine⟨m',hm,i+1,H10,acc++[v],its++[y],n',I11,T.keep _ _ _ p3 fun b hb o e=>(hs'.2 b (fun z=>hDfp (z▸hb))).trans e,p4,p2,w10,?_,rv5.append (.cons r10 .nil),hk'⟩;rw[qB1,qDf]
     lia
  ·refine⟨0,H2,[],[],0,I4.pins_of (fun p hp=>by simp at hp),st4,fun b hb=>(f2 b hb).1,I2.hok.fresh (by rw[hDd];exact qA4 _),w0,qAx _,.nil,?_⟩;exact(I4.pin (D,{ cls:=.type "list",data:=.seq #[] 0 }) (by simp)).1
 exact codeAny_compStart_list loop (T.self _ 0 _ _ _ st4 loop)
theorem zCH(hc:X.calm=true)(S:CompNames X.N N' k sc X.env)(hi:PI X tg iter wi)
  (hg:∀C s H fp,PG (zCG X N' sc C s H fp) tg g) (hif:∀C s H fp,PTs (zCG X N' sc C s H fp) ifs tif) (he:∀C s H fp,PE (zCG X N' sc C s H fp) elt te)
  (hs:∀x,foldedSetIterable iter X.env x=pure x:=by intro _;rfl):PE X (.ListComp elt [⟨tg,iter,ifs,0⟩] sc pos) (zPL wi k g tif te):=by
 intro pins s σ H Q I h;rw[eval_ListComp];have hfree:∀x,(x,NameKind.free)∈sc.names->∃c,X.env.cells.lookup x=some c:=fun x hx=>I.ok.has x (S.free x hx)
 refine wpAny_comprehension_free (use:=none) rfl hs (zE4 hfree) S.kind (fun x hx hl=>?_) ?_
 ·obtain⟨n,kd⟩:=x;dsimp only at hl ⊢;subst hl;exact zBP S.nd hx
 ·refine thn (hi pins s σ H _ I h) fun v s1 h1=>thn h1 fun itv s2 h2=>?_
  obtain⟨it,fp,tn,J,H2,e,I2,T,st2,f2,W,⟨m0,w0⟩,turn⟩:=h2;subst e;refine zGH (RR:=fun acc C=>compPost (model X.prog X.w) X.A X.xe none (EP X pins σ Q) acc C) hc S hg hif he I2 T st2 f2 w0 turn ?_;intro D C s' H' hDC hD hn hCn hCf I' q;obtain⟨m,hn⟩:=hn;refine⟨m,hn,fun h' hs'=>⟨.ref D,H',?_,rfl,q⟩⟩;have hCb:s2.heap.objs.size<=C:=qBe (qDy hD hDC);refine I'.turned (t':=s'.toks) (it:=C) (fun b o hb e=>(hs'.2 b hb).trans e) hCn ?_ (.inr (qAh I2.sz hCb)) (fun x c e z=>?_) (fun p hp z=>?_)
  ·exact qBn (qA7 I2.lt hCb)
  ·obtain⟨v,q⟩:=I2.cell x c e;exact absurd z (qAj (qA7 q.lt hCb))
  ·exact absurd z (qAj (qA7 (Heap.lt_size (I2.pin p hp).1) hCb))
theorem zCD{i:Nat}{x:Str}{pos' spos:Pos}(hN:X.N.Nodup)(hi':X.N[i]?=some x)(hx:Loc X.env.scope x)(hc:X.calm=true)(S:CompNames X.N N' k sc X.env)(hi:PI X tg iter wi)
  (hg:∀C s H fp,PG (zCG X N' sc C s H fp) tg g) (hif:∀C s H fp,PTs (zCG X N' sc C s H fp) ifs tif) (he:∀C s H fp,PE (zCG X N' sc C s H fp) elt te)
  (hsw:swapsWith (.ListComp elt [⟨tg,iter,ifs,0⟩] sc pos) (some (.Name x pos')) spos.line X.env=pure true:=by rfl)
  (hs:∀x,foldedSetIterable iter X.env x=pure x:=by intro _;rfl) (hf:X.fn x=true\/X.env.scope.names.lookup x=some .local:=by first|exact .inl rfl|exact .inr rfl|assumption) :
  PS X (.Assign [.Name x pos'] (.ListComp elt [⟨tg,iter,ifs,0⟩] sc pos) spos) (tAsg (zPL wi k g tif te) (zFR i)):=by
 intro pins s σ H Dn I h;rw[exec_Assign_Name_used _ _ _ _ hsw];refine wpAny_bind (wpAny_standAt (wpAny_bind ?_));show wpAny _ X.A (do let _ <- comprehension (.ListComp elt [⟨tg,iter,ifs,0⟩] sc pos) sc X.env _ (newList []) false (eval iter X.env) (some (assign (.Name x pos') X.env))) _ _ s;have hfree:∀x,(x,NameKind.free)∈sc.names->∃c,X.env.cells.lookup x=some c:=fun x hx=>I.ok.has x (S.free x hx)
 refine wpAny_bind (wpAny_mono (wpAny_comprehension_free (use:=some (assign (.Name x pos') X.env)) (Q:=fun _ s'=>SP X pins Dn .next s') rfl hs (zE4 hfree) S.kind (fun x hx hl=>?_) ?_)
  (fun _ s' hq=>wpAny_pure (wpAny_pure hq)) fun _ _ e=>e)
 ·obtain⟨n,kd⟩:=x;dsimp only at hl ⊢;subst hl;exact zBP S.nd hx
 ·refine thn (hi pins s σ H _ I h) fun v s1 h1=>thn h1 fun itv s2 h2=>?_
  obtain⟨it,fp,tn,J,H2,e,I2,T,st2,f2,W,⟨m0,w0⟩,turn⟩:=h2;subst e;refine zGH (Q:=fun v H'=>zFR i v σ H' Dn.nx) (RR:=fun acc C=>compPost (model X.prog X.w) X.A X.xe (some (assign (.Name x pos') X.env)) (fun _ s'=>SP X pins Dn .next s') acc C) hc S hg hif he I2 T st2 f2 w0 turn ?_;intro D C s' H' hDC hD hn hCn hCf I' q;obtain⟨m,hn⟩:=hn;show wpAny _ _ (assign (.Name x pos') X.env (.ref D)) _ _ _;have hCb:s2.heap.objs.size<=C:=qBe (qDy hD hDC);have hCL:C≠X.env.locals:=qBn (qA7 I2.lt hCb);have hCc:∀x c,X.env.cells.lookup x=some c->c≠C:=fun x c e z=>by
   obtain⟨v,q⟩:=I2.cell x c e;exact absurd z (qAj (qA7 q.lt hCb))
  refine wpAny_assign_Name (zHM (v:=.ref D) I' hN hi' hx rfl (fun s'' I'' ⟨a,sb,ha⟩=>?_) hf);have hCa:C≠a:=by
   rcases ha with e|e
   ·rw[e];exact hCL
   ·exact fun z=>hCc x a e z.symm
  refine⟨m,hn.sameBut sb hCa,fun h' hs'=>⟨_,H',?_,q⟩⟩;refine I''.turned (t':=s''.toks) (it:=C) (fun b o hb e=>(hs'.2 b hb).trans e) hCn hCL (.inr (qAh I2.sz hCb)) hCc (fun p hp z=>?_);exact absurd z (qAj (qA7 (Heap.lt_size (I2.pin p hp).1) hCb))
theorem zC1{lo:Int}{n:Nat}{σ:St}{H:Hp}{Q:VK}(Pv:Nat->List V->Hp->Prop)(h0:Pv 0 [] H)(hz:∀i acc H,i<n->Pv i acc H->acc.length<sizeLine)
  (hs:∀i acc H,i<n->Pv i acc H->g (.int (lo+i)) (σ++qA5 k none) H fun σ2 H2=>∃own:St,own.length=k/\σ2=σ++own/\tif σ2 H2 fun b H3=>if b=true then te σ2 H3 fun v H4=>Pv (i+1) (acc++[v]) H4 else Pv (i+1) acc H3)
  (hd:∀acc H,Pv n acc H->∀D,H D=none->Q (.ref D) (upd H D (.lst acc))) :
  zON k g tif te σ Q (Itr lo n) H:=by
 refine⟨fun i m acc H=>m=n-i/\i<=n/\Pv i acc H,⟨n,by simp,qAx _,h0⟩,?_⟩
 rintro i m acc H ⟨rfl,hi,p⟩
 by_cases hlt:i<n
 ·refine .inr ⟨hlt,hz i acc H hlt p,Pv (i+1),fun acc' H' p'=>⟨n-(i+1),by lia,rfl,hlt,p'⟩,fun x H' y=>?_⟩;obtain⟨e,y⟩:=y;subst e y;exact hs i acc _ hlt p
 ·have e:i=n:=by lia
  subst e;exact .inl ⟨qA4 _,hd acc H p⟩
def zL6(g:TG)(tb:TS)(D:Ends)(σ:St)(J:It)(H1:Hp):Prop:=∃W:Nat->Nat->St->Hp->Prop,(∃m,W 0 m σ H1)/\∀i m σ H,W i m σ H ->
 (J.stop i H/\D.nx σ H)\/(J.go i H/\∃N:St->Hp->Prop,(∀σ' H',N σ' H'->∃m',m'<m/\W (i+1) m' σ' H')/\∀x H',J.yld i H x H'->g x σ H' fun σ2 H2=>tb { D with nx:=N,ct:=N,bk:=D.nx } σ2 H2)
theorem zBW{body:List Stmt}{tb:TS}(hp:PassesOwn (model X.prog X.w) X.A X.env X.xe)(hc:X.calm=true)(hi:PI X tg iter wi)(hg:PG X tg g)(hb:PSs X body tb)
  (hs:∀x,foldedSetIterable iter X.env x=pure x:=by intro _;rfl):PS X (.For tg iter body [] pos) (fun D σ H=>wi σ H (zL6 g tb D σ)):=zS5 hp hc hi hg hb hs
end
end L2
namespace L2
open PySem PySem.Spec PyProof.Rows
inductive Dat where
 |non|bl (b:Bool)|int (i:Int)|str (x:Str)|lst (xs:List Dat)|tup (xs:List Dat)
mutual
def Dat.dep:Dat->Nat
 |.lst xs=>Dat.depL xs+1
 |.tup xs=>Dat.depL xs+1
 |_=>0
def Dat.depL:List Dat->Nat
 |[]=>0
 |x::r=>max x.dep (Dat.depL r)
end
mutual
def Dat.eq:Dat->Dat->Bool
 |.non,.non=>true
 |.bl a,.bl b=>a==b
 |.bl a,.int b=>(if a then 1 else 0)==b
 |.int a,.bl b=>a==(if b then 1 else 0)
 |.int a,.int b=>a==b
 |.str a,.str b=>a==b
 |.lst xs,.lst ys=>Dat.eqL xs ys
 |.tup xs,.tup ys=>Dat.eqL xs ys
 |_,_=>false
def Dat.eqL:List Dat->List Dat->Bool
 |[],[]=>true
 |x::r,y::q=>Dat.eq x y&&Dat.eqL r q
 |_,_=>false
end
mutual
def Rep(H:Hp):Dat->V->Prop
 |.non,v=>v=.non
 |.bl b,v=>v=.bl b
 |.int i,v=>v=.int i
 |.str x,v=>v=.str x
 |.lst ds,v=>∃a xs,v=.ref a/\H a=some (.lst xs)/\RepL H ds xs
 |.tup ds,v=>∃a xs,v=.ref a/\H a=some (.tup xs)/\RepL H ds xs
def RepL(H:Hp):List Dat->List V->Prop
 |[],xs=>xs=[]
 |d::r,xs=>∃x q,xs=x::q/\Rep H d x/\RepL H r q
end
mutual
theorem Rep.mono{H H':Hp}(s:Same H H'):∀{d:Dat}{v:V},Rep H d v->Rep H' d v
 |.non,_,h=>h
 |.bl _,_,h=>h
 |.int _,_,h=>h
 |.str _,_,h=>h
 |.lst _,_,h=>by obtain⟨a,xs,e,e',r⟩:=h;exact⟨a,xs,e,s _ _ e',RepL.mono s r⟩
 |.tup _,_,h=>by obtain⟨a,xs,e,e',r⟩:=h;exact⟨a,xs,e,s _ _ e',RepL.mono s r⟩
theorem RepL.mono{H H':Hp}(s:Same H H'):∀{ds:List Dat}{xs:List V},RepL H ds xs->RepL H' ds xs
 |[],_,h=>h
 |_::_,_,h=>by obtain⟨x,q,e,r,t⟩:=h;exact⟨x,q,e,Rep.mono s r,RepL.mono s t⟩
end
mutual
theorem Rep.inj{H:Hp}:∀{d e:Dat}{v:V},Rep H d v->Rep H e v->d=e
 |.non,e,v,h,h'=>by cases h;cases e<;>first|rfl|(cases h';done)|(obtain⟨a,xs,z,_⟩:=h';cases z)
 |.bl b,e,v,h,h'=>by cases h;cases e<;>first|(cases h';rfl)|(cases h';done)|(obtain⟨a,xs,z,_⟩:=h';cases z)
 |.int b,e,v,h,h'=>by cases h;cases e<;>first|(cases h';rfl)|(cases h';done)|(obtain⟨a,xs,z,_⟩:=h';cases z)
 |.str b,e,v,h,h'=>by cases h;cases e<;>first|(cases h';rfl)|(cases h';done)|(obtain⟨a,xs,z,_⟩:=h';cases z)
 |.lst ds,e,v,h,h'=>by
  obtain⟨a,xs,rfl,ha,q⟩:=h;cases e with
  |lst es=>
   obtain⟨b,ys,z,hb,q'⟩:=h';cases z;rw[ha]at hb;cases hb;rw[RepL.inj q q']
  |tup es=>
   obtain⟨b,ys,z,hb,q'⟩:=h';cases z;rw[ha]at hb;cases hb
  |_=>cases h'
 |.tup ds,e,v,h,h'=>by
  obtain⟨a,xs,rfl,ha,q⟩:=h;cases e with
  |tup es=>
   obtain⟨b,ys,z,hb,q'⟩:=h';cases z;rw[ha]at hb;cases hb;rw[RepL.inj q q']
  |lst es=>
   obtain⟨b,ys,z,hb,q'⟩:=h';cases z;rw[ha]at hb;cases hb
  |_=>cases h'
theorem RepL.inj{H:Hp}:∀{ds es:List Dat}{xs:List V},RepL H ds xs->RepL H es xs->ds=es
 |[],[],_,_,_=>rfl
 |[],_::_,_,h,h'=>by cases h;obtain⟨x,q,e,_⟩:=h';cases e
 |_::_,[],_,h,h'=>by cases h';obtain⟨x,q,e,_⟩:=h;cases e
 |d::r,e::t,_,h,h'=>by
  obtain⟨x,q,rfl,r1,t1⟩:=h;obtain⟨x',q',z,r2,t2⟩:=h';cases z;rw[Rep.inj r1 r2,RepL.inj t1 t2]
end
mutual
theorem Dat.eq_refl:∀d:Dat,Dat.eq d d=true
 |.non=>by simp[Dat.eq]
 |.bl _=>by simp[Dat.eq]
 |.int _=>by simp[Dat.eq]
 |.str _=>by simp[Dat.eq]
 |.lst xs=>by rw[Dat.eq];exact Dat.eqL_refl xs
 |.tup xs=>by rw[Dat.eq];exact Dat.eqL_refl xs
theorem Dat.eqL_refl:∀ds:List Dat,Dat.eqL ds ds=true
 |[]=>by simp[Dat.eqL]
 |d::r=>by rw[Dat.eqL,Dat.eq_refl d,Dat.eqL_refl r];rfl
end
theorem RepL.length{H:Hp}:∀{ds:List Dat}{xs:List V},RepL H ds xs->xs.length=ds.length
 |[],_,h=>by cases h;rfl
 |_::_,_,h=>by obtain⟨x,q,e,r,t⟩:=h;subst e;simp[RepL.length t]
theorem Dat.eqL_len:∀{xs ys:List Dat},xs.length≠ys.length->Dat.eqL xs ys=false
 |[],[],h=>absurd rfl h
 |[],_::_,_=>by simp[Dat.eqL]
 |_::_,[],_=>by simp[Dat.eqL]
 |x::r,y::q,h=>by
  rw[Dat.eqL,Dat.eqL_len (fun e=>h (by simp[e])),qBv]
theorem Dat.eqL_all:∀{xs ys:List Dat},xs.length=ys.length->∀(e:Nat->Bool),(∀j (h1:j<xs.length) (h2:j<ys.length),e j=Dat.eq xs[j] ys[j])->(qA9 xs.length).all e=Dat.eqL xs ys
 |[],[],_,_,_=>by simp[Dat.eqL]
 |[],_::_,h,_,_=>by simp at h
 |_::_,[],h,_,_=>by simp at h
 |x::r,y::q,h,e,he=>by
  have hl:r.length=q.length:=by simpa using h
  rw[qAz,qDa,qC3,Dat.eqL,he 0 (by simp) (by simp)]
  have:=Dat.eqL_all (xs:=r) (ys:=q) hl (fun j=>e (j+1)) (fun j h1 h2=>by
   rw[he (j+1) (by simpa using h1) (by simpa using h2)];simp)
  rw[<- this,qEf];rfl
theorem RepL.get{H:Hp}:∀{ds:List Dat}{xs:List V}{i:Nat}{x:V},RepL H ds xs->xs[i]?=some x->∃d,ds[i]?=some d/\Rep H d x
 |[],_,_,_,h,e=>by cases h;simp at e
 |d::_,_,0,_,h,e=>by obtain⟨x,q,e1,r,t⟩:=h;subst e1;simp at e;subst e;exact⟨d,rfl,r⟩
 |_::_,_,i+1,_,h,e=>by
  obtain⟨x,q,e1,r,t⟩:=h;subst e1;obtain⟨d',h1,h2⟩:=RepL.get (i:=i) t (by simpa using e);exact⟨d',by simpa using h1,h2⟩
theorem Dat.depL_mem{d:Dat}:∀{ds:List Dat},d∈ds->d.dep<=Dat.depL ds
 |_::_,h=>by
  rw[Dat.depL]
  rcases qAk.mp h with rfl|h
  ·exact qEp _ _
  ·exact qAh (Dat.depL_mem h) (Nat.le_max_right _ _)
section
variable{P:Program}{w:World}{H:Hp}
theorem zCZ(A:Around):A.in1.units=A.units+1:=rfl
theorem zAS{s:Shared}{a:Addr}{xs:List V}(ok:HOk P w H s.heap)(h:H a=some (.lst xs)):∃its:List Value,Vals xs its/\s.heap.IsList a its.toArray:=by
 obtain⟨_,its,n,r,e⟩:=ok a _ h;exact⟨its,r,⟨_,e,rfl,n,rfl⟩⟩
theorem zB5{s:Shared}{a:Addr}{xs:List V}(ok:HOk P w H s.heap)(h:H a=some (.tup xs)):∃its:List Value,Vals xs its/\s.heap.IsTuple a its.toArray:=by
 obtain⟨_,its,r,e⟩:=ok a _ h;exact⟨its,r,e⟩
theorem Rep.flat{d:Dat}{v:V}(h:Rep H d v)(hf:d.dep=0):zED v=true:=by
 cases d with
 |non=>cases h;rfl
 |bl _=>cases h;rfl
 |int _=>cases h;rfl
 |str _=>cases h;rfl
 |lst _=>simp[Dat.dep]at hf
 |tup _=>simp[Dat.dep]at hf
theorem Rep.flatEq{d e:Dat}{v u:V}(h:Rep H d v)(h':Rep H e u)(hf:d.dep=0)(hf':e.dep=0):eqV v u=Dat.eq d e:=by
 cases d<;>cases e<;>first
  |(simp[Dat.dep]at hf;done)
  |(simp[Dat.dep]at hf';done)
  |(cases h;cases h';simp[eqV,Dat.eq];done)
theorem zK5:∀(n:Nat){d e:Dat}{v u:V}{x y:Value}{A:Around}{s:Shared},d.dep<=n->HOk P w H s.heap->Rep H d v->Rep H e u->RelV v x->RelV u y->A.units+n<cLine->SeqAt.EqAt A s x y (Dat.eq d e):=by
 intro n
 induction n with
 |zero=>
  intro d e v u x y A s hd ok h1 h2 r1 r2 hu;have f1:=h1.flat (by lia)
  by_cases he:e.dep=0
  ·have f2:=h2.flat he
   have:=zP7 (A:=A) (s:=s) r1 r2 f1 f2
   rw[h1.flatEq h2 (by lia) he]at this;exact this
  ·have hu':A.units<cLine:=by lia
   cases e with
   |lst ys=>
    obtain⟨a,xs,rfl,ha,_⟩:=h2;obtain⟨its,_,hl⟩:=zAS ok ha;cases r2;cases d with
    |non=>cases h1;cases r1;exact SeqAt.EqAt.none_list hl hu'
    |bl b=>cases h1;cases r1;exact SeqAt.EqAt.bool_list b hl hu'
    |int i=>cases h1;obtain⟨t,rfl⟩:=r1;exact SeqAt.EqAt.int_list i t hl hu'
    |str z=>cases h1;obtain⟨t,rfl⟩:=r1;exact SeqAt.EqAt.str_list z t hl hu'
    |lst _=>simp[Dat.dep]at hd
    |tup _=>simp[Dat.dep]at hd
   |tup ys=>
    obtain⟨a,xs,rfl,ha,_⟩:=h2;obtain⟨its,_,hl⟩:=zB5 ok ha;cases r2;cases d with
    |non=>cases h1;cases r1;exact SeqAt.EqAt.none_tuple hl hu'
    |bl b=>cases h1;cases r1;exact SeqAt.EqAt.bool_tuple b hl hu'
    |int i=>cases h1;obtain⟨t,rfl⟩:=r1;exact SeqAt.EqAt.int_tuple i t hl hu'
    |str z=>cases h1;obtain⟨t,rfl⟩:=r1;exact SeqAt.EqAt.str_tuple z t hl hu'
    |lst _=>simp[Dat.dep]at hd
    |tup _=>simp[Dat.dep]at hd
   |_=>simp[Dat.dep]at he
 |succ n ih=>
  intro d e v u x y A s hd ok h1 h2 r1 r2 hu
  by_cases hd0:d.dep<=n
  ·exact ih hd0 ok h1 h2 r1 r2 (by lia)
  have hu':A.units<cLine:=by lia
  have pairs:∀{ds es:List Dat}{xs ys:List V}{its its2:List Value},Dat.depL ds<=n->RepL H ds xs->RepL H es ys->Vals xs its->Vals ys its2->∀j (h1:j<its.toArray.size) (h2:j<its2.toArray.size),
    SeqAt.EqAt A.in1 s its.toArray[j] its2.toArray[j] (Dat.eq (ds.getD j .non) (es.getD j .non)):=by
   intro ds es xs ys its its2 hdl q1 q2 v1 v2 j j1 j2;have l1:j<xs.length:=by have:=v1.length;simp at j1;lia
   have l2:j<ys.length:=by have:=v2.length;simp at j2;lia
   obtain⟨d',e1,p1⟩:=q1.get (i:=j) (x:=xs[j]) (by simp[l1]);obtain⟨e',e2,p2⟩:=q2.get (i:=j) (x:=ys[j]) (by simp[l2]);obtain⟨w1,g1,z1⟩:=v1.get (i:=j) (x:=xs[j]) (by simp[l1]);obtain⟨w2,g2,z2⟩:=v2.get (i:=j) (x:=ys[j]) (by simp[l2]);have k1:its.toArray[j]=w1:=by
    obtain⟨_,k⟩:=qA2.mp g1
    simpa using k
   have k2:its2.toArray[j]=w2:=by
    obtain⟨_,k⟩:=qA2.mp g2
    simpa using k
   rw[k1,k2,qA6,qA6,e1,e2];exact ih (qAh (Dat.depL_mem (qAq e1)) hdl) ok p1 p2 z1 z2 (by rw[zCZ];lia)
  cases d with
  |lst ds=>
   have hdl:Dat.depL ds<=n:=by rw[Dat.dep]at hd;lia
   obtain⟨a,xs,rfl,ha,q1⟩:=h1;obtain⟨its,v1,hl1⟩:=zAS ok ha;cases r1;cases e with
   |non=>cases h2;cases r2;exact SeqAt.EqAt.list_none hl1 hu'
   |bl b=>cases h2;cases r2;exact SeqAt.EqAt.list_bool b hl1 hu'
   |int i=>cases h2;obtain⟨t,rfl⟩:=r2;exact SeqAt.EqAt.list_int i t hl1 hu'
   |str z=>cases h2;obtain⟨t,rfl⟩:=r2;exact SeqAt.EqAt.list_str z t hl1 hu'
   |tup es=>
    obtain⟨b,ys,rfl,hb,q2⟩:=h2;obtain⟨its2,v2,hl2⟩:=zB5 ok hb;cases r2;exact SeqAt.EqAt.of_refs (zI1 ha hb (fun z=>nomatch z)) (SeqAt.RcAt.list_tuple hl1 hl2 hu')
   |lst es=>
    obtain⟨b,ys,rfl,hb,q2⟩:=h2;obtain⟨its2,v2,hl2⟩:=zAS ok hb;cases r2;have len1:its.toArray.size=ds.length:=by have:=v1.length;have:=q1.length;simp;lia
    have len2:its2.toArray.size=es.length:=by have:=v2.length;have:=q2.length;simp;lia
    show SeqAt.EqAt A s (.ref a) (.ref b) (Dat.eqL ds es)
    by_cases hne:a=b
    ·
     subst hne;rw[ha]at hb;cases hb;have same:Dat.eqL ds es=true:=by
      rw[RepL.inj q1 q2];exact Dat.eqL_refl _
     rw[same];exact SeqAt.EqAt.same _
    ·refine SeqAt.EqAt.of_refs hne ?_
     by_cases hs:ds.length=es.length
     ·have:=SeqAt.RcAt.lists (A:=A) (s:=s) hl1 hl2 (by rw[len1,len2,hs]) hu' (pairs hdl q1 q2 v1 v2)
      rw[len1,Dat.eqL_all hs _ (fun j h1 h2=>by rw[qA6,qA6];simp[h1,h2])]at this;exact this
     ·rw[Dat.eqL_len hs];exact SeqAt.RcAt.lists_lengths hl1 hl2 (by rw[len1,len2];simpa using hs) hu'
  |tup ds=>
   have hdl:Dat.depL ds<=n:=by rw[Dat.dep]at hd;lia
   obtain⟨a,xs,rfl,ha,q1⟩:=h1;obtain⟨its,v1,hl1⟩:=zB5 ok ha;cases r1;cases e with
   |non=>cases h2;cases r2;exact SeqAt.EqAt.tuple_none hl1 hu'
   |bl b=>cases h2;cases r2;exact SeqAt.EqAt.tuple_bool b hl1 hu'
   |int i=>cases h2;obtain⟨t,rfl⟩:=r2;exact SeqAt.EqAt.tuple_int i t hl1 hu'
   |str z=>cases h2;obtain⟨t,rfl⟩:=r2;exact SeqAt.EqAt.tuple_str z t hl1 hu'
   |lst es=>
    obtain⟨b,ys,rfl,hb,q2⟩:=h2;obtain⟨its2,v2,hl2⟩:=zAS ok hb;cases r2;exact SeqAt.EqAt.of_refs (zI1 ha hb (fun z=>nomatch z)) (SeqAt.RcAt.tuple_list hl1 hl2 hu')
   |tup es=>
    obtain⟨b,ys,rfl,hb,q2⟩:=h2;obtain⟨its2,v2,hl2⟩:=zB5 ok hb;cases r2;have len1:its.toArray.size=ds.length:=by have:=v1.length;have:=q1.length;simp;lia
    have len2:its2.toArray.size=es.length:=by have:=v2.length;have:=q2.length;simp;lia
    show SeqAt.EqAt A s (.ref a) (.ref b) (Dat.eqL ds es)
    by_cases hne:a=b
    ·subst hne;rw[ha]at hb;cases hb;have same:Dat.eqL ds es=true:=by
      rw[RepL.inj q1 q2];exact Dat.eqL_refl _
     rw[same];exact SeqAt.EqAt.same _
    ·refine SeqAt.EqAt.of_refs hne ?_
     have:=SeqAt.RcAt.tuples (A:=A) (s:=s) hl1 hl2 hu' (pairs hdl q1 q2 v1 v2)
     by_cases hs:ds.length=es.length
     ·rw[len1,len2,<- hs,qEg,beq_self_eq_true,qD1,Dat.eqL_all hs _ (fun j h1 h2=>by rw[qA6,qA6];simp[h1,h2])]at this;exact this
     ·rw[len1,len2,show(ds.length==es.length)=false by simpa using hs,qBv]at this;rw[Dat.eqL_len hs];exact this
  |_=>simp[Dat.dep]at hd0
theorem zEZ{n:Nat}{A:Around}{s:Shared}(ok:HOk P w H s.heap){ds es:List Dat}{xs ys:List V}{its its2:List Value}(hdl:Dat.depL ds<=n)(hu:A.units+n<cLine)(q1:RepL H ds xs)(q2:RepL H es ys)(v1:Vals xs its)(v2:Vals ys its2) :
  ∀j (h1:j<its.toArray.size) (h2:j<its2.toArray.size),SeqAt.EqAt A s its.toArray[j] its2.toArray[j] (Dat.eq (ds.getD j .non) (es.getD j .non)):=by
 intro j j1 j2;have l1:j<xs.length:=by have:=v1.length;simp at j1;lia
 have l2:j<ys.length:=by have:=v2.length;simp at j2;lia
 obtain⟨d',e1,p1⟩:=q1.get (i:=j) (x:=xs[j]) (by simp[l1]);obtain⟨e',e2,p2⟩:=q2.get (i:=j) (x:=ys[j]) (by simp[l2]);obtain⟨w1,g1,z1⟩:=v1.get (i:=j) (x:=xs[j]) (by simp[l1]);obtain⟨w2,g2,z2⟩:=v2.get (i:=j) (x:=ys[j]) (by simp[l2]);have k1:its.toArray[j]=w1:=by
  obtain⟨_,k⟩:=qA2.mp g1
  simpa using k
 have k2:its2.toArray[j]=w2:=by
  obtain⟨_,k⟩:=qA2.mp g2
  simpa using k
 rw[k1,k2,qA6,qA6,e1,e2];exact zK5 n (qAh (Dat.depL_mem (qAq e1)) hdl) ok p1 p2 z1 z2 hu
theorem zNE(n:Nat){d e:Dat}{v u:V}{x y:Value}{A:Around}{s:Shared}(hd:d.dep<=n)(ok:HOk P w H s.heap)(h1:Rep H d v)(h2:Rep H e u)(r1:RelV v x)(r2:RelV u y)(hu:A.units+n<cLine):SeqAt.RcAt A s x y (Dat.eq d e):=by
 have hu':A.units<cLine:=by lia
 cases d with
 |non=>
  cases h1;cases r1;cases e with
  |non=>
   cases h2;cases r2;exact SeqAt.RcAt.none_none
  |bl b=>
   cases h2;cases r2;exact SeqAt.RcAt.none_bool b
  |int b=>
   cases h2;obtain⟨t2,rfl⟩:=r2;exact SeqAt.RcAt.none_int b t2
  |str b=>
   cases h2;obtain⟨t2,rfl⟩:=r2;exact SeqAt.RcAt.none_str b t2
  |lst es=>
   obtain⟨p2,ys,rfl,hb,q2⟩:=h2;obtain⟨its2,v2,hl2⟩:=zAS ok hb;cases r2;exact SeqAt.RcAt.none_list hl2 hu'
  |tup es=>
   obtain⟨p2,ys,rfl,hb,q2⟩:=h2;obtain⟨its2,v2,hl2⟩:=zB5 ok hb;cases r2;exact SeqAt.RcAt.none_tuple hl2 hu'
 |bl a=>
  cases h1;cases r1;cases e with
  |non=>
   cases h2;cases r2;exact SeqAt.RcAt.bool_none a
  |bl b=>
   cases h2;cases r2;exact SeqAt.RcAt.bool_bool a b
  |int b=>
   cases h2;obtain⟨t2,rfl⟩:=r2;exact SeqAt.RcAt.bool_int a b t2
  |str b=>
   cases h2;obtain⟨t2,rfl⟩:=r2;exact SeqAt.RcAt.bool_str a b t2
  |lst es=>
   obtain⟨p2,ys,rfl,hb,q2⟩:=h2;obtain⟨its2,v2,hl2⟩:=zAS ok hb;cases r2;exact SeqAt.RcAt.bool_list a hl2 hu'
  |tup es=>
   obtain⟨p2,ys,rfl,hb,q2⟩:=h2;obtain⟨its2,v2,hl2⟩:=zB5 ok hb;cases r2;exact SeqAt.RcAt.bool_tuple a hl2 hu'
 |int a=>
  cases h1;obtain⟨t1,rfl⟩:=r1;cases e with
  |non=>
   cases h2;cases r2;exact SeqAt.RcAt.int_none a t1
  |bl b=>
   cases h2;cases r2;exact SeqAt.RcAt.int_bool a t1 b
  |int b=>
   cases h2;obtain⟨t2,rfl⟩:=r2;exact SeqAt.RcAt.int_int a t1 b t2
  |str b=>
   cases h2;obtain⟨t2,rfl⟩:=r2;exact SeqAt.RcAt.int_str a t1 b t2
  |lst es=>
   obtain⟨p2,ys,rfl,hb,q2⟩:=h2;obtain⟨its2,v2,hl2⟩:=zAS ok hb;cases r2;exact SeqAt.RcAt.int_list a t1 hl2 hu'
  |tup es=>
   obtain⟨p2,ys,rfl,hb,q2⟩:=h2;obtain⟨its2,v2,hl2⟩:=zB5 ok hb;cases r2;exact SeqAt.RcAt.int_tuple a t1 hl2 hu'
 |str a=>
  cases h1;obtain⟨t1,rfl⟩:=r1;cases e with
  |non=>
   cases h2;cases r2;exact SeqAt.RcAt.str_none a t1
  |bl b=>
   cases h2;cases r2;exact SeqAt.RcAt.str_bool a t1 b
  |int b=>
   cases h2;obtain⟨t2,rfl⟩:=r2;exact SeqAt.RcAt.str_int a t1 b t2
  |str b=>
   cases h2;obtain⟨t2,rfl⟩:=r2;exact SeqAt.RcAt.str_str a t1 b t2
  |lst es=>
   obtain⟨p2,ys,rfl,hb,q2⟩:=h2;obtain⟨its2,v2,hl2⟩:=zAS ok hb;cases r2;exact SeqAt.RcAt.str_list a t1 hl2 hu'
  |tup es=>
   obtain⟨p2,ys,rfl,hb,q2⟩:=h2;obtain⟨its2,v2,hl2⟩:=zB5 ok hb;cases r2;exact SeqAt.RcAt.str_tuple a t1 hl2 hu'
 |lst ds=>
  have hdl:Dat.depL ds+1<=n:=by rw[Dat.dep]at hd;exact hd
  obtain⟨p,xs,rfl,ha,q1⟩:=h1;obtain⟨its,v1,hl1⟩:=zAS ok ha;cases r1;cases e with
  |non=>
   cases h2;cases r2;exact SeqAt.RcAt.list_none hl1 hu'
  |bl b=>
   cases h2;cases r2;exact SeqAt.RcAt.list_bool b hl1 hu'
  |int b=>
   cases h2;obtain⟨t2,rfl⟩:=r2;exact SeqAt.RcAt.list_int b t2 hl1 hu'
  |str b=>
   cases h2;obtain⟨t2,rfl⟩:=r2;exact SeqAt.RcAt.list_str b t2 hl1 hu'
  |lst es=>
   obtain⟨p2,ys,rfl,hb,q2⟩:=h2;obtain⟨its2,v2,hl2⟩:=zAS ok hb;cases r2;have len1:its.toArray.size=ds.length:=by have:=v1.length;have:=q1.length;simp;lia
   have len2:its2.toArray.size=es.length:=by have:=v2.length;have:=q2.length;simp;lia
   show SeqAt.RcAt A s (.ref p) (.ref p2) (Dat.eqL ds es)
   by_cases hs:ds.length=es.length
   ·have:=SeqAt.RcAt.lists (A:=A) (s:=s) hl1 hl2 (by rw[len1,len2,hs]) hu' (zEZ ok (by lia) (by rw[zCZ];lia:A.in1.units+(n-1)<cLine) q1 q2 v1 v2)
    rw[len1,Dat.eqL_all hs _ (fun j h1 h2=>by rw[qA6,qA6];simp[h1,h2])]at this;exact this
   ·rw[Dat.eqL_len hs];exact SeqAt.RcAt.lists_lengths hl1 hl2 (by rw[len1,len2];simpa using hs) hu'
  |tup es=>
   obtain⟨p2,ys,rfl,hb,q2⟩:=h2;obtain⟨its2,v2,hl2⟩:=zB5 ok hb;cases r2;exact SeqAt.RcAt.list_tuple hl1 hl2 hu'
 |tup ds=>
  have hdl:Dat.depL ds+1<=n:=by rw[Dat.dep]at hd;exact hd
  obtain⟨p,xs,rfl,ha,q1⟩:=h1;obtain⟨its,v1,hl1⟩:=zB5 ok ha;cases r1;cases e with
  |non=>
   cases h2;cases r2;exact SeqAt.RcAt.tuple_none hl1 hu'
  |bl b=>
   cases h2;cases r2;exact SeqAt.RcAt.tuple_bool b hl1 hu'
  |int b=>
   cases h2;obtain⟨t2,rfl⟩:=r2;exact SeqAt.RcAt.tuple_int b t2 hl1 hu'
  |str b=>
   cases h2;obtain⟨t2,rfl⟩:=r2;exact SeqAt.RcAt.tuple_str b t2 hl1 hu'
  |lst es=>
   obtain⟨p2,ys,rfl,hb,q2⟩:=h2;obtain⟨its2,v2,hl2⟩:=zAS ok hb;cases r2;exact SeqAt.RcAt.tuple_list hl1 hl2 hu'
  |tup es=>
   obtain⟨p2,ys,rfl,hb,q2⟩:=h2;obtain⟨its2,v2,hl2⟩:=zB5 ok hb;cases r2;have len1:its.toArray.size=ds.length:=by have:=v1.length;have:=q1.length;simp;lia
   have len2:its2.toArray.size=es.length:=by have:=v2.length;have:=q2.length;simp;lia
   show SeqAt.RcAt A s (.ref p) (.ref p2) (Dat.eqL ds es)
   have:=SeqAt.RcAt.tuples (A:=A) (s:=s) hl1 hl2 hu' (zEZ ok (by lia) (by rw[zCZ];lia:A.in1.units+(n-1)<cLine) q1 q2 v1 v2)
   by_cases hs:ds.length=es.length
   ·rw[len1,len2,<- hs,qEg,beq_self_eq_true,qD1,Dat.eqL_all hs _ (fun j h1 h2=>by rw[qA6,qA6];simp[h1,h2])]at this;exact this
   ·rw[len1,len2,show(ds.length==es.length)=false by simpa using hs,qBv]at this;rw[Dat.eqL_len hs];exact this
theorem zKK(n:Nat){d e:Dat}{v u:V}{x y:Value}{A:Around}{s:Shared}(hd:d.dep<=n)(ok:HOk P w H s.heap)(h1:Rep H d v)(h2:Rep H e u)(r1:RelV v x)(r2:RelV u y)(hu:A.units+n<cLine):SeqAt.RcNeAt A s x y (!Dat.eq d e):=by
 have hu':A.units<cLine:=by lia
 cases d with
 |non=>
  cases h1;cases r1;cases e with
  |non=>
   cases h2;cases r2;exact SeqAt.RcNeAt.none_none
  |bl b=>
   cases h2;cases r2;exact SeqAt.RcNeAt.none_bool b
  |int b=>
   cases h2;obtain⟨t2,rfl⟩:=r2;exact SeqAt.RcNeAt.none_int b t2
  |str b=>
   cases h2;obtain⟨t2,rfl⟩:=r2;exact SeqAt.RcNeAt.none_str b t2
  |lst es=>
   obtain⟨p2,ys,rfl,hb,q2⟩:=h2;obtain⟨its2,v2,hl2⟩:=zAS ok hb;cases r2;exact SeqAt.RcNeAt.none_list hl2 hu'
  |tup es=>
   obtain⟨p2,ys,rfl,hb,q2⟩:=h2;obtain⟨its2,v2,hl2⟩:=zB5 ok hb;cases r2;exact SeqAt.RcNeAt.none_tuple hl2 hu'
 |bl a=>
  cases h1;cases r1;cases e with
  |non=>
   cases h2;cases r2;exact SeqAt.RcNeAt.bool_none a
  |bl b=>
   cases h2;cases r2;exact SeqAt.RcNeAt.bool_bool a b
  |int b=>
   cases h2;obtain⟨t2,rfl⟩:=r2;exact SeqAt.RcNeAt.bool_int a b t2
  |str b=>
   cases h2;obtain⟨t2,rfl⟩:=r2;exact SeqAt.RcNeAt.bool_str a b t2
  |lst es=>
   obtain⟨p2,ys,rfl,hb,q2⟩:=h2;obtain⟨its2,v2,hl2⟩:=zAS ok hb;cases r2;exact SeqAt.RcNeAt.bool_list a hl2 hu'
  |tup es=>
   obtain⟨p2,ys,rfl,hb,q2⟩:=h2;obtain⟨its2,v2,hl2⟩:=zB5 ok hb;cases r2;exact SeqAt.RcNeAt.bool_tuple a hl2 hu'
 |int a=>
  cases h1;obtain⟨t1,rfl⟩:=r1;cases e with
  |non=>
   cases h2;cases r2;exact SeqAt.RcNeAt.int_none a t1
  |bl b=>
   cases h2;cases r2;exact SeqAt.RcNeAt.int_bool a t1 b
  |int b=>
   cases h2;obtain⟨t2,rfl⟩:=r2;exact SeqAt.RcNeAt.int_int a t1 b t2
  |str b=>
   cases h2;obtain⟨t2,rfl⟩:=r2;exact SeqAt.RcNeAt.int_str a t1 b t2
  |lst es=>
   obtain⟨p2,ys,rfl,hb,q2⟩:=h2;obtain⟨its2,v2,hl2⟩:=zAS ok hb;cases r2;exact SeqAt.RcNeAt.int_list a t1 hl2 hu'
  |tup es=>
   obtain⟨p2,ys,rfl,hb,q2⟩:=h2;obtain⟨its2,v2,hl2⟩:=zB5 ok hb;cases r2;exact SeqAt.RcNeAt.int_tuple a t1 hl2 hu'
 |str a=>
  cases h1;obtain⟨t1,rfl⟩:=r1;cases e with
  |non=>
   cases h2;cases r2;exact SeqAt.RcNeAt.str_none a t1
  |bl b=>
   cases h2;cases r2;exact SeqAt.RcNeAt.str_bool a t1 b
  |int b=>
   cases h2;obtain⟨t2,rfl⟩:=r2;exact SeqAt.RcNeAt.str_int a t1 b t2
  |str b=>
   cases h2;obtain⟨t2,rfl⟩:=r2;exact SeqAt.RcNeAt.str_str a t1 b t2
  |lst es=>
   obtain⟨p2,ys,rfl,hb,q2⟩:=h2;obtain⟨its2,v2,hl2⟩:=zAS ok hb;cases r2;exact SeqAt.RcNeAt.str_list a t1 hl2 hu'
  |tup es=>
   obtain⟨p2,ys,rfl,hb,q2⟩:=h2;obtain⟨its2,v2,hl2⟩:=zB5 ok hb;cases r2;exact SeqAt.RcNeAt.str_tuple a t1 hl2 hu'
 |lst ds=>
  have hdl:Dat.depL ds+1<=n:=by rw[Dat.dep]at hd;exact hd
  obtain⟨p,xs,rfl,ha,q1⟩:=h1;obtain⟨its,v1,hl1⟩:=zAS ok ha;cases r1;cases e with
  |non=>
   cases h2;cases r2;exact SeqAt.RcNeAt.list_none hl1 hu'
  |bl b=>
   cases h2;cases r2;exact SeqAt.RcNeAt.list_bool b hl1 hu'
  |int b=>
   cases h2;obtain⟨t2,rfl⟩:=r2;exact SeqAt.RcNeAt.list_int b t2 hl1 hu'
  |str b=>
   cases h2;obtain⟨t2,rfl⟩:=r2;exact SeqAt.RcNeAt.list_str b t2 hl1 hu'
  |lst es=>
   obtain⟨p2,ys,rfl,hb,q2⟩:=h2;obtain⟨its2,v2,hl2⟩:=zAS ok hb;cases r2;have len1:its.toArray.size=ds.length:=by have:=v1.length;have:=q1.length;simp;lia
   have len2:its2.toArray.size=es.length:=by have:=v2.length;have:=q2.length;simp;lia
   show SeqAt.RcNeAt A s (.ref p) (.ref p2) (!Dat.eqL ds es)
   by_cases hs:ds.length=es.length
   ·have:=SeqAt.RcNeAt.lists (A:=A) (s:=s) hl1 hl2 (by rw[len1,len2,hs]) hu' (zEZ ok (by lia) (by rw[zCZ];lia:A.in1.units+(n-1)<cLine) q1 q2 v1 v2)
    rw[len1,Dat.eqL_all hs _ (fun j h1 h2=>by rw[qA6,qA6];simp[h1,h2])]at this;exact this
   ·rw[Dat.eqL_len hs];exact SeqAt.RcNeAt.lists_lengths hl1 hl2 (by rw[len1,len2];simpa using hs) hu'
  |tup es=>
   obtain⟨p2,ys,rfl,hb,q2⟩:=h2;obtain⟨its2,v2,hl2⟩:=zB5 ok hb;cases r2;exact SeqAt.RcNeAt.list_tuple hl1 hl2 hu'
 |tup ds=>
  have hdl:Dat.depL ds+1<=n:=by rw[Dat.dep]at hd;exact hd
  obtain⟨p,xs,rfl,ha,q1⟩:=h1;obtain⟨its,v1,hl1⟩:=zB5 ok ha;cases r1;cases e with
  |non=>
   cases h2;cases r2;exact SeqAt.RcNeAt.tuple_none hl1 hu'
  |bl b=>
   cases h2;cases r2;exact SeqAt.RcNeAt.tuple_bool b hl1 hu'
  |int b=>
   cases h2;obtain⟨t2,rfl⟩:=r2;exact SeqAt.RcNeAt.tuple_int b t2 hl1 hu'
  |str b=>
   cases h2;obtain⟨t2,rfl⟩:=r2;exact SeqAt.RcNeAt.tuple_str b t2 hl1 hu'
  |lst es=>
   obtain⟨p2,ys,rfl,hb,q2⟩:=h2;obtain⟨its2,v2,hl2⟩:=zAS ok hb;cases r2;exact SeqAt.RcNeAt.tuple_list hl1 hl2 hu'
  |tup es=>
   obtain⟨p2,ys,rfl,hb,q2⟩:=h2;obtain⟨its2,v2,hl2⟩:=zB5 ok hb;cases r2;have len1:its.toArray.size=ds.length:=by have:=v1.length;have:=q1.length;simp;lia
   have len2:its2.toArray.size=es.length:=by have:=v2.length;have:=q2.length;simp;lia
   show SeqAt.RcNeAt A s (.ref p) (.ref p2) (!Dat.eqL ds es)
   have:=SeqAt.RcNeAt.tuples (A:=A) (s:=s) hl1 hl2 hu' (zEZ ok (by lia) (by rw[zCZ];lia:A.in1.units+(n-1)<cLine) q1 q2 v1 v2)
   by_cases hs:ds.length=es.length
   ·rw[len1,len2,<- hs,qEg,beq_self_eq_true,qD1,Dat.eqL_all hs _ (fun j h1 h2=>by rw[qA6,qA6];simp[h1,h2])]at this;exact this
   ·rw[len1,len2,show(ds.length==es.length)=false by simpa using hs,qBv]at this;rw[Dat.eqL_len hs];exact this
end
section
variable{X:Cx}
noncomputable def rEqD:R2:=fun x y H Q=>∃d e,Rep H d x/\Rep H e y/\d.dep<=40/\Q (.bl (Dat.eq d e)) H
noncomputable def rNeD:R2:=fun x y H Q=>∃d e,Rep H d x/\Rep H e y/\d.dep<=40/\Q (.bl (!Dat.eq d e)) H
theorem zSN(hu:X.A.units+64<cLine):OpR X (compareOp .Eq) rEqD:=by
 intro pins s σ H x y v u Q I rx ry h;obtain⟨d,e,h1,h2,hd,q⟩:=h;exact zNE 40 hd I.hok h1 h2 rx ry (by lia) _ _ _ _ ⟨.bl _,H,I,rfl,q⟩
theorem zSK(hu:X.A.units+64<cLine):OpR X (compareOp .NotEq) rNeD:=by
 intro pins s σ H x y v u Q I rx ry h;obtain⟨d,e,h1,h2,hd,q⟩:=h;exact zKK 40 hd I.hok h1 h2 rx ry (by lia) _ _ _ _ ⟨.bl _,H,I,rfl,q⟩
noncomputable def zF5(H:Hp):V->Option String
 |.non=>some "NoneType"
 |.bl _=>some "bool"
 |.int _=>some "int"
 |.str _=>some "str"
 |.ref a=>match H a with
  |some (.lst _)=>some "list"
  |some (.tup _)=>some "tuple"
  |some (.dK _)=>some "dict"
  |_=>none
 |_=>none
noncomputable def zQG(T n:String):Bool:=T==n||(T == "bool" && n == "int")
theorem zJL:zC5 X (.builtin "isinstance") (fun vs H Q=>∃x n T,vs=[x,.ty n]/\zF5 H x=some T/\n∈["int","bool","str","list","tuple","dict"]/\Q (.bl (zQG T n)) H):=by
 intro pins s σ H vs us Q I r h;obtain⟨x,n,T,rfl,ht,hn,q⟩:=h;obtain⟨u,w',rfl,rx,rn⟩:=zL1 r
 cases(show w'=Value.type n from rn)
 have key:∃t,TyOf X.K H x t/\t=.type T:=by
  cases x with
  |non=>cases ht;exact⟨_,.non,rfl⟩
  |bl b=>cases ht;exact⟨_,.bl b,rfl⟩
  |int b=>cases ht;exact⟨_,.int b,rfl⟩
  |str b=>cases ht;exact⟨_,.str b,rfl⟩
  |ref a=>
   unfold zF5 at ht;dsimp only at ht;cases e:H a with
   |none=>rw[e]at ht;cases ht
   |some o=>
    rw[e]at ht;cases o with
    |lst xs=>cases ht;exact⟨_,.lst e,rfl⟩
    |tup xs=>cases ht;exact⟨_,.tup e,rfl⟩
    |dK xs=>cases ht;exact⟨_,.dK e,rfl⟩
    |_=>cases ht
  |_=>cases ht
 obtain⟨t,ty,rfl⟩:=key;have hT:T∈["NoneType","bool","int","str","list","tuple","dict"]:=by
  cases x with
  |non=>cases ht;decide
  |bl b=>cases ht;decide
  |int b=>cases ht;decide
  |str b=>cases ht;decide
  |ref a=>
   unfold zF5 at ht;dsimp only at ht;cases e:H a with
   |none=>rw[e]at ht;cases ht
   |some o=>
    rw[e]at ht;cases o with
    |lst xs=>cases ht;decide
    |tup xs=>cases ht;decide
    |dK xs=>cases ht;decide
    |_=>cases ht
  |_=>cases ht
 have e:qAy X.K (.type T) (.type n)=some (zQG T n):=by
  simp only[qAk,List.mem_nil_iff,or_false]at hT hn
  rcases hT with rfl|rfl|rfl|rfl|rfl|rfl|rfl<;>rcases hn with rfl|rfl|rfl|rfl|rfl|rfl<;>rfl
 exact zM6 I rx ty e fun tk=>⟨.bl _,H,I.tok tk,rfl,q⟩
theorem zJ2{prog:Program}{w:World}{A:Around}{bs:List Bool}:TruthOf prog w A (fun i v=>(bs.map Value.bool).toArray[i]?=some v) (fun i=>bs.getD i false):=by
 intro i v s Q E hv hq;have hv':(bs[i]?).map Value.bool=some v:=by simpa using hv
 cases e:bs[i]? with
 |none=>rw[e]at hv';cases hv'
 |some b=>
  rw[e]at hv';cases hv';dsimp only at hq;rw[qA6,e]at hq;exact wpAny_truthy_bool hq
theorem zG4:∀{bs:List Bool}{its:List Value},Vals (bs.map V.bl) its->its=bs.map Value.bool
 |[],_,.nil=>rfl
 |b::r,_,.cons h t=>by
  have h':_=Value.bool b:=h;rw[h',zG4 t];rfl
theorem zKD:∀(bs:List Bool),(qA9 bs.length).all (fun i=>bs.getD i false)=bs.all id
 |[]=>rfl
 |b::r=>by
  rw[qAz,qDa,qC3,qC3,<- zKD r,qEf];rfl
theorem zOH(hc:X.calm=true):zC5 X (.builtin "all") (fun vs H Q=>∃(a:Addr)(bs:List Bool),vs=[.ref a]/\H a=some (.lst (bs.map V.bl))/\Q (.bl (bs.all id)) H):=by
 intro pins s σ H vs us Q I r h;obtain⟨a,bs,rfl,ha,q⟩:=h;obtain⟨u,rfl,rx⟩:=zHI r;cases rx;obtain⟨its,rv,hl⟩:=zAS I.hok ha;have e:=zG4 rv;subst e;refine call_all_walk (wpAny_pyIter_list hl ?_);have hlt:a<s.heap.objs.size:=by obtain⟨o,ho,_⟩:=hl;exact Heap.lt_size ho
 refine⟨s.heap.objs.size,_,_,_,_,_,fun i=>bs.getD i false,rfl,Walks.list (show X.A.in1.handled=none from I.ok.hd hc) s.heap.objs.size a (qAj hlt) _,
  ⟨⟨_,Heap.get?_push_size _ rfl,rfl,rfl⟩,hl.at fun o e=>Heap.get?_push_of_some _ e⟩,zJ2,fun h' tk hk=>?_⟩
 refine⟨.bl _,H,I.kept (t':=tk) fun b o e=>hk b o ?_ (Heap.get?_push_of_some _ e),rfl,?_⟩
 ·have:=Heap.lt_size e
  simp only[qCo];exact qAj this
 ·have:(bs.map Value.bool).toArray.size=bs.length:=by simp
  rw[this,zKD];exact q
noncomputable def zFI(lo:Int)(n:Nat):List V:=(qA9 n).map fun i=>.int (lo+(i:Nat))
theorem zF3:∀{xs:List V}{its:List Value},xs.length=its.length->(∀(j:Nat)(x:V)(v:Value),xs[j]?=some x->its[j]?=some v->RelV x v)->Vals xs its
 |[],[],_,_=>.nil
 |[],_::_,h,_=>by simp at h
 |_::_,[],h,_=>by simp at h
 |x::xs,v::its,h,g=>.cons (g 0 x v rfl rfl) (zF3 (by simpa using h) fun j y u e1 e2=>g (j+1) y u (by simpa using e1) (by simpa using e2))
theorem zL0{lo:Int}{n:Nat}{its:List Value}(hl:its.length=n)(h:∀(j:Nat) (v:Value),its[j]?=some v->∃t,v=Value.int (lo+(j:Int)*1) t):Vals (zFI lo n) its:=by
 refine zF3 (by simp[zFI,hl]) fun j x v e1 e2=>?_
 unfold zFI at e1;rw[qAg]at e1;cases e:(qA9 n)[j]? with
 |none=>rw[e]at e1;cases e1
 |some i=>
  rw[e]at e1;cases e1;have hi:i=j:=by
   obtain⟨h1,h2⟩:=qA2.mp e;rw[qC4]at h2;exact h2.symm
  subst hi;obtain⟨t,ht⟩:=h i v e2;exact⟨t,by rw[ht,qFq]⟩
theorem zMO:zC5 X (.type "range") (fun vs H Q=>∃j:Int,vs=[.int j]/\∀p,H p=none->Q (.ref p) (upd H p (.rng 0 j))):=by
 intro pins s σ H vs us Q I r h;obtain⟨j,rfl,q⟩:=h;obtain⟨u,rfl,rx⟩:=zHI r;obtain⟨t,rfl⟩:=rx;exact call_range_1 ⟨.ref _,_,I.laid (o:=.rng 0 j) (fun b o e=>Heap.get?_push_of_some _ e) (qA4 _) ⟨_,_,_,Heap.get?_push_size _ rfl⟩,rfl,q _ I.fresh⟩
theorem zMN:zC5 X (.type "range") (fun vs H Q=>∃i j:Int,vs=[.int i,.int j]/\∀p,H p=none->Q (.ref p) (upd H p (.rng i j))):=by
 intro pins s σ H vs us Q I r h;obtain⟨i,j,rfl,q⟩:=h;obtain⟨u,u',rfl,rx,rx'⟩:=zL1 r;obtain⟨t,rfl⟩:=rx;obtain⟨t',rfl⟩:=rx';exact call_range_2 ⟨.ref _,_,I.laid (o:=.rng i j) (fun b o e=>Heap.get?_push_of_some _ e) (qA4 _) ⟨_,_,_,Heap.get?_push_size _ rfl⟩,rfl,q _ I.fresh⟩
theorem zH9(hc:X.calm=true):zC5 X (.type "list") (fun vs H Q=>∃p lo hi,vs=[.ref p]/\H p=some (.rng lo hi)/\(-(2 ^ 62)<=lo/\lo<2 ^ 62/\-(2 ^ 62)<=hi/\hi<2 ^ 62)/\hi-lo<=1000000/\∀l,H l=none->Q (.ref l) (upd H l (.lst (zFI lo (hi-lo).toNat)))):=by
 intro pins s σ H vs us Q I r h;obtain⟨p,lo,hi,rfl,hp,⟨b1,b2,b3,b4⟩,hz,q⟩:=h;obtain⟨u,rfl,rx⟩:=zHI r;cases rx;obtain⟨t,u,v,e⟩:=(show ObjOk X.prog X.w H s.heap p (.rng lo hi) from I.hok p _ hp)
 have hn:Builtin.Range.rangeSize lo hi 1=(((hi-lo).toNat:Nat):Int):=by rw[rangeSize_one];split<;>lia
 refine call_list_range (n:=(hi-lo).toNat) (I.ok.hd hc) e (small_one b1 b2 b3 b4) hn (by lia) fun h' tk acc' c' hk hS hacc=>?_
 have rv:Vals (zFI lo (hi-lo).toNat) acc'.toList:=zL0 (by simpa using hacc.1) fun j v hj=>hacc.2 j v (by simpa using hj)
 refine⟨.ref _,_,I.laid (o:=.lst (zFI lo (hi-lo).toNat)) hk (qA4 _) ⟨?_,acc'.toList,c',rv,by simpa using hS⟩,rfl,q _ I.fresh⟩;have hl:(zFI lo (hi-lo).toNat).length=(hi-lo).toNat:=by simp[zFI]
 rw[hl,sizeLine_eq]
 lia
end
end L2
namespace L2
open PySem PySem.Spec PyProof.Rows
section
variable{X:Cx}
def zS1:R2:=fun x y H Q=>match x,y with
 |.int i,.int j=>Q (.int (i+j)) H
 |.str i,.str j=>i.length+j.length<=sizeLine/\Q (.str (i++j)) H
 |.ref l,.ref b=>∃xs zs,H l=some (.lst xs)/\H b=some (.lst zs)/\xs.length+zs.length<=sizeLine/\∀p,H p=none->Q (.ref p) (upd H p (.lst (xs++zs)))
 |_,_=>False
theorem zF4:OpR X (binaryOp .Add) zS1:=by
 intro pins s σ H x y v u Q I rx ry h;cases x<;>cases y<;>first
  |exact zSP pins s σ H _ _ v u Q I rx ry ⟨_,_,rfl,rfl,h⟩
  |exact zKL pins s σ H _ _ v u Q I rx ry ⟨_,_,rfl,rfl,h.1,h.2⟩
  |(obtain⟨xs,zs,h1,h2,h3,h4⟩:=h;exact zSO pins s σ H _ _ v u Q I rx ry ⟨_,_,xs,zs,rfl,rfl,h1,h2,h3,h4⟩)
  |exact qA3 h
noncomputable def rMulU:R2:=fun x y H Q=>match x,y with
 |.int i,.int j=>CMul i j/\Q (.int (i*j)) H
 |_,_=>False
noncomputable def zRO:R2:=fun x y H Q=>match x,y with
 |.int i,.int j=>Q (.int (i-j)) H
 |_,_=>False
theorem zN3:OpR X (binaryOp .Sub) zRO:=by
 intro pins s σ H x y v u Q I rx ry h;cases x<;>cases y<;>first
  |exact zSH pins s σ H _ _ v u Q I rx ry ⟨_,_,rfl,rfl,h⟩
  |exact qA3 h
noncomputable def zRU:R2:=fun x y H Q=>match x,y with
 |.int i,.int j=>0<j/\Q (.int (i%j)) H
 |_,_=>False
theorem zGK:OpR X (binaryOp .Mod) zRU:=by
 intro pins s σ H x y v u Q I rx ry h;cases x<;>cases y<;>first
  |exact zSL pins s σ H _ _ v u Q I rx ry ⟨_,_,rfl,rfl,h.1,h.2⟩
  |exact qA3 h
noncomputable def zRQ:R2:=fun x y H Q=>match x,y with
 |.int i,.int j=>CPow i j/\Q (.int (i ^ j.toNat)) H
 |_,_=>False
theorem zU4:OpR X (binaryOp .Pow) zRQ:=by
 intro pins s σ H x y v u Q I rx ry h;cases x<;>cases y<;>first
  |exact zSJ pins s σ H _ _ v u Q I rx ry ⟨_,_,rfl,rfl,h.1,h.2⟩
  |exact qA3 h
def zRS:V->Hp->VK->Prop:=fun x H Q=>match x with
 |.int i=>Q (.int (-i)) H
 |_=>False
theorem zR2:UnR X (unaryOp .USub) zRS:=by
 intro pins s σ H x v Q I rx h;cases x<;>first
  |exact zR1 pins s σ H _ v Q I rx ⟨_,rfl,h⟩
  |exact qA3 h
noncomputable def zLD(p:Int->Int->Bool):R2:=fun x y H Q=>match x,y with
 |.int i,.int j=>Q (.bl (p i j)) H
 |_,_=>False
theorem u_lt:OpR X (compareOp .Lt) (zLD fun i j=>decide (i<j)):=by
 intro pins s σ H x y v u Q I rx ry h;cases x<;>cases y<;>first
  |exact zUJ pins s σ H _ _ v u Q I rx ry ⟨_,_,rfl,rfl,h⟩
  |exact qA3 h
theorem u_le:OpR X (compareOp .LtE) (zLD fun i j=>decide (i<=j)):=by
 intro pins s σ H x y v u Q I rx ry h;cases x<;>cases y<;>first
  |exact zUK pins s σ H _ _ v u Q I rx ry ⟨_,_,rfl,rfl,h⟩
  |exact qA3 h
theorem u_gt:OpR X (compareOp .Gt) (zLD fun i j=>decide (j<i)):=by
 intro pins s σ H x y v u Q I rx ry h;cases x<;>cases y<;>first
  |exact zUL pins s σ H _ _ v u Q I rx ry ⟨_,_,rfl,rfl,h⟩
  |exact qA3 h
theorem u_ge:OpR X (compareOp .GtE) (zLD fun i j=>decide (j<=i)):=by
 intro pins s σ H x y v u Q I rx ry h;cases x<;>cases y<;>first
  |exact zUM pins s σ H _ _ v u Q I rx ry ⟨_,_,rfl,rfl,h⟩
  |exact qA3 h
def rEqU:R2:=fun x y H Q=>match x,y with
 |.int i,.int j=>Q (.bl (decide (i=j))) H
 |.str i,.str j=>Q (.bl (decide (i=j))) H
 |.bl i,.bl j=>Q (.bl (decide (i=j))) H
 |x,y=>rEqD x y H Q
def rNeU:R2:=fun x y H Q=>match x,y with
 |.int i,.int j=>Q (.bl (!decide (i=j))) H
 |.str i,.str j=>Q (.bl (!decide (i=j))) H
 |.bl i,.bl j=>Q (.bl (!decide (i=j))) H
 |x,y=>rNeD x y H Q
theorem u_eq(hu:X.A.units+64<cLine):OpR X (compareOp .Eq) rEqU:=by
 intro pins s σ H x y v u Q I rx ry h;cases x<;>cases y<;>first
  |(refine zUN pins s σ H _ _ v u Q I rx ry ⟨rfl,?_⟩;have h':=h;simp only[rEqU]at h';simpa using h')
  |exact zSN hu pins s σ H _ _ v u Q I rx ry h
theorem u_ne(hu:X.A.units+64<cLine):OpR X (compareOp .NotEq) rNeU:=by
 intro pins s σ H x y v u Q I rx ry h;cases x<;>cases y<;>first
  |(refine zUI pins s σ H _ _ v u Q I rx ry ⟨rfl,?_⟩;have h':=h;simp only[rNeU]at h';simpa using h')
  |exact zSK hu pins s σ H _ _ v u Q I rx ry h
def rIxU(K:qA0):R2:=fun x y H Q=>match x,y with
 |.str z,.int i=>∃c,z.length<=sizeLine/\atI z.cps.toList i=some c/\Q (.str ⟨#[c]⟩) H
 |.ref p,.int i=>∃xs v,(SqL K H p xs\/SqT K H p xs)/\atI xs i=some v/\Q v H
 |_,_=>False
theorem u_ix:IxR X (rIxU X.K):=by
 intro value slice pins s σ H x y v u Q I rx ry h hs;cases x<;>cases y<;>first
  |(obtain⟨c,h1,h2,h3⟩:=h;exact zT3 value slice pins s σ H _ _ v u Q I rx ry ⟨_,_,c,rfl,rfl,h1,h2,h3⟩ hs)
  |(obtain⟨xs,w,h1|h1,h2,h3⟩:=h
    ·exact zQE value slice pins s σ H _ _ v u Q I rx ry ⟨_,xs,_,w,rfl,rfl,h1,h2,h3⟩ hs
    ·exact zT1 value slice pins s σ H _ _ v u Q I rx ry ⟨_,xs,_,w,rfl,rfl,h1,h2,h3⟩ hs)
  |exact qA3 h
def zPR(K:qA0):List V->Hp->VK->Prop:=fun vs H Q=>match vs with
 |[.str z]=>z.length<=sizeLine/\Q (.int z.length) H
 |[.ref p]=>∃xs,(SqL K H p xs\/SqT K H p xs)/\Q (.int xs.length) H
 |_=>False
theorem zUR:zC5 X (.builtin "len") (zPR X.K):=by
 intro pins s σ H vs us Q I r h;cases vs with
 |nil=>exact qA3 h
 |cons hd1 tl1=>
  cases hd1 with
  |str z=>
   cases tl1 with
   |nil=>
    exact zIM pins s σ H _ us Q I r ⟨z,rfl,h.1,h.2⟩
   |cons _ _=>exact qA3 h
  |ref p=>
   cases tl1 with
   |nil=>
    obtain⟨xs,h1,h2⟩:=h;exact zIN pins s σ H _ us Q I r ⟨p,xs,rfl,h1,h2⟩
   |cons _ _=>exact qA3 h
  |_=>exact qA3 h
def zG6(K:qA0):List V->Hp->VK->Prop:=fun vs H Q=>match vs with
 |[.ref p]=>(∃xs,(SqL K H p xs\/SqT K H p xs)/\∀l,H l=none->Q (.ref l) (upd H l (.lst xs))) \/
   ∃lo hi,H p=some (.rng lo hi)/\(-(2 ^ 62)<=lo/\lo<2 ^ 62/\-(2 ^ 62)<=hi/\hi<2 ^ 62)/\hi-lo<=1000000/\∀l,H l=none->Q (.ref l) (upd H l (.lst (zFI lo (hi-lo).toNat)))
 |_=>False
theorem zT0(hc:X.calm=true):zC5 X (.type "list") (zG6 X.K):=by
 intro pins s σ H vs us Q I r h;cases vs with
 |nil=>exact qA3 h
 |cons hd1 tl1=>
  cases hd1 with
  |ref p=>
   cases tl1 with
   |nil=>
    rcases h with⟨xs,h1,h2⟩|⟨lo,hi,h1,h2,h3,h4⟩
    ·exact zIL pins s σ H _ us Q I r ⟨p,xs,rfl,h1,h2⟩
    ·exact zH9 hc pins s σ H _ us Q I r ⟨p,lo,hi,rfl,h1,h2,h3,h4⟩
   |cons _ _=>exact qA3 h
  |_=>exact qA3 h
def zLC:List V->Hp->VK->Prop:=fun vs H Q=>match vs with
 |[.int j]=>∀p,H p=none->Q (.ref p) (upd H p (.rng 0 j))
 |[.int i,.int j]=>∀p,H p=none->Q (.ref p) (upd H p (.rng i j))
 |_=>False
theorem zQD:zC5 X (.type "range") zLC:=by
 intro pins s σ H vs us Q I r h
 match vs,h with
 |[.int j],h=>exact zMO pins s σ H _ us Q I r ⟨j,rfl,h⟩
 |[.int i,.int j],h=>exact zMN pins s σ H _ us Q I r ⟨i,j,rfl,h⟩
def zRX:List V->Hp->VK->Prop:=fun vs H Q=>match vs with
 |[x,.ty n]=>∃T,zF5 H x=some T/\n∈["int","bool","str","list","tuple","dict"]/\Q (.bl (zQG T n)) H
 |_=>False
theorem zBH:zC5 X (.builtin "isinstance") zRX:=by
 intro pins s σ H vs us Q I r h;cases vs with
 |nil=>exact qA3 h
 |cons x tl1=>
  cases tl1 with
  |nil=>exact qA3 h
  |cons hd2 tl2=>
   cases hd2 with
   |ty n=>
    cases tl2 with
    |nil=>
     obtain⟨T,h1,h2,h3⟩:=h;exact zJL pins s σ H _ us Q I r ⟨x,n,T,rfl,h1,h2,h3⟩
    |cons _ _=>exact qA3 h
   |_=>exact qA3 h
def zS0:List V->Hp->VK->Prop:=fun vs H Q=>match vs with
 |[.ref a]=>∃bs:List Bool,H a=some (.lst (bs.map V.bl))/\Q (.bl (bs.all id)) H
 |_=>False
theorem zUS(hc:X.calm=true):zC5 X (.builtin "all") zS0:=by
 intro pins s σ H vs us Q I r h;cases vs with
 |nil=>exact qA3 h
 |cons hd1 tl1=>
  cases hd1 with
  |ref a=>
   cases tl1 with
   |nil=>
    obtain⟨bs,h1,h2⟩:=h;exact zOH hc pins s σ H _ us Q I r ⟨a,bs,rfl,h1,h2⟩
   |cons _ _=>exact qA3 h
  |_=>exact qA3 h
end
noncomputable def zIJ(N N':List Str)(k:Nat)(sc esc:Scope):Bool:=
 (sc.kind==.function)&&decide ((sc.names.map (·.1)).Nodup)&&(N'.length==N.length+k) &&
 ((qA9 N.length).all fun i=>match N'[i]? with
  |none=>true
  |some x=>(sc.names.lookup x==none)||(sc.names.any (fun p=>p.1==x&&p.2==.free)&&N[i]?==some x)) &&
 (sc.names.all fun p=>p.2 != .free||esc.names.lookup p.1==some .cell||esc.names.lookup p.1==some .free)
theorem cn{X:Cx}{sc:Scope}(N':List Str)(k:Nat)(h:zIJ X.N N' k sc X.env.scope=true):CompNames X.N N' k sc X.env:=by
 unfold zIJ at h;simp only[qAs,decide_eq_true_eq,beq_iff_eq]at h;obtain⟨⟨⟨⟨h1,h2⟩,h3⟩,h4⟩,h5⟩:=h;refine⟨h1,h2,h3,fun i x e hi=>?_,fun x hx=>?_⟩
 ·have q:=qCf.mp h4 i (qCs.mpr hi);rw[e]at q;simp only[qEq,qAs,beq_iff_eq,qD6]at q
  rcases q with q|⟨⟨p,hp,e1,e2⟩,e3⟩
  ·exact .inr q
  ·obtain⟨y,kk⟩:=p;dsimp only at e1 e2;subst e1;subst e2;exact .inl ⟨hp,e3⟩
 ·have q:=qCf.mp h5 _ hx;simp only[qEq,bne_iff_ne,ne_eq,not_true_eq_false,false_or,beq_iff_eq]at q;exact q
theorem PE.imp{X:Cx}{e:Expr}{t t':TE}(h:PE X e t)(i:∀σ H Q,t' σ H Q->t σ H Q):PE X e t':=fun pins s σ H Q I q=>h pins s σ H Q I (i σ H Q q)
noncomputable def vM(i:Nat):TE:=fun σ H Q=>match σ[i]? with
 |some (some v)=>Q v H
 |_=>False
theorem pn{X:Cx}(i:Nat){x:Str}{pos:Pos}(hN:X.N[i]?=some x:=by rfl)(hv:Vis X.env.scope x:=by first|exact qEo rfl|exact qDw (qEo rfl)|exact qDw (qDw rfl))(hd:(x==("__debug__":Str))=false:=by decide)
  (hcd:(x==("__classdict__":Str))=false:=by decide):PE X (.Name x pos) (vM i):=(zLJ hN hv hd hcd).imp fun σ H Q h=>by
 unfold vM at h;cases e:σ[i]? with
 |none=>rw[e]at h;exact qA3 h
 |some w=>
  rw[e]at h;cases w with
  |none=>exact qA3 h
  |some v=>exact⟨v,e,h⟩
noncomputable def bM(t:TE):TT:=fun σ H Q=>t σ H fun x H'=>match x with
 |.bl k=>Q k H'
 |.int i=>Q (i != 0) H'
 |.non=>Q false H'
 |_=>False
section
variable{X:Cx}{a b c:Expr}{ta tb tc:TE}{tA tB:TT}{rest:List Expr}{pos:Pos}
theorem zR5{K:qA0}{x:V}{H:Hp}{Q:Bool->Hp->Prop}(h:match x with | .bl k=>Q k H | .int i=>Q (i != 0) H | .non=>Q false H|_=>False):∃k,TruV K x H k/\Q k H:=by
 cases x with
 |bl k=>exact⟨k,rfl,h⟩
 |int i=>exact⟨_,rfl,h⟩
 |non=>exact⟨_,rfl,h⟩
 |_=>exact qA3 h
theorem pt_m(ha:PE X a ta)(he:∀whole,isTrue a X.env whole=(do let v <- whole;standAt a.pos;holding [v] (truthy v)):=by intro _;rfl):PT X a (bM ta):=by
 intro pins s σ H Q I h;refine isTrue_plain (thn (ha pins s σ H _ I h) fun v s1 z0=>?_) (he _);obtain⟨x,H1,I1,r1,q1⟩:=z0;exact thn (zR4 pins s1 σ H1 x v Q I1 r1 (zR5 q1)) fun _ _ q=>q
theorem zBU{op:CmpOp}{r:R2}(ho:OpR X (compareOp op) r)(ha:PE X a ta)(hb:PE X b tb)(hm:behindInMarks op b=false):PT X (.Compare a [op] [b] pos) (fun σ H Q=>ta σ H fun x H1=>tb σ H1 fun y H2=>r x y H2 fun z H3=>match z with | .bl k=>Q k H3|_=>False):=by
 intro pins s σ H Q I h;refine wpAny_isTrue_Compare1 (thn (ha pins s σ H _ I h) fun v s1 ⟨x,H1,I1,r1,q1⟩=>thn (hb pins s1 σ H1 _ I1 q1) fun u s2 ⟨y,H2,I2,r2,q2⟩=>
  thn (ho pins s2 σ H2 x y v u _ I2 r1 r2 q2) fun d s3 ⟨z,H3,I3,r3,q3⟩=>?_) hm
 cases z with
 |bl k=>cases r3;exact wpAny_truthy_bool ⟨H3,I3,q3⟩
 |_=>exact qA3 q3
theorem zS3{op op':CmpOp}{r r':R2}(ho:OpR X (compareOp op) r)(ho':OpR X (compareOp op') r')(ha:PE X a ta)(hb:PE X b tb)(hc:PE X c tc)
  (hm:lastMarks [op,op'] [b,c]=false:=by with_unfolding_all rfl):PT X (.Compare a [op,op'] [b,c] pos) (fun σ H Q=>ta σ H fun x H1=>tb σ H1 fun y H2=>r x y H2 fun z H3=>match z with
   |.bl k=>if k=true then tc σ H3 fun w' H4=>r' y w' H4 fun z H5=>match z with | .bl k=>Q k H5|_=>False else Q false H3
   |_=>False):=by
 intro pins s σ H Q I h;refine isTrue_chain (thn (ha pins s σ H _ I h) fun v s1 ⟨x,H1,I1,r1,q1⟩=>test_link (thn (hb pins s1 σ H1 _ I1 q1) fun u s2 ⟨y,H2,I2,r2,q2⟩=>
  thn (ho pins s2 σ H2 x y v u _ I2 r1 r2 q2) fun d s3 ⟨z,H3,I3,r3,q3⟩=>?_)) hm
 cases z with
 |bl k=>
  cases r3;refine wpAny_truthy_bool ?_;cases k with
  |false=>exact ite_ff ⟨H3,I3,by simpa using q3⟩
  |true=>
   refine ite_tt (test_last (thn (hc pins s3 σ H3 (fun w' H4=>r' y w' H4 fun z H5=>match z with | .bl k=>Q k H5|_=>False) I3 (by simpa using q3)) fun w' s4 ⟨z',H4,I4,r4,q4⟩=>thn (ho' pins s4 σ H4 y z' u w' (fun z H5=>match z with | .bl k=>Q k H5|_=>False) I4 r2 r4 q4) fun d' s5 ⟨z2,H5,I5,r5,q5⟩=>?_));cases z2 with
   |bl k2=>cases r5;exact wpAny_truthy_bool ⟨H5,I5,q5⟩
   |_=>exact qA3 q5
 |_=>exact qA3 q3
theorem zSF{op op':CmpOp}{r r':R2}(ho:OpR X (compareOp op) r)(ho':OpR X (compareOp op') r')(ha:PE X a ta)(hb:PE X b tb)(hc:PE X c tc)
  (hm:lastMarks [op,op'] [b,c]=false:=by with_unfolding_all rfl):PE X (.Compare a [op,op'] [b,c] pos) (fun σ H Q=>ta σ H fun x H1=>tb σ H1 fun y H2=>r x y H2 fun z H3=>match z with
   |.bl k=>if k=true then tc σ H3 fun w' H4=>r' y w' H4 Q else Q (.bl false) H3
   |_=>False):=by
 intro pins s σ H Q I h;refine Compare_chain (thn (ha pins s σ H _ I h) fun v s1 ⟨x,H1,I1,r1,q1⟩=>chain_link (thn (hb pins s1 σ H1 _ I1 q1) fun u s2 ⟨y,H2,I2,r2,q2⟩=>
  thn (ho pins s2 σ H2 x y v u _ I2 r1 r2 q2) fun d s3 ⟨z,H3,I3,r3,q3⟩=>?_)) hm
 cases z with
 |bl k=>
  cases r3;refine wpAny_truthy_bool ?_;cases k with
  |false=>exact ite_ff ⟨.bl false,H3,I3,rfl,by simpa using q3⟩
  |true=>exact ite_tt (chain_last (thn (hc pins s3 σ H3 _ I3 (by simpa using q3)) fun w' s4 ⟨z',H4,I4,r4,q4⟩=>ho' pins s4 σ H4 y z' u w' Q I4 r2 r4 q4))
 |_=>exact qA3 q3
theorem zHY(ha:PE X a ta)(hb:PE X (.BoolOp .And (b::rest) pos) tb):PE X (.BoolOp .And (a::b::rest) pos) (fun σ H Q=>ta σ H fun x H1=>match x with | .bl c=>if c=true then tb σ H1 Q else Q (.bl false) H1|_=>False):=by
 intro pins s σ H Q I h;refine BoolOp_and (thn (ha pins s σ H _ I h) fun v s1 z0=>?_);obtain⟨x,H1,I1,r1,q1⟩:=z0;cases x with
 |bl c=>
  cases r1;refine wpAny_truthy_bool ?_;cases c with
  |true=>exact hb pins s1 σ H1 Q I1 (by simpa using q1)
  |false=>exact⟨.bl false,H1,I1,rfl,by simpa using q1⟩
 |_=>exact qA3 q1
theorem zUG(ha:PE X a ta):PE X (.UnaryOp .Not a pos) (fun σ H Q=>ta σ H fun x H1=>match x with | .bl c=>Q (.bl (!c)) H1|_=>False):=by
 intro pins s σ H Q I h;refine UnaryOp_ (thn (ha pins s σ H _ I h) fun v s1 z0=>?_);obtain⟨x,H1,I1,r1,q1⟩:=z0;cases x with
 |bl c=>cases r1;exact not_of (wpAny_truthy_bool ⟨.bl (!c),H1,I1,rfl,q1⟩)
 |_=>exact qA3 q1
def setM:V->V->V->Hp->(Hp->Prop)->Prop:=fun o i v H Q=>match o,i with
 |.ref p,.int k=>∃xs j,H p=some (.lst xs)/\ixN xs.length k=some j/\Q (upd H p (.lst (xs.set j v)))
 |_,_=>False
theorem zET:PSet X setM:=by
 intro pins s σ H o i v ov iv u Q I ro ri rv h;cases o<;>cases i<;>first
  |(obtain⟨xs,j,h1,h2,h3⟩:=h;exact zN8 pins s σ H _ _ v ov iv u Q I ro ri rv ⟨_,xs,_,j,rfl,rfl,h1,h2,h3⟩)
  |exact qA3 h
def appM:V->List V->Hp->VK->Prop:=fun x vs H Q=>match x,vs with
 |.ref l,[y]=>∃xs,H l=some (.lst xs)/\xs.length<sizeLine/\Q .non (upd H l (.lst (xs++[y])))
 |_,_=>False
theorem zLV:MtR X "list.append" appM:=by
 intro pins s σ H x vs v us Q I rx rv h;cases x with
 |ref l=>
  cases vs with
  |nil=>exact qA3 h
  |cons y t=>
   cases t with
   |nil=>
    obtain⟨xs,h1,h2,h3⟩:=h;exact zLU pins s σ H _ _ v us Q I rx rv ⟨l,xs,y,rfl,rfl,h1,h2,h3⟩
   |cons _ _=>exact qA3 h
 |_=>exact qA3 h
end
theorem pt_w{X:Cx}{e:Expr}{t:TT}(h:PW X e t):PT X e t:=h.pt
def Has(P:Program)(w:World)(K:qA0)(mg:Str->Option Value)(base:Heap)(x:Str)(k:Nat)(ps:List Str)(sp:Sp):Prop:=
 ∃f fd,FnOk P w K mg base CX0 k f fd ps sp/\mg x=some (.ref f)/\qAp K (.ref f)=true/\Binds K fd ps []
def Def(K:qA0)(mg:Str->Option Value)(x:Str)(st:Stmt):Prop:=∃f fd,Fun K x x st f fd/\mg x=some (.ref f)
section
variable{X:Cx}{x:Str}{j k:Nat}{ps:List Str}{sp:Sp}{e:Expr}{es:List Expr}{t:TA}{p pos:Pos}
theorem zDJ(h:Has X.prog X.w X.K X.mg X.base x j ps sp)(hjk:j<=k)(hr:Room k X.A)(hg:Gl X x)(ha:PA X (e::es) t)(hdb:(x==("__debug__":Str))=false:=by decide)
  (he:starEach (e::es) X.env=(false,eval e X.env)::starEach es X.env:=by rfl) (hpl:(backTo pos (starEach es X.env)).any (·.1)=false:=by rfl):PE X (.Call (.Name x p) (e::es) [] pos) (zG1 sp [] E0 t):=by
 obtain⟨f,fd,G,m,kp,b⟩:=h;exact zLO G (hr.mono hjk) hg m kp b .nil zUH ha hdb he hpl
end
section
variable{P:Program}{w:World}{K:qA0}{mg:Str->Option Value}{base:Heap}
theorem Def.ok{x:Str}{st:Stmt}{N ps:List Str}{k:Nat}{sp:Sp}(D:Def K mg x st)(S:FnScope N ps (zA5 st))
  (hb:∀(kV doc pm:Value)(an:Option Addr)(cdv ct:Value)(us:List Value),us.length=ps.length->bindArgs (qAw x x (zBL st) (zAR st) (zA5 st) .none kV doc pm an cdv ct) ⟨us,[]⟩=pure (ps.zip us))
  (len:∀vs H Q E,sp vs H Q E->vs.length=ps.length)
  (hbody:∀(f:Addr)(cdv:Value)(A:Around)(outer:List Env)(s:Shared)(H:Hp)(vs:List V)(Q:VK)(E:XK),Room k (A.deeper (envOfC x (zA5 st) s.heap.objs.size f cdv))->sp vs H Q E ->
   ∃t,PSs (cxOf CX0 P w K mg base N x (zA5 st) f cdv A outer s H E).nox (zAR st) t/\t { nx:=fun _ H'=>Q .non H',rt:=Q } (start N vs) H):Has P w K mg base x (k+1) ps sp:=by
 obtain⟨f,fd,F,m⟩:=D;exact⟨f,fd,F.ok S len (fun cdv A outer s H vs Q E hr h=>hbody f cdv A outer s H vs Q E hr h),m,F.kp,F.binds hb⟩
end
end L2
namespace L2
open PySem PySem.Spec PyProof.Rows
section
variable{X:Cx}{pins:List (Addr×Obj)}{σ:St}{H:Hp}{s:Shared}
theorem Inv.turnedNew{h':Heap}{t':Nat}{fp:List Addr}{a:Addr}{o:HO}(I:Inv X pins σ H s)(hf:∀b∈fp,FpOk X pins H b)(k:∀b u,b∉fp->s.heap.get? b=some u->h'.get? b=some u)
  (hp:s.heap.objs.size<=a) (new:ObjOk X.prog X.w (upd H a o) h' a o):Inv X pins σ (upd H a o) { s with heap:=h',toks:=t' }:=by
 have hn:H a=none:=I.hok.fresh hp;have ne:∀b u,s.heap.get? b=some u->b≠a:=fun b u e=>qAj (qA7 (Heap.lt_size e) hp)
 have nfp:∀b u,H b=some u->b∉fp:=fun b u e z=>by rw[(hf b z).1]at e;cases e
 refine I.step (g':=s.gens) (d':=s.drawn) (ch:=fp) (fun b hb=>⟨(hf b hb).2.2.2.1,(hf b hb).2.1,(hf b hb).2.2.2.2.1,(hf b hb).2.2.2.2.2⟩) (fun b u _ _ hc e _=>k b u hc e) (fun b u _ _ hc e _=>⟨u.slots,k b u hc e⟩)
  (fun b u _ e n=>by rw[zA9 (ne b u e)];exact n) (fun b u hc e=>⟨u,k b u hc e⟩) (fun b xs e=>by rw[zA9 (zAG e hn)];exact e) (fun b u xs e=>by rw[zA9 (zAG e hn)];exact e)
  (fun b ps e=>⟨#[],by rw[zA9 (zAG e hn),e];simp⟩) (fun m hm=>?_) (fun b u e=>?_) I.bare
 ·obtain⟨u,es,ep,ho,r⟩:=hm;exact⟨u,es,ep,k _ u (fun z=>(hf _ z).2.1 rfl) ho,r⟩
 ·by_cases hb:b=a
  ·subst hb;rw[zAH]at e;cases e;exact new
  ·rw[zA9 hb]at e;refine(I.hok b u e).stay (fun c v hc q=>k c v ?_ q) (fun c q=>by rw[zA9 (zAG q hn)];exact q) (fun c xs q=>by rw[zA9 (zAG q hn)];exact q) fun c _ _ q _=>by rw[zA9 (zAG q hn)];exact q
   rcases hc with z|z
   ·rw[z];exact nfp b u e
   ·exact nfp c _ z
theorem Inv.turnedL{h':Heap}{t':Nat}{fp:List Addr}(I:Inv X pins σ H s)(hf:∀b∈fp,FpOk X pins H b)(k:∀b u,b∉fp->s.heap.get? b=some u->h'.get? b=some u):Inv X pins σ H { s with heap:=h',toks:=t' }:=by
 have nfp:∀b u,H b=some u->b∉fp:=fun b u e z=>by rw[(hf b z).1]at e;cases e
 refine I.step (g':=s.gens) (d':=s.drawn) (ch:=fp) (fun b hb=>⟨(hf b hb).2.2.2.1,(hf b hb).2.1,(hf b hb).2.2.2.2.1,(hf b hb).2.2.2.2.2⟩) (fun b u _ _ hc e _=>k b u hc e) (fun b u _ _ hc e _=>⟨u.slots,k b u hc e⟩)
  (fun b u _ e n=>n) (fun b u hc e=>⟨u,k b u hc e⟩) (fun b xs e=>e) (fun b u xs e=>e)
  (fun b ps e=>⟨#[],by rw[e];simp⟩) (fun m hm=>?_) (fun b u e=>?_) I.bare
 ·obtain⟨u,es,ep,ho,r⟩:=hm;exact⟨u,es,ep,k _ u (fun z=>(hf _ z).2.1 rfl) ho,r⟩
 ·refine(I.hok b u e).stay (fun c v hc q=>k c v ?_ q) (fun c q=>q) (fun c xs q=>q) fun c _ _ q _=>q
  rcases hc with z|z
  ·rw[z];exact nfp b u e
  ·exact nfp c _ z
def Ite(K:qA0)(a:Addr):It:=
 ⟨fun i H=>∃xs x,SqL K H a xs/\xs[i]?=some x,fun i H x H'=>∃T y,x=.ref T/\H T=none/\H'=upd H T (.tup [.int i,y])/\∀xs,SqL K H a xs->xs[i]?=some y,fun i H=>∃xs,SqL K H a xs/\xs.length<=i⟩
def iEnum(K:qA0)(tl:TA):TI:=fun σ H R=>tl σ H fun vs H1=>match vs with
 |[.ref a]=>(∃xs,SqL K H1 a xs)/\R (Ite K a) H1
 |_=>False
end
section
variable{X:Cx}{K:qA0}
theorem zBG(hK:X.K=K:=by rfl):zC5 X (.builtin "len") (zPR K):=hK▸zUR
theorem zFN(hc:X.calm=true)(hK:X.K=K:=by rfl):zC5 X (.type "list") (zG6 K):=hK▸zT0 hc
theorem zAL(hK:X.K=K:=by rfl):IxR X (rIxU K):=hK▸u_ix
theorem zPY{es:List Expr}{k:Nat}{t:TGs}{n:Nat}{pos:Pos}(hc:X.calm=true)(h:PGs X es t)
  (hn:(assignEach es X.env).length=n:=by rfl) (hst:(assignEach es X.env).findIdx? (·.1)=none:=by rfl) (hK:X.K=K:=by rfl):PG X (.Tuple es k pos) (gTup K n t):=hK▸zS9 hc h hn hst
noncomputable def tML(r:V->List V->Hp->VK->Prop)(to:TE)(t:TA):TE:=fun σ H Q=>to σ H fun x H1=>match x with
 |.ref p=>∃xs,H1 p=some (.lst xs)/\t σ H1 fun vs H2=>r x vs H2 Q
 |_=>False
variable{o e:Expr}{es:List Expr}{to:TE}{t:TA}{name:Str}{apos cpos:Pos}{T id:String}{r:V->List V->Hp->VK->Prop}
theorem zSD(pa:PlainAttrs "list")(slot:Slot "list" name id)(hty:typeOf (.builtin id)=pure (.type "method_descriptor"))(hm:MtR X id r)(ho:PE X o to)(ha:PA X (e::es) t)
  (hbase:attributeBase o name X.env (eval o X.env)=eval o X.env:=by rfl)
  (hfew:((backTo cpos (starEach (e::es) X.env)).all (fun x=>!x.1)&&(backToKw cpos (keywordEach [] X.env)).all (fun x=>x.1.isSome)
   && decide ((e::es).length+([]:List Keyword).length+(if([]:List Keyword).isEmpty then 0 else 1)<30))=true:=by rfl)
  (hline:(apos.endLine==cpos.line)=true:=by rfl) (hs:starEach (e::es) X.env=(false,eval e X.env)::starEach es X.env:=by rfl) (hplain:(backTo cpos (starEach es X.env)).any (·.1)=false:=by rfl) :
  PE X (.Call (.Attribute o name apos) (e::es) [] cpos) (tML r to t):=by
 intro pins s σ H Q I h;refine wpAny_Call_method_late hbase hfew hline rfl (thn (ho pins s σ H _ I h) fun v s1 z0=>?_);obtain⟨x,H1,I1,r1,q1⟩:=z0;cases x with
 |ref p=>?_
 |_=>exact qA3 q1
 obtain⟨xs,hx,q1⟩:=q1;obtain⟨h1,h2⟩:=zOK (T:="list") I1 r1 (.inl ⟨rfl,xs,SqL.of hx⟩);refine⟨"list",id,pa,slot,hty,h1,h2,?_⟩;have hA:=ha cpos pins s1 σ H1 _ I1 q1;rw[hs]at hA ⊢;refine Calls.callWith_builtin (by show(false||(backTo cpos (starEach es X.env)).any (·.1))=false;rw[hplain]<;>rfl) (Calls.evalArgs_plain ?_);exact thn hA fun us s2 ⟨vs,H2,I2,r2,q2⟩=>hm pins s2 σ H2 (.ref p) vs v us Q I2 r1 r2 q2
theorem zSC(pa:PlainAttrs "list")(slot:Slot "list" name id)(hty:typeOf (.builtin id)=pure (.type "method_descriptor"))(hm:MtR X id r)(ho:PE X o to)
  (hbase:attributeBase o name X.env (eval o X.env)=eval o X.env:=by rfl) (hline:(apos.endLine==cpos.line)=true:=by rfl):PE X (.Call (.Attribute o name apos) [] [] cpos) (tML r to tNil):=by
 intro pins s σ H Q I h;refine wpAny_Call_method0_late hbase hline (thn (ho pins s σ H _ I h) fun v s1 z0=>?_);obtain⟨x,H1,I1,r1,q1⟩:=z0;cases x with
 |ref p=>?_
 |_=>exact qA3 q1
 obtain⟨xs,hx,q1⟩:=q1;obtain⟨h1,h2⟩:=zOK (T:="list") I1 r1 (.inl ⟨rfl,xs,SqL.of hx⟩);exact⟨"list",id,pa,slot,hty,h1,h2,Calls.callWith_builtin rfl (PySem.evalArgs_none (hm pins s1 σ H1 (.ref p) [] v [] Q I1 r1 .nil q1))⟩
end
end L2
namespace L2
open PySem PySem.Spec PyProof.Rows
theorem same_new{H:Hp}{p:Addr}(h:H p=none)(o:HO):Same H (upd H p o):=fun b u q=>by rw[zA9 (zAG q h)];exact q
theorem Same.upd{H H':Hp}{p:Addr}(s:Same H H')(h:H p=none)(o:HO):Same H (upd H' p o):=fun b u q=>by rw[zA9 (zAG q h)];exact s b u q
theorem zCC{H:Hp}:∀(ns:List Int),RepL H (ns.map Dat.int) (ns.map V.int)
 |[]=>rfl
 |n::r=>⟨.int n,r.map V.int,rfl,rfl,zCC r⟩
theorem zD2:∀(ns:List Int),Dat.depL (ns.map Dat.int)=0
 |[]=>rfl
 |n::r=>by
  rw[qAl,Dat.depL,zD2 r];rfl
theorem zE1:∀(ns ms:List Int),Dat.eqL (ns.map Dat.int) (ms.map Dat.int)=decide (ns=ms)
 |[],[]=>by simp[Dat.eqL]
 |[],_::_=>by simp[Dat.eqL]
 |_::_,[]=>by simp[Dat.eqL]
 |n::r,m::q=>by
  rw[qAl,qAl,Dat.eqL,zE1 r q,Dat.eq]
  by_cases h:n=m
  ·subst h;simp
  ·simp[h]
theorem big{n:Nat}(h:n<=100000):n<sizeLine:=by rw[sizeLine_eq];lia
theorem zFO:∀{ns:List Int}{vs:List Value},Vals (ns.map V.int) vs->IntsAre vs ns
 |[],_,.nil=>.nil
 |n::r,_,.cons h t=>by
  obtain⟨tk,rfl⟩:=h;exact .cons n tk (zFO t)
section
variable{X:Cx}
def rInU(K:qA0)(neg:Bool):R2:=fun x y H Q=>match y with
 |.ref p=>∃xs,(SqL K H p xs\/SqT K H p xs)/\zED x=true/\xs.all zED=true/\Q (.bl (if neg then !inV x xs else inV x xs)) H
 |.str j=>match x with
  |.str i=>Q (.bl (if neg then !(!(Builtin.Str.occurrences j i 0 j.length 1).isEmpty)else !(Builtin.Str.occurrences j i 0 j.length 1).isEmpty)) H
  |_=>False
 |_=>False
theorem u_in{K:qA0}(hK:X.K=K:=by rfl):OpR X (compareOp .In) (rInU K false):=by
 subst hK;intro pins s σ H x y v u Q I rx ry h;cases y with
 |ref p=>
  obtain⟨xs,h1,h2,h3,h4⟩:=h;exact zLR pins s σ H _ _ v u Q I rx ry ⟨p,xs,rfl,h1,h2,h3,h4⟩
 |str j=>
  cases x with
  |str i=>exact zLQ pins s σ H _ _ v u Q I rx ry ⟨i,j,rfl,rfl,h⟩
  |_=>exact qA3 h
 |_=>exact qA3 h
theorem zL2{K:qA0}(hK:X.K=K:=by rfl):OpR X (compareOp .NotIn) (rInU K true):=by
 subst hK;intro pins s σ H x y v u Q I rx ry h;cases y with
 |ref p=>
  obtain⟨xs,h1,h2,h3,h4⟩:=h;exact zI0 pins s σ H _ _ v u Q I rx ry ⟨p,xs,rfl,h1,h2,h3,h4⟩
 |str j=>
  cases x with
  |str i=>exact zHZ pins s σ H _ _ v u Q I rx ry ⟨i,j,rfl,rfl,h⟩
  |_=>exact qA3 h
 |_=>exact qA3 h
end
end L2
namespace Mi
open PySem
noncomputable section
inductive Sv where
 |i (n:Int)|s (x:Str)
inductive Sw where
 |non|bl (b:Bool)|int (i:Int)|str (x:Str)
inductive Dt where
 |non|bl (b:Bool)|int (i:Int)|str (x:Str)|lst (xs:List Dt)|tup (xs:List Dt)|scr (ns:List Int)|exc (c f:Str) (d:Dt)|ins (c:Str) (fs:List (Str×Sv))|dct (kvs:List (Sum Int Str×Sw))|fn (x:Str) (d:Dt)
mutual
def Dt.dep:Dt->Nat
 |.lst xs=>Dt.depL xs+1
 |.tup xs=>Dt.depL xs+1
 |.scr _=>1000
 |.exc _ _ _=>1000
 |.fn _ _=>1000
 |.ins _ _=>1000
 |.dct _=>1000
 |_=>0
def Dt.depL:List Dt->Nat
 |[]=>0
 |x::r=>max x.dep (Dt.depL r)
end
mutual
def Dt.eq:Dt->Dt->Bool
 |.non,.non=>true
 |.bl a,.bl b=>a==b
 |.bl a,.int b=>(if a then 1 else 0)==b
 |.int a,.bl b=>a==(if b then 1 else 0)
 |.int a,.int b=>a==b
 |.str a,.str b=>a==b
 |.lst xs,.lst ys=>Dt.eqL xs ys
 |.tup xs,.tup ys=>Dt.eqL xs ys
 |_,_=>false
def Dt.eqL:List Dt->List Dt->Bool
 |[],[]=>true
 |x::r,y::q=>Dt.eq x y&&Dt.eqL r q
 |_,_=>false
end
structure Xn where
 cls:Str
 f:Str
 d:Dt
abbrev R(α:Type):=Option (Except Xn α)
noncomputable def okR{α:Type}(a:α):R α:=some (.ok a)
noncomputable def zA3{α β:Type}(x:R α)(f:α->R β):R β:=match x with
 |none=>none
 |some (.error e)=>some (.error e)
 |some (.ok a)=>f a
def optR{α:Type}(o:Option α):R α:=match o with
 |none=>none
 |some a=>okR a
@[simp] theorem zA0{α β:Type}(a:α)(f:α->R β):zA3 (okR a) f=f a:=rfl
@[simp] theorem zA8{α β:Type}(f:α->R β):zA3 none f=none:=rfl
@[simp] theorem zAF{α β:Type}(e:Xn)(f:α->R β):zA3 (some (.error e)) f=some (.error e):=rfl
@[simp] theorem zAD{α:Type}(a:α):optR (some a)=okR a:=rfl
@[simp] theorem zAE{α:Type}:optR (none:Option α)=none:=rfl
abbrev Rh:=List (Option Dt)
abbrev Sl:=Dt×Nat
abbrev Ro:=List (Option Sl)
abbrev EM:=Rh->R Dt
abbrev TM:=Rh->R Bool
abbrev AM:=Rh->R (List Dt)
abbrev FM:=List Dt->R Dt
noncomputable def ixA(n:Nat)(i:Int):Option Nat:=if 0<=i then(if i<n then some i.toNat else none)else if -(n:Int)<=i then some (i+n).toNat else none
def itA{α:Type}(xs:List α)(i:Int):Option α:=(ixA xs.length i).bind fun j=>xs[j]?
noncomputable def addD:Dt->Dt->Option Dt
 |.int i,.int j=>some (.int (i+j))
 |.str i,.str j=>@ite _ (i.length+j.length<=100000) (qA1 _) (some (.str (i++j))) none
 |.lst xs,.lst ys=>@ite _ (xs.length+ys.length<=100000) (qA1 _) (some (.lst (xs++ys))) none
 |_,_=>none
noncomputable def subD:Dt->Dt->Option Dt
 |.int i,.int j=>some (.int (i-j))
 |_,_=>none
noncomputable def mulD:Dt->Dt->Option Dt
 |.int i,.int j=>@ite _ (((-18446744073709551616<i/\i<18446744073709551616)\/(-18446744073709551616<j/\j<18446744073709551616))\/i.natAbs.log2+j.natAbs.log2<=67108864) (qA1 _) (some (.int (i*j))) none
 |_,_=>none
noncomputable def divD:Dt->Dt->Option Dt
 |.int i,.int j=>@ite _ (0<j/\j<1000000000000000000000000) (qA1 _) (some (.int (i/j))) none
 |_,_=>none
noncomputable def modD:Dt->Dt->Option Dt
 |.int i,.int j=>if 0<j then some (.int (i%j))else none
 |_,_=>none
noncomputable def powD:Dt->Dt->Option Dt
 |.int i,.int j=>@ite _ (0<=j/\j<=1000000/\i.natAbs<18446744073709551616) (qA1 _) (some (.int (i ^ j.toNat))) none
 |_,_=>none
noncomputable def negD:Dt->Option Dt
 |.int i=>some (.int (-i))
 |_=>none
noncomputable def cmpD(p:Int->Int->Bool):Dt->Dt->Option Dt
 |.int i,.int j=>some (.bl (p i j))
 |_,_=>none
noncomputable def eqD(x y:Dt):Option Dt:=if x.dep<=40/\y.dep<=40 then some (.bl (Dt.eq x y))else none
noncomputable def neD(x y:Dt):Option Dt:=if x.dep<=40/\y.dep<=40 then some (.bl (!Dt.eq x y))else none
noncomputable def isNonD:Dt->Bool
 |.non=>true
 |_=>false
def isD(x y:Dt):Option Dt:=match y with
 |.non=>some (.bl (isNonD x))
 |_=>none
noncomputable def zUT(x y:Dt):Option Dt:=match y with
 |.non=>some (.bl (!isNonD x))
 |_=>none
def ixD:Dt->Dt->Option Dt
 |.lst xs,.int i=>itA xs i
 |.tup xs,.int i=>itA xs i
 |.scr ns,.int i=>(itA ns i).map .int
 |.str z,.int i=>@ite _ (z.length<=100000) (qA1 _) ((itA z.cps.toList i).map fun c=>.str ⟨#[c]⟩) none
 |_,_=>none
noncomputable def lenD:List Dt->Option Dt
 |[.lst xs]=>some (.int xs.length)
 |[.tup xs]=>some (.int xs.length)
 |[.scr ns]=>some (.int ns.length)
 |[.str z]=>@ite _ (z.length<=100000) (qA1 _) (some (.int z.length)) none
 |_=>none
noncomputable def listD:List Dt->Option Dt
 |[.lst xs]=>some (.lst xs)
 |[.tup xs]=>some (.lst xs)
 |[.scr ns]=>some (.lst (ns.map .int))
 |_=>none
noncomputable def nums(lo:Int)(n:Nat):List Dt:=(qA9 n).map fun i:Nat=>.int (lo+(i:Int))
def rangeD:List Dt->Option Dt
 |[.int j]=>@ite _ ((-4611686018427387904<=j/\j<4611686018427387904)/\j<=100000) (qA1 _) (some (.lst (nums 0 j.toNat))) none
 |[.int i,.int j]=>@ite _ ((-4611686018427387904<=i/\i<4611686018427387904/\-4611686018427387904<=j/\j<4611686018427387904)/\j-i<=100000) (qA1 _) (some (.lst (nums i (j-i).toNat))) none
 |_=>none
noncomputable def tyD:Dt->String
 |.non=>"NoneType"
 |.bl _=>"bool"
 |.int _=>"int"
 |.str _=>"str"
 |.lst _=>"list"
 |.tup _=>"tuple"
 |.scr _=>""
 |.exc _ _ _=>""
 |.fn _ _=>""
 |.ins _ _=>""
 |.dct _=>""
def isiD(n:String)(x:Dt):Option Dt:=if tyD x = "" then none else some (.bl (tyD x==n||(tyD x == "bool" && n == "int")))
noncomputable def boolsD:List Dt->Option (List Bool)
 |[]=>some []
 |.bl b::r=>(boolsD r).map (b::·)
 |_::_=>none
def allD:List Dt->Option Dt
 |[.lst xs]=>(boolsD xs).map fun bs=>.bl (bs.all id)
 |_=>none
noncomputable def maxD:List Dt->Option Dt
 |[.int i,.int j]=>some (.int (if j>i then j else i))
 |_=>none
noncomputable def minD:List Dt->Option Dt
 |[.int i,.int j]=>some (.int (if j<i then j else i))
 |_=>none
noncomputable def absD:List Dt->Option Dt
 |[.int i]=>some (.int (if i<0 then -i else i))
 |_=>none
noncomputable def hasD(x:Dt)(ys:List Dt):Option Bool:=if x.dep=0/\Dt.depL ys=0 then some (ys.any fun y=>Dt.eq y x)else none
def inD(ng:Bool)(x y:Dt):Option Dt:=match y with
 |.lst ys=>(hasD x ys).map fun b=>.bl (if ng=true then !b else b)
 |.tup ys=>(hasD x ys).map fun b=>.bl (if ng=true then !b else b)
 |.str z=>match x with
  |.str y=>match y.cps.toList with
   |[c]=>some (.bl (if ng=true then !decide (c∈z.cps.toList)else decide (c∈z.cps.toList)))
   |_=>none
  |_=>none
 |_=>none
noncomputable def cutIx(n d:Nat):Option Int->Nat
 |none=>d
 |some v=>if v<0 then(v+(n:Int)).toNat else min v.toNat n
def cutA{α:Type}(xs:List α)(lo hi:Option Int):List α:=(xs.drop (cutIx xs.length 0 lo)).take (cutIx xs.length xs.length hi-cutIx xs.length 0 lo)
def slD:Dt->Option Int->Option Int->Option Dt
 |.lst xs,lo,hi=>some (.lst (cutA xs lo hi))
 |.str z,lo,hi=>@ite _ (z.length<=100000) (qA1 _) (some (.str ⟨(cutA z.cps.toList lo hi).toArray⟩)) none
 |_,_,_=>none
abbrev OM:=Rh->R (Option Int)
def oNo:OM:=fun _=>okR none
def oE(e:Rh->R Dt):OM:=fun ρ=>zA3 (e ρ) fun d=>match d with
 |.int i=>okR (some i)
 |_=>none
def eSl(a:Rh->R Dt)(lo hi:OM):Rh->R Dt:=fun ρ=>zA3 (a ρ) fun x=>zA3 (lo ρ) fun l=>zA3 (hi ρ) fun h=>optR (slD x l h)
noncomputable def posC(c:Nat):List Nat->Option Nat
 |[]=>none
 |x::r=>if x=c then some 0 else(posC c r).map (·+1)
def zUW(x:Dt)(ys:List Dt):Option Dt:=match x,ys with
 |.str z,[.str y]=>match y.cps.toList with
  |[c]=>some (.int (match posC c z.cps.toList with|some i=>(i:Int)|none=>-1))
  |_=>none
 |_,_=>none
noncomputable def zTO(x:Dt)(ys:List Dt):Option Dt:=match x,ys with
 |.str z,[.str y]=>match y.cps.toList with
  |[c]=>some (.int (z.cps.toList.count c:Nat))
  |_=>none
 |_,_=>none
noncomputable def zM7:Dt->Bool
 |.str _=>true
 |_=>false
def eMt(f:Dt->List Dt->Option Dt)(a:Rh->R Dt)(am:Rh->R (List Dt)):Rh->R Dt:=fun ρ=>zA3 (a ρ) fun x=>if zM7 x=true then zA3 (am ρ) fun xs=>optR (f x xs)else none
noncomputable def signsD(z:Str):List Dt:=z.cps.toList.map fun c=>.str ⟨#[c]⟩
def eC(d:Dt):EM:=fun _=>okR d
def eV(i:Nat):EM:=fun ρ=>match ρ[i]? with
 |some (some d)=>okR d
 |_=>none
def eB(f:Dt->Dt->Option Dt)(a b:EM):EM:=fun ρ=>zA3 (a ρ) fun x=>zA3 (b ρ) fun y=>optR (f x y)
def eU(f:Dt->Option Dt)(a:EM):EM:=fun ρ=>zA3 (a ρ) fun x=>optR (f x)
def eAnd(a b:EM):EM:=fun ρ=>zA3 (a ρ) fun x=>match x with
 |.bl k=>if k=true then b ρ else okR (.bl false)
 |_=>none
def eOr(a b:EM):EM:=fun ρ=>zA3 (a ρ) fun x=>match x with
 |.bl k=>if k=true then okR (.bl true)else b ρ
 |_=>none
def eNot(a:EM):EM:=fun ρ=>zA3 (a ρ) fun x=>match x with
 |.bl k=>okR (.bl (!k))
 |_=>none
def eChain(p q:Dt->Dt->Option Dt)(a b c:EM):EM:=fun ρ=>zA3 (a ρ) fun x=>zA3 (b ρ) fun y=>zA3 (optR (p x y)) fun z=>match z with
 |.bl k=>if k=true then zA3 (c ρ) fun w=>optR (q y w)else okR (.bl false)
 |_=>none
def eIf(c:TM)(a b:EM):EM:=fun ρ=>zA3 (c ρ) fun k=>if k=true then a ρ else b ρ
def aNil:AM:=fun _=>okR []
def aCons(e:EM)(r:AM):AM:=fun ρ=>zA3 (e ρ) fun x=>zA3 (r ρ) fun xs=>okR (x::xs)
def eLst(a:AM):EM:=fun ρ=>zA3 (a ρ) fun xs=>@ite _ (xs.length<=100000) (qA1 _) (okR (.lst xs)) none
def eTup(a:AM):EM:=fun ρ=>zA3 (a ρ) fun xs=>@ite _ (xs.length<=100000) (qA1 _) (okR (.tup xs)) none
def eCall(f:FM)(a:AM):EM:=fun ρ=>zA3 (a ρ) f
def eBi(f:List Dt->Option Dt)(a:AM):EM:=fun ρ=>zA3 (a ρ) fun xs=>optR (f xs)
def eIsi(n:String)(a:EM):EM:=fun ρ=>zA3 (a ρ) fun x=>optR (isiD n x)
def tB(a:EM):TM:=fun ρ=>zA3 (a ρ) fun x=>match x with
 |.bl k=>okR k
 |_=>none
def tM(a:EM):TM:=fun ρ=>zA3 (a ρ) fun x=>match x with
 |.bl k=>okR k
 |.int i=>okR (i != 0)
 |.non=>okR false
 |_=>none
def tAn(a b:TM):TM:=fun ρ=>zA3 (a ρ) fun k=>if k=true then b ρ else okR false
def tOr(a b:TM):TM:=fun ρ=>zA3 (a ρ) fun k=>if k=true then okR true else b ρ
def tNo(a:TM):TM:=fun ρ=>zA3 (a ρ) fun k=>okR (!k)
def tYes:TM:=fun _=>okR true
abbrev IM:=Rh->R (List Dt)
def iSq(e:EM):IM:=fun ρ=>zA3 (e ρ) fun d=>match d with
 |.lst xs=>okR xs
 |.tup xs=>okR xs
 |.scr ns=>okR (ns.map .int)
 |.str z=>okR (signsD z)
 |_=>none
def iR1(e:AM):IM:=fun ρ=>zA3 (e ρ) fun vs=>match vs with
 |[.int j]=>@ite _ (-4611686018427387904<=j/\j<4611686018427387904) (qA1 _) (okR (nums 0 j.toNat)) none
 |_=>none
noncomputable def zQL(n:Nat):List Dt->List Dt
 |[]=>[]
 |x::r=>.tup [.int n,x]::zQL (n+1) r
def iEn(e:AM):IM:=fun ρ=>zA3 (e ρ) fun vs=>match vs with
 |[.lst xs]=>okR (zQL 0 xs)
 |_=>none
noncomputable def zipD:List Dt->List Dt->List Dt
 |x::r,y::q=>.tup [x,y]::zipD r q
 |_,_=>[]
def iZi(e:AM):IM:=fun ρ=>zA3 (e ρ) fun vs=>match vs with
 |[.lst xs,.lst ys]=>okR (zipD xs ys)
 |_=>none
inductive Tg where
 |one (i:Nat)
 |tup (is:List Nat)
noncomputable def zAQ:Tg->Dt->Option (List (Nat×Dt))
 |.one i,d=>some [(i,d)]
 |.tup is,.tup ds=>if ds.length=is.length then some (is.zip ds)else none
 |.tup _,_=>none
noncomputable def Tg.idx:Tg->List Nat
 |.one i=>[i]
 |.tup is=>is
noncomputable def zAP:Rh->List (Nat×Dt)->Rh
 |ρ,[]=>ρ
 |ρ,(i,d)::r=>zAP (ρ.set i (some d)) r
noncomputable def zAV:Ro->List (Nat×Dt)->Ro
 |ρ,[]=>ρ
 |ρ,(i,d)::r=>zAV (ρ.set i (some (d,0))) r
def compGo(ρ:Rh)(k:Nat)(tg:Tg)(c:TM)(e:EM):List Dt->List Dt->R (List Dt)
 |[],acc=>okR acc
 |d::ds,acc=>match zAQ tg d with
  |none=>none
  |some bs=>zA3 (c (zAP (ρ++qA5 k none) bs)) fun b=>if b=true then zA3 (e (zAP (ρ++qA5 k none) bs)) fun x=>compGo ρ k tg c e ds (acc++[x])else compGo ρ k tg c e ds acc
def eComp(it:IM)(k:Nat)(tg:Tg)(c:TM)(e:EM):EM:=fun ρ=>zA3 (it ρ) fun ds=>@ite _ (ds.length<=100000/\(tg.idx.all fun i=>decide (ρ.length<=i))=true) (qA1 _) (zA3 (compGo ρ k tg c e ds []) fun es=>okR (.lst es)) none
inductive Out where
 |nx (ρ:Ro)|rt (d:Dt)|bk (ρ:Ro)|ct (ρ:Ro)
abbrev SM:=Ro->R Out
noncomputable def full(ρ:Ro):Rh:=ρ.map fun o=>o.map qFs
noncomputable def frz(ρ:Ro):Rh:=ρ.map fun o=>match o with
 |some (d,n)=>if n=0\/d.dep=0 then some d else none
 |none=>none
noncomputable def frz1(i:Nat)(ρ:Ro):Ro:=match ρ[i]? with
 |some (some (d,_))=>ρ.set i (some (d,0))
 |_=>ρ
def frzAt:List Nat->Ro->Ro
 |[],ρ=>ρ
 |i::r,ρ=>frzAt r (frz1 i ρ)
def sNil:SM:=fun ρ=>okR (.nx ρ)
def sSeq(a b:SM):SM:=fun ρ=>zA3 (a ρ) fun o=>match o with
 |.nx ρ'=>b ρ'
 |o=>okR o
noncomputable def zRE:SM:=fun _=>none
def zRF:SM:=fun ρ=>okR (.bk ρ)
def zUD:SM:=fun ρ=>okR (.ct ρ)
def sIf(c:TM)(a b:SM):SM:=fun ρ=>zA3 (c (full ρ)) fun k=>if k=true then a ρ else b ρ
def zUB(e:EM):SM:=fun ρ=>zA3 (e (full ρ)) fun _=>okR (.nx ρ)
def sSet(i n:Nat)(vs:List Nat)(e:EM):SM:=fun ρ=>zA3 (e (full ρ)) fun d=>
 if d.dep<=n then okR (.nx (ρ.set i (some (d,n))))else zA3 (e (frz (frzAt vs ρ))) fun d'=>okR (.nx ((frzAt vs ρ).set i (some (d',n))))
def sRet(L n:Nat)(vs:List Nat)(e:EM):SM:=fun ρ=>zA3 (e (full ρ)) fun d=>
 if d.dep<=n/\d.dep<=L then okR (.rt d)else if n=L then zA3 (e (frz (frzAt vs ρ))) fun d'=>okR (.rt d')else none
def zU9:SM:=fun _=>okR (.rt .non)
def sRetV(L i:Nat):SM:=fun ρ=>match ρ[i]? with
 |some (some (d,k))=>if k=L\/L=0\/(d.dep<=k/\d.dep<=L/\k<1000)then okR (.rt d)else none
 |_=>none
def sApp(i n:Nat)(e:EM):SM:=fun ρ=>match ρ[i]? with
 |some (some (.lst ds,k+1))=>zA3 (e (full ρ)) fun d=>@ite _ (ds.length<=100000/\d.dep<=n/\d.dep<=k) (qA1 _) (okR (.nx (ρ.set i (some (.lst (ds++[d]),k+1))))) none
 |_=>none
def sItem(i n:Nat)(e1 e2:EM):SM:=fun ρ=>zA3 (e2 (full ρ)) fun d=>match ρ[i]? with
 |some (some (.lst ds,k+1))=>zA3 (e1 (full ρ)) fun z=>match z with
  |.int z=>match ixA ds.length z with
   |some q=>if d.dep<=n/\d.dep<=k then okR (.nx (ρ.set i (some (.lst (ds.set q d),k+1))))else none
   |none=>none
  |_=>none
 |_=>none
def sItem2(i n:Nat)(e0 e1 e2:EM):SM:=fun ρ=>zA3 (e2 (full ρ)) fun d=>match ρ[i]? with
 |some (some (.lst rs,k+2))=>zA3 (e0 (full ρ)) fun y=>match y with
  |.int y=>match ixA rs.length y with
   |some p=>match rs[p]? with
    |some (.lst ds)=>zA3 (e1 (full ρ)) fun z=>match z with
     |.int z=>match ixA ds.length z with
      |some q=>if d.dep<=n/\d.dep<=k then okR (.nx (ρ.set i (some (.lst (rs.set p (.lst (ds.set q d))),k+2))))else none
      |none=>none
     |_=>none
    |_=>none
   |none=>none
  |_=>none
 |_=>none
def forGo(tg:Tg)(b:SM):List Dt->SM
 |[],ρ=>okR (.nx ρ)
 |d::ds,ρ=>match zAQ tg d with
  |none=>none
  |some bs=>zA3 (b (zAV ρ bs)) fun o=>match o with
   |.nx ρ'=>forGo tg b ds ρ'
   |.ct ρ'=>forGo tg b ds ρ'
   |.bk ρ'=>okR (.nx ρ')
   |.rt d=>okR (.rt d)
def sFor(vs:List Nat)(it:IM)(tg:Tg)(b:SM):SM:=fun ρ=>zA3 (it (frz (frzAt vs ρ))) fun ds=>forGo tg b ds (frzAt vs ρ)
def sForR(it:IM)(i:Nat)(b:SM):SM:=fun ρ=>zA3 (it (full ρ)) fun ds=>forGo (.one i) b ds ρ
def whGo(c:TM)(b:SM):Nat->SM
 |0,_=>none
 |m+1,ρ=>zA3 (c (full ρ)) fun k=>if k=true then zA3 (b ρ) fun o=>match o with
   |.nx ρ'=>whGo c b m ρ'
   |.ct ρ'=>whGo c b m ρ'
   |.bk ρ'=>okR (.nx ρ')
   |.rt d=>okR (.rt d)
  else okR (.nx ρ)
noncomputable def WNs:{ n:Nat // n=1000000 }:=Classical.choice ⟨⟨1000000,rfl⟩⟩
noncomputable def WN:Nat:=WNs.val
def zOP(c:TM)(b:SM):SM:=fun ρ=>whGo c b WN ρ
noncomputable def startO(n:Nat)(ds:List Dt):Ro:=ds.map (fun d=>some (d,0))++qA5 (n-ds.length) none
def endF:Out->R Dt
 |.nx _=>okR .non
 |.rt d=>okR d
 |_=>none
def runF(P n:Nat)(b:SM):FM:=fun ds=>if ds.length=P then zA3 (b (startO n ds)) endF else none
end
end Mi
namespace L2
open PySem PySem.Spec PyProof.Rows
theorem zPA(n d:Nat)(o:Option Int)(hd:d<=n):HT.sIx n d o<=n:=by
 cases o with
 |none=>exact hd
 |some v=>
  show(if v<0 then(v+(n:Int)).toNat else min v.toNat n)<=n
  split<;>lia
theorem zKS(lo hi:Option Int)(n:Nat):Builtin.Str.strSliceIndices lo hi 1 n=(qA9 (HT.sIx n n hi-HT.sIx n 0 lo)).map fun k=>HT.sIx n 0 lo+k:=by
 unfold Builtin.Str.strSliceIndices sliceRange;have c1:∀(o:Option Int)(d:Nat),(match o with|none=>(d:Int)|some i=>(if(1:Int)>0 then max 0 (min (if i<0 then i+(n:Int)else i) n)else max (-1) (min (if i<0 then i+(n:Int)else i) (n-1))))=((HT.sIx n d o:Nat):Int):=by
  intro o d;cases o with
  |none=>rfl
  |some v=>
   show _=(((if v<0 then(v+(n:Int)).toNat else min v.toNat n:Nat)):Int)
   dsimp only;rw[if_pos (by decide)]
   split<;>lia
 dsimp only;rw[if_pos (show(1:Int)>0 by decide),if_pos (show(1:Int)>0 by decide),if_pos (show(1:Int)>0 by decide)];have e1:=c1 lo 0;have e2:=c1 hi n;rw[show((0:Nat):Int)=0 by rfl]at e1;have h1:∀a b:Int,a=((HT.sIx n 0 lo:Nat):Int)->b=((HT.sIx n n hi:Nat):Int)->(qA9 ((if a<b then(b-a+1-1)/1 else 0).toNat)).map (fun k:Nat=>(a+1*(k:Int)).toNat)=(qA9 (HT.sIx n n hi-HT.sIx n 0 lo)).map fun k=>HT.sIx n 0 lo+k:=by
  intro a b ha hb;subst ha hb;have e:(if((HT.sIx n 0 lo:Nat):Int)<((HT.sIx n n hi:Nat):Int)then(((HT.sIx n n hi:Nat):Int)-((HT.sIx n 0 lo:Nat):Int)+1-1)/1 else 0).toNat=HT.sIx n n hi-HT.sIx n 0 lo:=by
   split
   ·rw[Int.ediv_one];lia
   ·lia
  rw[e];refine qBl fun k _=>?_
  lia
 exact h1 _ _ e1 e2
theorem zLG:∀(xs:List Nat)(a k:Nat),a+k<=xs.length->((qA9 k).map fun j=>a+j).filterMap (xs[·]?)=(xs.drop a).take k:=by
 intro xs a k h
 induction k with
 |zero=>simp
 |succ k ih=>
  rw[qCm,qC5,List.filterMap_append,ih (by lia),List.take_add_one]
  congr 1
  have:a+k<xs.length:=by lia
  simp[List.getElem?_drop,this]
theorem zN7(z:Str)(lo hi:Option Int):Txt.slice z lo hi=⟨(Mi.cutA z.cps.toList lo hi).toArray⟩:=by
 obtain⟨⟨xs⟩⟩:=z;have hl:(⟨⟨xs⟩⟩:Str).length=xs.length:=rfl;unfold Txt.slice;rw[zKS,hl];have e0:∀o d,Mi.cutIx xs.length d o=HT.sIx xs.length d o:=fun o d=>by cases o<;>rfl
 have hb:=zPA xs.length xs.length hi (qA4 _);have ha:=zPA xs.length 0 lo (qAx _);have hc:Mi.cutA xs lo hi=(xs.drop (HT.sIx xs.length 0 lo)).take (HT.sIx xs.length xs.length hi-HT.sIx xs.length 0 lo):=by
  unfold Mi.cutA;rw[e0,e0]
 show _=(⟨(Mi.cutA xs lo hi).toArray⟩:Str)
 rw[hc]
 split
 ·rename_i h
  have h':HT.sIx xs.length xs.length hi-HT.sIx xs.length 0 lo=xs.length:=by simpa using h
  have a0:HT.sIx xs.length 0 lo=0:=by lia
  rw[h',a0,qCu,qEl]
 ·by_cases hle:HT.sIx xs.length 0 lo<=HT.sIx xs.length xs.length hi
  ·have:=zLG xs (HT.sIx xs.length 0 lo) (HT.sIx xs.length xs.length hi-HT.sIx xs.length 0 lo) (by lia)
   rw[<- this];simp
  ·rw[show HT.sIx xs.length xs.length hi-HT.sIx xs.length 0 lo=0 by lia];simp
section
variable{X:Cx}
def rSlU(K:qA0):V->Option Int->Option Int->Hp->VK->Prop:=fun x lo hi H Q=>match x with
 |.str z=>z.length<=sizeLine/\Q (.str ⟨(Mi.cutA z.cps.toList lo hi).toArray⟩) H
 |.ref a=>∃xs,SqL K H a xs/\∀p,H p=none->Q (.ref p) (upd H p (.lst (cutV xs lo hi)))
 |_=>False
theorem zLP{v:Value}{o:Option Int}(h:IsPart v o):∃l:Option (Int×Tok),v=partValue l/\l.map (·.1)=o:=by
 cases h with
 |none=>exact⟨none,rfl,rfl⟩
 |int i t=>exact⟨some (i,t),rfl,rfl⟩
theorem u_sl{K:qA0}(hK:X.K=K:=by rfl):SlR X (rSlU K):=by
 subst hK;intro pins s σ H x v vl vu lo hi sl Q I rx hs pl pu h;cases x with
 |ref a=>
  obtain⟨xs,h1,h2⟩:=h;exact zPN pins s σ H _ v vl vu lo hi sl Q I rx hs pl pu ⟨a,xs,rfl,h1,h2⟩
 |str z=>
  obtain⟨hz,q⟩:=h;obtain⟨t,rfl⟩:=rx;obtain⟨l,rfl,el⟩:=zLP pl;obtain⟨u,rfl,eu⟩:=zLP pu;obtain⟨o,g1,g2,g3⟩:=hs;refine⟨"str",_,F.slot_str_getitem.lookup,typeIs_str _ _ _,wpAny_getItem_str_slice (l:=l) (u:=u) (st:=none) ⟨o,g1,g2,g3⟩ rfl ?_⟩;have hp:(if((1:Int)==1&&(Builtin.Str.strSliceIndices lo hi 1 z.length).length==z.length)=true then Made.val (.str z t)else Made.str ⟨((Builtin.Str.strSliceIndices lo hi 1 z.length).filterMap (z.cps[·]?)).toArray⟩).post (EP X pins σ Q) s:=by
   refine post_val_or_str ⟨qAh (Txt.slice_le z lo hi) hz,fun t' k=>?_⟩;refine⟨.str (Txt.slice z lo hi),H,I.tok _,⟨_,rfl⟩,?_⟩;rw[zN7];exact q
  unfold sliceMade slicePicked;rw[el,eu];exact hp
 |_=>exact qA3 h
end
noncomputable def Its(z:Str):It:=⟨fun i _=>i<z.cps.size,fun i H x H'=>H'=H/\∃c,z.cps[i]?=some c/\x=.str ⟨#[c]⟩,fun i _=>z.cps.size<=i⟩
theorem zN6{P:Program}{w:World}{K:qA0}{tg:Expr}(z:Str)(t:Tok)(it:Addr)(ty:String)(hty:ty=strIterType z):Turn P w K tg (Its z) [it] it (fun i h=>h.IsStrIter it ty z t i) where
 mem:=by simp
 obj:=fun i h st b hb=>by
  have e:b=it:=by simpa using hb
  subst e;obtain⟨o,e,c,d⟩:=st;exact⟨o,e,fun v z=>by rw[d]at z;cases z⟩
 keep:=fun i h h' st k=>by obtain⟨o,ho,r⟩:=st;exact⟨o,k it (by simp) o ho,r⟩
 item:=by
  intro X hP hw hK hc i pins s σ H E I hf st hg;subst hP hw hK;have hi:i<z.cps.size:=hg;have hx:z.cps[i]?=some z.cps[i]:=Array.getElem?_eq_getElem hi;obtain⟨f0,f1,f2,f3,f4,f5⟩:=hf it (by simp);have fin:∀h',h'.IsStrIter it ty z t (i+1)->Heap.SameBut it s.heap h'->∃u,some (Value.str ⟨#[z.cps[i]]⟩ s.toks)=some u/\wpAny (model X.prog X.w) X.A (letOwnedTupleGo tg (.ref it) u) (fun _ s2=>∃x H',Inv X pins σ H' s2/\RelV x u/\(Its z).yld i H x H'/\s2.heap.IsStrIter it ty z t (i+1)/\∀b∈[it],H' b=none) E { s with heap:=h',toks:=s.toks+1 }:=by
   intro h' st' sb;have I1:Inv X pins σ H { s with heap:=h',toks:=s.toks+1 }:=I.turned (t':=s.toks+1) (fun b o hb e=>(sb.2 b hb).trans e) f0 f1 f3 f4 f5;obtain⟨o,e,c,d⟩:=id st';refine⟨_,rfl,zO6 (s:={ s with heap:=h',toks:=s.toks+1 }) e c d ?_ ⟨.str ⟨#[z.cps[i]]⟩,H,I1,⟨_,rfl⟩,⟨rfl,_,hx,rfl⟩,st',fun b hb=>(hf b hb).1⟩⟩;rw[hty];unfold strIterType;split<;>decide
  cases ha:z.cps.all (· < 128)
  ·have e:ty = "str_iterator":=by rw[hty];unfold strIterType;rw[ha];rfl
   subst e;exact wpAny_pyNext_wide_item st hx fun h' a b=>fin h' a b
  ·have e:ty = "str_ascii_iterator":=by rw[hty];unfold strIterType;rw[ha];rfl
   subst e;exact wpAny_pyNext_ascii_item st hx fun h' a b=>fin h' a b
 done:=by
  intro X hP hw hK hc i pins s σ H E I hf st hg;subst hP hw hK;have hx:z.cps[i]?=none:=Array.getElem?_eq_none hg;obtain⟨f0,f1,f2,f3,f4,f5⟩:=hf it (by simp);have fin:∀h',Heap.ExtBut it s.heap h'->(none:Option Value)=none/\Inv X pins σ H { s with heap:=h' }:=fun h' eb=>⟨rfl,I.turned (t':=s.toks) (fun b o hb e=>eb b o hb e) f0 f1 f3 f4 f5⟩
  cases ha:z.cps.all (· < 128)
  ·have e:ty = "str_iterator":=by rw[hty];unfold strIterType;rw[ha];rfl
   subst e;exact wpAny_pyNext_wide_end (I.ok.hd hc) st hx fun h' a=>fin h' a
  ·have e:ty = "str_ascii_iterator":=by rw[hty];unfold strIterType;rw[ha];rfl
   subst e;exact wpAny_pyNext_ascii_end (I.ok.hd hc) st hx fun h' a=>fin h' a
 self:=fun A i s Q E st h=>by
  cases ha:z.cps.all (· < 128)
  ·have e:ty = "str_iterator":=by rw[hty];unfold strIterType;rw[ha];rfl
   subst e;exact wpAny_pyIter_striter_wide st h
  ·have e:ty = "str_ascii_iterator":=by rw[hty];unfold strIterType;rw[ha];rfl
   subst e;exact wpAny_pyIter_striter_ascii st h
section
variable{X:Cx}
def iAny(K:qA0)(tl:TE):TI:=fun σ H R=>tl σ H fun x H1=>match x with
 |.ref a=>(∃xs,SqL K H1 a xs)/\R (Itl K a) H1\/(∃xs,SqT K H1 a xs)/\R (Itt K a) H1
 |.str z=>R (Its z) H1
 |_=>False
theorem zCQ{K:qA0}{tg l:Expr}{tl:TE}(hl:PE X l tl)(hK:X.K=K:=by rfl):PI X tg l (iAny K tl):=by
 subst hK;intro pins s σ H R I h;refine thn (hl pins s σ H _ I h) fun v s1 z0=>?_
 obtain⟨x,H1,I1,r1,q1⟩:=z0;cases x with
 |ref a=>
  cases r1
  rcases q1 with⟨⟨xs,hq⟩,q⟩|⟨⟨xs,hq⟩,q⟩
  ·obtain⟨its,rv,p,hz⟩:=I1.list hq;refine wpAny_pyIter_list p.isList ?_;refine⟨s1.heap.objs.size,[s1.heap.objs.size],_,_,H1,rfl,I1.kept (t':=s1.toks) fun b o e=>Heap.get?_push_of_some _ e,zL3 a _,⟨_,Heap.get?_push_size _ rfl,rfl,rfl⟩,fun b hb=>?_,q⟩;have e:b=s1.heap.objs.size:=by simpa using hb
   subst e;exact I1.fpOk (qA4 _) (I1.hok.fresh (qA4 _))
  ·obtain⟨its,rv,p,hz⟩:=I1.tuple hq;refine wpAny_pyIter_tuple (show s1.heap.IsTuple a its.toArray from p) ?_;refine⟨s1.heap.objs.size,[s1.heap.objs.size],_,_,H1,rfl,I1.kept (t':=s1.toks) fun b o e=>Heap.get?_push_of_some _ e,zKG a _,⟨_,Heap.get?_push_size _ rfl,rfl,rfl⟩,fun b hb=>?_,q⟩;have e:b=s1.heap.objs.size:=by simpa using hb
   subst e;exact I1.fpOk (qA4 _) (I1.hok.fresh (qA4 _))
 |str z=>
  obtain⟨t,rfl⟩:=r1;refine wpAny_pyIter_strU ?_;refine⟨s1.heap.objs.size,[s1.heap.objs.size],_,_,H1,rfl,I1.kept (t':=s1.toks) fun b o e=>Heap.get?_push_of_some _ e,zN6 z t _ _ rfl,⟨_,Heap.get?_push_size _ rfl,rfl,rfl⟩,fun b hb=>?_,q1⟩;have e:b=s1.heap.objs.size:=by simpa using hb
  subst e;exact I1.fpOk (qA4 _) (I1.hok.fresh (qA4 _))
 |_=>exact qA3 q1
end
end L2
namespace L2
open PySem PySem.Spec PyProof.Rows
def Itz(K:qA0)(a b:Addr):It:=
 ⟨fun i H=>∃xs ys x y,SqL K H a xs/\SqL K H b ys/\xs[i]?=some x/\ys[i]?=some y,fun i H v H'=>∃T x y,v=.ref T/\H T=none/\H'=upd H T (.tup [x,y])/\(∀xs,SqL K H a xs->xs[i]?=some x)/\∀ys,SqL K H b ys->ys[i]?=some y,
  fun i H=>∃xs ys,SqL K H a xs/\SqL K H b ys/\(xs.length<=i\/ys.length<=i)⟩
theorem zN5{P:Program}{w:World}{K:qA0}{ts:List Expr}{kk:Nat}{tp:Pos}{a b z TI TO i1 i2:Addr}(D:ZipApart z TI TO i1 i2 a b) :
  Turn P w K (.Tuple ts kk tp) (Itz K a b) [z,TI,TO,i1,i2] z (fun i h=>IsZip h z TI TO .none/\IsPair h TI (.ref i1) (.ref i2)/\(∃x y,IsPair h TO x y)/\h.IsListIter i1 a i/\h.IsListIter i2 b i) where
 mem:=by simp
 obj:=fun i h st c hc=>by
  obtain⟨hz,hTI,⟨x,y,hTO⟩,h1,h2⟩:=st;have five:c=z\/c=TI\/c=TO\/c=i1\/c=i2:=by simpa using hc
  rcases five with e|e|e|e|e<;>subst e
  ·exact⟨_,hz,fun v q=>by cases q⟩
  ·exact⟨_,hTI,fun v q=>by cases q⟩
  ·exact⟨_,hTO,fun v q=>by cases q⟩
  ·obtain⟨o,e,_,d⟩:=h1;exact⟨o,e,fun v q=>by rw[d]at q;cases q⟩
  ·obtain⟨o,e,_,d⟩:=h2;exact⟨o,e,fun v q=>by rw[d]at q;cases q⟩
 keep:=fun i h h' st k=>by
  obtain⟨hz,hTI,⟨x,y,hTO⟩,h1,h2⟩:=st;exact⟨k z (by simp) _ hz,k TI (by simp) _ hTI,⟨x,y,k TO (by simp) _ hTO⟩,h1.at fun o e=>k i1 (by simp) o e,h2.at fun o e=>k i2 (by simp) o e⟩
 item:=by
  intro X hP hw hK hc i pins s σ H E I hf st hg;subst hP hw hK;obtain⟨xs,ys,x,y,hq1,hq2,hx,hy⟩:=hg;obtain⟨its1,rv1,p1,hz1⟩:=I.list hq1;obtain⟨its2,rv2,p2,hz2⟩:=I.list hq2;obtain⟨u1,hu1,ru1⟩:=rv1.get hx;obtain⟨u2,hu2,ru2⟩:=rv2.get hy;obtain⟨hz,hTI,⟨a0,b0,hTO⟩,h1,h2⟩:=st;refine wpAny_pyNext_zip_item D hz hTI hTO h1 h2 p1.isList p2.isList (x:=u1) (y:=u2) (by simpa using hu1) (by simpa using hu2) fun h' g1 g2 g3 g4 g5 g6 g7=>?_
  refine⟨_,rfl,wpAny_letOwnedTupleGo_zip g1 fun h'' hz'' hs''=>?_⟩;have lt:∀{c:Addr}{o:Obj},s.heap.get? c=some o->c<s.heap.objs.size:=fun e=>Heap.lt_size e
  have hzs:=lt hz;have hTz:s.heap.objs.size≠z:=qBn hzs;have kk':∀c u,c∉[z,TI,TO,i1,i2]->s.heap.get? c=some u->h''.get? c=some u:=fun c u hc q=>by
   have c1:c≠z:=fun e=>hc (by simp[e])
   exact(hs''.2 c c1).trans (g7 c u c1 (fun e=>hc (by simp[e])) (fun e=>hc (by simp[e])) (fun e=>hc (by simp[e])) q)
  have hT'':=(hs''.2 _ hTz).trans g5;refine⟨.ref s.heap.objs.size,_,I.turnedNew (t':=s.toks) (o:=.tup [x,y]) hf kk' (qA4 _) ⟨by show 2<=sizeLine;decide,[u1,u2],.cons ru1 (.cons ru2 .nil),⟨_,hT'',rfl,_,rfl⟩⟩,rfl,
   ⟨_,x,y,rfl,I.fresh,rfl,fun zs hy=>by rw[I.list_inj hy hq1];exact hx,fun zs hy'=>by rw[I.list_inj hy' hq2];exact hy⟩,
   ⟨hz'',(hs''.2 _ D.TIz).trans (g7 TI _ D.TIz D.TITO D.TIi1 D.TIi2 hTI),⟨_,_,(hs''.2 _ D.TOz).trans g2⟩,g3.at fun o e=>(hs''.2 _ D.i1z).trans e,g4.at fun o e=>(hs''.2 _ D.i2z).trans e⟩,fun c hc=>?_⟩
  have hcs:c<s.heap.objs.size:=by
   have five:c=z\/c=TI\/c=TO\/c=i1\/c=i2:=by simpa using hc
   rcases five with e|e|e|e|e<;>subst e
   ·exact hzs
   ·exact lt hTI
   ·exact lt hTO
   ·obtain⟨o,e,_⟩:=h1;exact lt e
   ·obtain⟨o,e,_⟩:=h2;exact lt e
  rw[zA9 (qAj hcs)];exact(hf c hc).1
 done:=by
  intro X hP hw hK hc i pins s σ H E I hf st hg;subst hP hw hK;obtain⟨xs,ys,hq1,hq2,hle⟩:=hg;obtain⟨its1,rv1,p1,hz1⟩:=I.list hq1;obtain⟨its2,rv2,p2,hz2⟩:=I.list hq2;have l1:=rv1.length;have l2:=rv2.length;obtain⟨hz,hTI,⟨a0,b0,hTO⟩,h1,h2⟩:=st;refine wpAny_pyNext_zip_end (I.ok.hd hc) D hz hTI hTO h1 h2 p1.isList p2.isList ?_ fun h' hk=>⟨rfl,I.turnedL (t':=s.toks) hf fun c u hc q=>hk c u (fun e=>hc (by simp[e])) (fun e=>hc (by simp[e])) (fun e=>hc (by simp[e])) (fun e=>hc (by simp[e])) q⟩
  rcases hle with q|q
  ·exact .inl (by simp;lia)
  ·exact .inr (by simp;lia)
 self:=fun _ _ _ _ _ st h=>wpAny_pyIter_zip st.1 h
section
variable{X:Cx}{K:qA0}
def iZip(K:qA0)(tl:TA):TI:=fun σ H R=>tl σ H fun vs H1=>match vs with
 |[.ref a,.ref b]=>(∃xs,SqL K H1 a xs)/\(∃ys,SqL K H1 b ys)/\R (Itz K a b) H1
 |_=>False
theorem zS7{ts:List Expr}{kk:Nat}{tp p pos:Pos}{a b:Expr}{ta:TA}(hg:Gl X "zip")(hm:X.mg "zip" = none)(ha:PA X [a,b] ta)(hs:starEach [a,b] X.env=(false,eval a X.env)::starEach [b] X.env:=by rfl)(hpl:(backTo pos (starEach [b] X.env)).any (·.1)=false:=by rfl)(hK:X.K=K:=by rfl) :
  PI X (.Tuple ts kk tp) (.Call (.Name "zip" p) [a,b] [] pos) (iZip K ta):=by
 subst hK;intro pins s σ H R I h;refine Call_ (zGD I hg hm boot_zip (qBo (thn (ha pos pins s σ H _ I h) fun us s1 z0=>?_) hs hpl));obtain⟨vs,H1,I1,r1,q1⟩:=z0;cases vs with
 |nil=>exact qA3 q1
 |cons hd1 tl1=>
  cases hd1 with
  |ref l1=>
   cases tl1 with
   |nil=>exact qA3 q1
   |cons hd2 tl2=>
    cases hd2 with
    |ref l2=>
     cases tl2 with
     |nil=>
      obtain⟨⟨xs,hq1⟩,⟨ys,hq2⟩,q⟩:=q1;obtain⟨u1,u2,rfl,rx,ry⟩:=zL1 r1;cases rx;cases ry;obtain⟨its1,rv1,p1,hz1⟩:=I1.list hq1;obtain⟨its2,rv2,p2,hz2⟩:=I1.list hq2;have lt1:l1<s1.heap.objs.size:=by obtain⟨o,ho,_⟩:=p1.isList;exact Heap.lt_size ho
      have lt2:l2<s1.heap.objs.size:=by obtain⟨o,ho,_⟩:=p2.isList;exact Heap.lt_size ho
      refine call_zip_2 p1.isList p2.isList fun h' hz hTI hTO h1 h2 hsz hk=>?_
      refine wpAny_pyIter_zip hz ?_;refine⟨s1.heap.objs.size+4,[s1.heap.objs.size+4,s1.heap.objs.size+2,s1.heap.objs.size+3,s1.heap.objs.size,s1.heap.objs.size+1],_,_,H1,rfl,I1.kept (t':=s1.toks) hk,zN5 (zipApart_new lt1 lt2),⟨hz,hTI,⟨_,_,hTO⟩,h1,h2⟩,fun c hc=>?_,q⟩;have hc':s1.heap.objs.size<=c:=by
       have five:c=s1.heap.objs.size+4\/c=s1.heap.objs.size+2\/c=s1.heap.objs.size+3\/c=s1.heap.objs.size\/c=s1.heap.objs.size+1:=by simpa using hc
       rcases five with e|e|e|e|e<;>rw[e]<;>first|exact qA4 _|exact qD5 _ _
      exact I1.fpOk hc' (I1.hok.fresh hc')
     |cons _ _=>exact qA3 q1
    |_=>exact qA3 q1
  |_=>exact qA3 q1
end
end L2
namespace L2
open PySem PySem.Spec PyProof.Rows
def XO(e:Addr)(C:Value)(d:Option Addr)(h:Heap):Prop:=∃oe vs,h.get? e=some oe/\oe.cls=C/\oe.dict=d/\oe.data=.fields vs/\1<vs.size
abbrev xo(e:Addr)(C:Value)(d:Option Addr):HO:=.ext (XO e C d)
def Fl(n:Nat)(e:Addr)(C:Value)(d:Option Addr)(mk:Value)(H:Hp)(h:Heap):Prop:=
 ∃oe vs T oT ts,h.get? e=some oe/\oe.cls=C/\oe.dict=d/\oe.data=.fields vs/\vs[1]?=some (.ref T)/\n<=T/\T≠e/\H T=none/\h.get? T=some oT/\oT.data=.fields ts/\ts[3]?=some mk
def Fly(n:Nat)(e:Addr)(C:Value)(d:Option Addr)(H:Hp)(h:Heap):Prop:=
 H e=some (xo e C d)/\((∃oe vs,h.get? e=some oe/\oe.cls=C/\oe.dict=d/\oe.data=.fields vs/\vs[1]?=some .none)\/Fl n e C d .none H h)
def Held(n:Nat)(e:Addr)(C:Value)(d:Option Addr)(L:Addr)(H:Hp)(h:Heap):Prop:=H e=some (xo e C d)/\Fl n e C d (rawInt L) H h
theorem Fly.mono{n n':Nat}{e:Addr}{C:Value}{d:Option Addr}{H:Hp}{h:Heap}(x:Fly n e C d H h)(hn:n'<=n):Fly n' e C d H h:=by
 obtain⟨a,b|⟨oe,vs,T,oT,ts,h1,h2,h3,h4,h5,h6,h7⟩⟩:=x
 ·exact⟨a,.inl b⟩
 ·exact⟨a,.inr ⟨oe,vs,T,oT,ts,h1,h2,h3,h4,h5,qAh hn h6,h7⟩⟩
structure Nt(n:Nat)(fs ch:List Addr)(e:Addr)(H:Hp)(h h':Heap):Prop where
 keep:∀b o,h.get? b=some o->b≠e->b∉fs->b∉ch->h'.get? b=some o
 slot:∀b o,h.get? b=some o->b≠e->b∉ch->∃sl,h'.get? b=some { o with slots:=sl }
 there:∀b o,h.get? b=some o->∃o',h'.get? b=some o'
 old:∀b∈ch,n<=b/\H b=none/\∃o vs,h.get? b=some o/\o.data=.fields vs
section
variable{M:Model}{A:Around}{E:Value->Shared->Prop}{s:Shared}{n:Nat}{e L:Addr}{C:Value}{d:Option Addr}{H:Hp}{base:Heap}{env:Env}{outer:List Env}
theorem zP8{oe:Obj}{vs:Array Value}{head:Value}{hadNext:Bool}{Q:Unit->Shared->Prop}
  (hfr:A.frames=some (env::outer)) (hl:s.heap.FunFrames base (env::outer)) (hf:env.frame=some L)
  (he:s.heap.get? e=some oe) (hc:oe.cls=C) (hdi:oe.dict=d) (hd:oe.data=.fields vs) (hsz:1<vs.size) (hn:n<=s.heap.objs.size) (hH:∀b,s.heap.objs.size<=b->H b=none)
  (h:∀h',(∀b o,s.heap.get? b=some o->b≠e->b∉frs (env::outer)->h'.get? b=some o)->(∀b o,s.heap.get? b=some o->b≠e->∃sl,h'.get? b=some { o with slots:=sl }) ->
   (∃o',h'.get? e=some o')->Fl n e C d (rawInt L) H h'->Q () { s with heap:=h' }) :
  wpAny M A (do let a <- frameOf env;let pl <- entryPlaceOf L hadNext;let b <- EntryCells.newEntry head a .none (rawInt L) .none pl;setField (.ref e) 1 b) Q E s:=by
 have hene:e∉(env::outer).filterMap (·.frame):=fun hm=>by
  obtain⟨_,o,ho,hnf⟩:=hl.mem hm;rw[he]at ho;injection ho with ho;subst ho;exact hnf vs hd
 refine wpAny_bind (wpAny_frameOf_fun hfr hl hf fun h₁ hs₁=>?_);refine wpAny_bind (wpAny_entryPlaceOf fun pl hpl=>?_);unfold EntryCells.newEntry newFields;refine wpAny_bind (wpAny_newObj_type ?_ (hpl.sizeOk5 _ _ _ _ _));have he₁:h₁.get? e=some oe:=(hs₁.2.1 e hene).trans he;have he₂:=Heap.get?_push_of_some (h:=h₁) { cls:=.type "traceback",dict:=none,data:=.fields ([head,.ref L,.none,rawInt L,.none]++(if pl.isEmpty then qA5 6 Value.none else pl)).toArray } he₁;have hTe:h₁.objs.size≠e:=qBn (Heap.lt_size he₁);have hd₃:=Obj.data_mapFields hd (·.setIfInBounds 1 (Value.ref h₁.objs.size));have he₃:=Heap.get?_update_self (Obj.mapFields (·.setIfInBounds 1 (Value.ref h₁.objs.size))) he₂ (Obj.isFreed_of_fields hd₃);have hT₃:=(Heap.get?_update_other (h₁.push { cls:=.type "traceback",dict:=none,data:=.fields ([head,.ref L,.none,rawInt L,.none]++(if pl.isEmpty then qA5 6 Value.none else pl)).toArray })
  (Obj.mapFields (·.setIfInBounds 1 (Value.ref h₁.objs.size))) (qCe hTe)).trans (Heap.get?_push_size h₁ rfl)
 have keep:∀b o,b≠e->h₁.get? b=some o ->
   ((h₁.push { cls:=.type "traceback",dict:=none,data:=.fields ([head,.ref L,.none,rawInt L,.none]++(if pl.isEmpty then qA5 6 Value.none else pl)).toArray }).update e (Obj.mapFields (·.setIfInBounds 1 (Value.ref h₁.objs.size)))).get? b=some o:=
  fun b o hbe hb=>by
   rw[Heap.get?_update_other _ _ (qCe hbe)];exact Heap.get?_push_of_some _ hb
 have hsz1:h₁.objs.size=s.heap.objs.size:=hs₁.1;refine wpAny_setField he₂ hd hsz (h _ (fun b o hb hbe hbf=>keep b o hbe ((hs₁.2.1 b hbf).trans hb)) (fun b o hb hbe=>?_) ⟨_,he₃⟩ ?_)
 ·obtain⟨sl,e1⟩:=hs₁.2.2 b o hb;exact⟨sl,keep b _ hbe e1⟩
 ·have hdo:∀(o:Obj) f,(Obj.mapFields f o).dict=o.dict:=fun o f=>by unfold Obj.mapFields;split<;>rfl
  exact⟨_,_,h₁.objs.size,_,_,he₃,(Obj.cls_mapFields _ _).trans hc,(hdo _ _).trans hdi,hd₃,by simp[hsz],by rw[hsz1];exact hn,hTe,hH _ (by rw[hsz1];exact qA4 _),hT₃,rfl,
   by first|(simp;done)|(rcases hpl with rfl|⟨_,_,_,_,_,_,_,rfl⟩<;>simp)⟩
theorem zQ6{Q:Unit->Shared->Prop}(hfr:A.frames=some (env::outer))(hl:s.heap.FunFrames base (env::outer))(hf:env.frame=some L)(x:Fly n e C d H s.heap)(hn:n<=s.heap.objs.size)(hH:∀b,s.heap.objs.size<=b->H b=none)
  (h:∀h' ch,Nt n (frs (env::outer)) ch e H s.heap h'->Held n e C d L H h'->Q () { s with heap:=h' }):wpAny M A (noteFrame (.ref e) env) Q E s:=by
 obtain⟨hx,⟨oe,vs,he,hc,hdi,hd,h1⟩|⟨oe,vs,T,oT,ts,he,hc,hdi,hd,h1,hnT,hTe,hHT,hT,hdT,h3⟩⟩:=x
 ·unfold noteFrame;simp only[hf];refine wpAny_bind (wpAny_field he hd h1 ?_);rw[if_neg (by decide)];refine zP8 hfr hl hf he hc hdi hd (qB4.mp h1).1 hn hH fun h' k1 k2 k3 k4=>?_
  refine h h' [] ⟨fun b o hb hbe hbf _=>k1 b o hb hbe hbf,fun b o hb hbe _=>k2 b o hb hbe,fun b o hb=>?_,fun b hb=>nomatch hb⟩ ⟨hx,k4⟩
  by_cases z:b=e
  ·rw[z];exact k3
  ·obtain⟨sl,q⟩:=k2 b o hb z;exact⟨_,q⟩
 ·unfold noteFrame;simp only[hf];refine wpAny_bind (wpAny_field he hd h1 ?_);rw[if_pos (show(Value.ref T != Value.none)=true from by simp)];refine wpAny_bind (wpAny_field hT hdT h3 ?_);rw[if_neg (show ¬((Value.none==rawInt L)=true) from by simp[rawInt])];refine wpAny_bind (wpAny_setField hT hdT (qB4.mp h3).1 ?_);have other:∀b,b≠T->(s.heap.update T (Obj.mapFields (·.setIfInBounds 3 Value.none))).get? b=s.heap.get? b:=fun b hb=>Heap.get?_update_other _ _ (qCe hb)
  have noRecord:∀b o,s.heap.get? b=some o->(∀vs,o.data≠.fields vs)->b≠T:=fun b o hb hnf q=>by
   rw[q,hT]at hb;injection hb with hb;subst hb;exact hnf ts hdT
  have hl1:=hl.of_keeps (h':=s.heap.update T (Obj.mapFields (·.setIfInBounds 3 Value.none))) fun b o hb hnf=>⟨o,(other b (noRecord b o hb hnf)).trans hb,rfl⟩
  have hself:=Heap.get?_update_self (Obj.mapFields (·.setIfInBounds 3 Value.none)) hT (Obj.isFreed_of_fields (Obj.data_mapFields hdT _));have hsz:(s.heap.update T (Obj.mapFields (·.setIfInBounds 3 Value.none))).objs.size=s.heap.objs.size:=by simp
  refine zP8 (s:={ s with heap:=s.heap.update T (Obj.mapFields (·.setIfInBounds 3 Value.none)) }) hfr hl1 hf ((other e (qCe hTe)).trans he) hc hdi hd (qB4.mp h1).1 (by rw[hsz];exact hn) (by rw[hsz];exact hH) fun h' k1 k2 k3 k4=>?_
  have nT:∀b,b∉[T]->b≠T:=fun b hb z=>hb (by simp[z])
  refine h h' [T] ⟨fun b o hb hbe hbf hc=>k1 b o ((other b (nT b hc)).trans hb) hbe hbf,fun b o hb hbe hc=>k2 b o ((other b (nT b hc)).trans hb) hbe,fun b o hb=>?_,fun b hb=>?_⟩ ⟨hx,k4⟩
  ·by_cases z:b=e
   ·rw[z];exact k3
   ·by_cases z':b=T
    ·rw[z'];obtain⟨sl,q⟩:=k2 T _ hself hTe;exact⟨_,q⟩
    ·obtain⟨sl,q⟩:=k2 b o ((other b z').trans hb) z;exact⟨_,q⟩
  ·obtain rfl:b=T:=by simpa using hb
   exact⟨hnT,hHT,oT,ts,hT,hdT⟩
theorem zQA{Q:Unit->Shared->Prop}{fs:List Addr}{mk:Value}(x:Fl n e C d mk H s.heap)
  (h:∀h' ch,Nt n fs ch e H s.heap h'->Fl n e C d .none H h'->Q () { s with heap:=h' }):wpAny M A (setFlight (.ref e) none) Q E s:=by
 obtain⟨oe,vs,T,oT,ts,he,hc,hdi,hd,h1,hnT,hTe,hHT,hT,hdT,h3⟩:=x;have hsz3:3<ts.size:=(qB4.mp h3).1;have other:∀b,b≠T->(s.heap.update T (Obj.mapFields (·.setIfInBounds 3 ((none:Option Addr).elim Value.none fun f=>rawInt f)))).get? b=s.heap.get? b:=
  fun b hb=>Heap.get?_update_other _ _ (qCe hb)
 have hself:=Heap.get?_update_self (Obj.mapFields (·.setIfInBounds 3 ((none:Option Addr).elim Value.none fun f=>rawInt f))) hT (Obj.isFreed_of_fields (Obj.data_mapFields hdT _));have nT:∀b,b∉[T]->b≠T:=fun b hb z=>hb (by simp[z])
 unfold setFlight;refine wpAny_bind (wpAny_field he hd h1 ?_);rw[if_pos (show(Value.ref T != Value.none)=true from by simp)];refine wpAny_setField hT hdT hsz3 (h _ [T] ⟨fun b o hb _ _ hc=>(other b (nT b hc)).trans hb,fun b o hb _ hc=>⟨o.slots,(other b (nT b hc)).trans hb⟩,fun b o hb=>?_,fun b hb=>?_⟩ ?_)
 ·by_cases z:b=T
  ·rw[z];exact⟨_,hself⟩
  ·exact⟨o,(other b z).trans hb⟩
 ·obtain rfl:b=T:=by simpa using hb
  exact⟨hnT,hHT,oT,ts,hT,hdT⟩
 ·exact⟨oe,vs,T,_,_,(other e (qCe hTe)).trans he,hc,hdi,hd,h1,hnT,hTe,hHT,hself,Obj.data_mapFields hdT _,by simp[hsz3]⟩
end
section
variable{X:Cx}{pins:List (Addr×Obj)}{σ:St}{H:Hp}{s:Shared}{n:Nat}{e:Addr}{C:Value}{d:Option Addr}{A:Around}{E:Value->Shared->Prop}{fs ch:List Addr}{h h':Heap}
theorem Nt.hok{P:Program}{w:World}(t:Nt n fs ch e H h h')(k:HOk P w H h)(he:H e=some (xo e C d))(hfs:∀b∈fs,H b=none)(f:XO e C d h'):HOk P w H h':=fun a o ha=>by
 by_cases z:a=e
 ·subst z;rw[he]at ha;cases ha;obtain⟨oe,vs,h1,r⟩:=id f;exact⟨f,⟨oe,h1⟩,(k a _ he).2.2⟩
 ·refine(k a o ha).stay (fun b u hb q=>?_) (fun _ q=>q) (fun _ _ q=>q) fun _ _ _ q _=>q
  have hb':H b≠none:=by
   rcases hb with rfl|hb
   ·rw[ha];exact fun z=>by cases z
   ·rw[hb];exact fun z=>by cases z
  have hbe:b≠e:=by
   rcases hb with rfl|hb
   ·exact z
   ·intro y;rw[y,he]at hb;cases hb
  exact t.keep b u q hbe (fun y=>hb' (hfs b y)) fun y=>hb' (t.old b y).2.1
theorem Fl.xo{mk:Value}(f:Fl n e C d mk H h):XO e C d h:=by
 obtain⟨oe,vs,T,oT,ts,h1,h2,h3,h4,h5,_⟩:=f;exact⟨oe,vs,h1,h2,h3,h4,(qB4.mp h5).1⟩
theorem Nt.un(t:Nt n fs ch e H h h')(he:H e=some (xo e C d)):Un fs ch H H h h':=
 ⟨fun b o q hn hf hc=>t.keep b o q (fun z=>by rw[z,he]at hn;cases hn) hf hc,fun b o q hn _ hc=>t.slot b o q (fun z=>by rw[z,he]at hn;cases hn) hc,fun _ _ _ hn _=>hn,fun b o q _=>t.there b o q,fun _ _ q=>q,fun _ _ _ q=>q,fun b ps q=>⟨#[],by simpa using q⟩⟩
theorem Inv.noted(I:Inv X pins σ H s)(t:Nt n (frs X.stack) ch e H s.heap h')(he:H e=some (xo e C d))(f:XO e C d h')(hn:X.s₀.heap.objs.size<=n)(hp:∀p∈X.pn++pins,p.1<n):Inv X pins σ H { s with heap:=h' }:=by
 refine I.call' rfl (t.un he) (t.hok I.hok he I.stkFree f) I.bare fun b hb=>?_
 obtain⟨h1,h2,o,vs,h3,h4⟩:=t.old b hb;refine⟨.inr (qAh hn h1),?_,?_,fun p hp' z=>?_⟩
 ·intro z;obtain⟨m,⟨o',es,ep,ho',hd',_⟩,_⟩:=I.loc;rw[z,ho']at h3;cases h3;rw[hd']at h4;cases h4
 ·intro x c hx z;obtain⟨v,o',ho',hd'⟩:=I.cell x c hx;rw[<- z,ho']at h3;cases h3;rw[hd']at h4;cases h4
 ·have:=hp p hp'
  rw[z]at this;exact absurd h1 (Nat.not_le_of_lt this)
theorem zJY{Q:Unit->Shared->Prop}{M:Model}(I:Inv X pins σ H s)(hA:A.frames=some X.stack)(hs:X.stack=X.env::X.outer/\X.env.frame=some X.env.locals)(x:Fly n e C d H s.heap)(hn:X.s₀.heap.objs.size<=n)(hn':n<=s.heap.objs.size)
  (hp:∀p∈X.pn++pins,p.1<n) (h:∀s',Inv X pins σ H s'->Held n e C d X.env.locals H s'.heap->Q () s'):wpAny M A (noteFrame (.ref e) X.env) Q E s:=by
 have hst:=I.stack;rw[hs.1]at hA hst;refine zQ6 hA hst hs.2 x hn' (fun b hb=>I.hok.fresh hb) fun h' ch t y=>h _ (I.noted (ch:=ch) (by rw[hs.1];exact t) x.1 y.2.xo hn hp) y
theorem zGY{Q:Unit->Shared->Prop}{M:Model}{mk:Value}(I:Inv X pins σ H s)(hx:H e=some (xo e C d))(x:Fl n e C d mk H s.heap)(hn:X.s₀.heap.objs.size<=n)
  (hp:∀p∈X.pn++pins,p.1<n) (h:∀s',Inv X pins σ H s'->Fl n e C d .none H s'.heap->Q () s'):wpAny M A (setFlight (.ref e) none) Q E s:=
 zQA (fs:=frs X.stack) x fun h' ch t y=>h _ (I.noted t hx y.xo hn hp) y
theorem zM1{Q:Unit->Shared->Prop}{M:Model}(I:Inv X pins σ H s)(hA:A.frames=some X.stack)(hs:X.stack=X.env::X.outer/\X.env.frame=some X.env.locals)(x:Fly n e C d H s.heap)(hn:X.s₀.heap.objs.size<=n)(hn':n<=s.heap.objs.size)
  (hp:∀p∈X.pn++pins,p.1<n) (h:∀s',Inv X pins σ H s'->Fly n e C d H s'.heap->Q () s'):wpAny M A (leaving X.env (.ref e)) Q E s:=by
 unfold leaving;exact wpAny_bind (zJY I hA hs x hn hn' hp fun s1 I1 y=>zGY I1 y.1 y.2 hn hp fun s2 I2 z=>h s2 I2 ⟨y.1,.inr z⟩)
end
def CXe(P:Program)(w:World):CXT:=fun outer H s E x s'=>∃e C d H',x=.ref e/\s'.os=s.os/\AllBare s'.gens/\Un (frs outer) [] H H' s.heap s'.heap/\HOk P w H' s'.heap/\Fly s.heap.objs.size e C d H' s'.heap/\s.heap.objs.size<=s'.heap.objs.size/\E x d H'
section
variable{X:Cx}{pins:List (Addr×Obj)}{σ:St}{H:Hp}{s s':Shared}{E E':XK}
theorem Inv.pinlt(I:Inv X pins σ H s):∀p∈X.pn++pins,p.1<s.heap.objs.size:=fun p hp=>Heap.lt_size (I.pin p hp).1
def XP(X:Cx)(pins:List (Addr×Obj))(σ:St)(E:XK)(x:Value)(s':Shared):Prop:=∃n e C d H',x=.ref e/\Inv X pins σ H' s'/\Fly n e C d H' s'.heap/\X.s₀.heap.objs.size<=n/\n<=s'.heap.objs.size/\(∀p∈X.pn++pins,p.1<n)/\E x d H'
theorem Inv.flown{x:Value}(I:Inv X pins σ H s)(h:CXe X.prog X.w X.stack H s E x s'):XP X pins σ E x s':=by
 obtain⟨e,C,d,H',rfl,ho,hb,u,hk,f,hz,q⟩:=h;exact⟨_,e,C,d,H',rfl,I.call' ho u hk hb (fun b z=>absurd z (by simp)),f,I.sz,hz,I.pinlt,q⟩
end
section
variable{P:Program}{w:World}{K:qA0}{mg:Str->Option Value}{base:Heap}{N:List Str}{qual:Str}{scope:Scope}{f:Addr}{cd:Value}{A:Around}{outer:List Env}{s:Shared}{H:Hp}{E E':XK}
theorem zQV{pins:List (Addr×Obj)}{σ:St}{x:Value}{s':Shared}(hE:∀C d H',E' C d H'->E C d H')
  (h:XP (cxOf (CXe P w) P w K mg base N qual scope f cd A outer s H E) pins σ E' x s'):(cxOf (CXe P w) P w K mg base N qual scope f cd A outer s H E).xe x s':=by
 obtain⟨n,e,C,d,H',rfl,I,fl,hn,hz,hp,q⟩:=h;refine zM1 I I.ok.frames ⟨rfl,rfl⟩ fl hn hz hp fun s2 I2 f2=>?_
 exact⟨e,C,d,H',rfl,I2.os,I2.bare,I2.base,I2.hok,f2.mono hn,I2.sz,hE _ _ _ q⟩
end
end L2
namespace L2
open PySem PySem.Spec PyProof.Rows
abbrev TEX:=St->Hp->VK->XK->Prop
abbrev TSX:=Ends->(St->XK)->St->Hp->Prop
def PEx(X:Cx)(e:Expr)(t:TEX):Prop:=∀(pins:List (Addr×Obj))(s:Shared)(σ:St)(H:Hp)(Q:VK)(E:XK),Inv X pins σ H s->t σ H Q E->wpAny (model X.prog X.w) X.A (eval e X.env) (EP X pins σ Q) (XP X pins σ E) s
def PSx(X:Cx)(st:Stmt)(t:TSX):Prop:=∀(pins:List (Addr×Obj))(s:Shared)(σ:St)(H:Hp)(D:Ends)(E:St->XK),Inv X pins σ H s->t D E σ H->wpAny (model X.prog X.w) X.A (exec st X.env) (SP X pins D) (fun x s'=>∃σ',XP X pins σ' (E σ') x s') s
def PSxs(X:Cx)(st:List Stmt)(t:TSX):Prop:=∀(pins:List (Addr×Obj))(s:Shared)(σ:St)(H:Hp)(D:Ends)(E:St->XK),Inv X pins σ H s->t D E σ H->wpAny (model X.prog X.w) X.A (execs st X.env) (SP X pins D) (fun x s'=>∃σ',XP X pins σ' (E σ') x s') s
section
variable{X:Cx}{k:Nat}{f:Addr}{fd:FuncData}{ps:List Str}{sp:Sp}{dvs:List V}{ds:List Value}{x:Str}{p pos:Pos}{e:Expr}{es:List Expr}{t:TA}{te:TE}{tx:TEX}{st:Stmt}{rest:List Stmt}{u u':TSX}
theorem zPP{pins:List (Addr×Obj)}{σ:St}{H:Hp}{s:Shared}{Q:VK}{E:XK}{us:List Value}{vs:List V}(F:FnOk X.prog X.w X.K X.mg X.base (CXe X.prog X.w) k f fd ps sp)(hr:Room k X.A)(hb:Binds X.K fd ps ds)(hd:Vals dvs ds)
  (I:Inv X pins σ H s) (r:Vals vs us) (h:sp (vs++dvs) H Q E):wpAny (model X.prog X.w) X.A (call (.ref f) us) (EP X pins σ Q) (XP X pins σ E) s:=by
 have r2:Vals (vs++dvs) (us++ds):=r.append hd;have hl:(us++ds).length=ps.length:=by rw[<- r2.length];exact F.len _ _ _ _ h
 refine wpAny_call (codeAny_mono (F.run X.A X.stack s H ⟨us,[]⟩ (us++ds) (vs++dvs) Q E hr I.env0 (hb s us I.kIn hl) r2 h) fun r s' hq=>?_);cases r with
 |error e=>exact I.flown hq
 |ok fl=>
  cases fl with
  |ret u=>exact I.after hq
  |next=>exact qA3 hq
  |brk=>exact qA3 hq
  |cont=>exact qA3 hq
theorem PA.nox{es:List Expr}{t:TA}{E:Value->Shared->Prop}{M:Model}(h:PA X.nox es t)(pos:Pos){pins:List (Addr×Obj)}{s:Shared}{σ:St}{H:Hp}{Q:List V->Hp->Prop}(I:Inv X pins σ H s)(q:t σ H Q) :
  wpAny (model X.prog X.w) X.A (spliced (backTo pos (starEach es X.env))) (AP X pins σ Q) E s:=
 wpAny_mono (h pos pins s σ H Q (I.wish _) q) (fun _ _ ⟨vs,H',I',r,q⟩=>⟨vs,H',I'.unwish,r,q⟩) fun _ _ z=>qA3 z
theorem zNM(F:FnOk X.prog X.w X.K X.mg X.base (CXe X.prog X.w) k f fd ps sp)(hr:Room k X.A)(hg:Gl X x)(hm:X.mg x=some (.ref f))(hk:qAp X.K (.ref f)=true)(hb:Binds X.K fd ps ds)(hd:Vals dvs ds)
  (ha:PA X.nox (e::es) t) (hdb:(x==("__debug__":Str))=false:=by decide) (he:starEach (e::es) X.env=(false,eval e X.env)::starEach es X.env:=by rfl) (hpl:(backTo pos (starEach es X.env)).any (·.1)=false:=by rfl) :
  PEx X (.Call (.Name x p) (e::es) [] pos) (fun σ H Q E=>zG1 sp dvs E t σ H Q):=by
 intro pins s σ H Q E I h;refine wpAny_Call_Name_kw (zEC I hg hm ?_ hdb);refine qC2 (h₀:=X.base) I.ok.mod.kin hk (thn (PA.nox (M:=model X.prog X.w) ha pos I h) fun us s1 ⟨vs,H1,I1,r,q⟩=>⟨I1.kIn,?_⟩) he hpl;exact zPP F hr hb hd I1 r q
theorem zNJ(he:PEx X e tx)(hs:swapsWith e none pos.line X.env=pure false:=by rfl):PSx X (.Expr e pos) (fun D E σ H=>tx σ H (fun _ H1=>D.nx σ H1) (E σ)):=by
 intro pins s σ H D E I h;exact wpAny_Expr_any (wpAny_mono (he pins s σ H _ _ I h) (fun v s1 ⟨x,H1,I1,r1,q1⟩=>⟨σ,H1,I1,q1⟩) fun x s1 q=>⟨σ,q⟩) I.quiet hs
theorem zNI(h1:PSx X st u):PSxs X [st] u:=by
 intro pins s σ H D E I h;refine wpAny_execs_cons (thn (h1 pins s σ H D E I h) fun f s1 q=>?_);cases f with
 |next=>exact wpAny_execs_nil q
 |ret v=>exact q
 |brk=>exact q
 |cont=>exact q
abbrev Cx.hd(X:Cx)(e:Addr):Cx:={ X with A:=X.A.mark (some (.ref e)),calm:=false,xe:=fun _ _=>False }
theorem Cx.Ok.hd'{X:Cx}{e:Addr}(ok:X.Ok):(X.hd e).Ok:=
 ⟨ok.mod,ok.kind,ok.glob,ok.blt,ok.above,ok.inj,ok.has,ok.cab,fun z=>Bool.noConfusion z,ok.frames,ok.stk,ok.exf,ok.bs,ok.bsz,ok.noex,ok.exfs,ok.funs,ok.frf⟩
variable{pins:List (Addr×Obj)}{σ:St}{H:Hp}{s:Shared}{a:Addr}
theorem Inv.hd(I:Inv X pins σ H s)(a:Addr):Inv (X.hd a) pins σ H s:=⟨I.ok.hd',I.os,I.bare,I.base,I.loc,I.cell,I.free,I.freeC,I.pin,I.hok,I.len⟩
theorem Inv.unhd(ok:X.Ok)(I:Inv (X.hd a) pins σ H s):Inv X pins σ H s:=⟨ok,I.os,I.bare,I.base,I.loc,I.cell,I.free,I.freeC,I.pin,I.hok,I.len⟩
theorem Inv.gone{i:Nat}{x:Str}{h':Heap}{m:Str->Option Value}{v:Option Value}{t':Nat}(I:Inv X pins σ H s)(hN:X.N.Nodup)(hi:X.N[i]?=some x)(hk:X.env.scope.names.lookup x=some .local)
  (hm:∀(j:Nat)(y:Str)(w:V),X.N[j]?=some y->σ[j]?=some (some w)->Vis X.env.scope y->∃u,RelV w u/\Look X.env s.heap m y u) (hn:h'.Ns X.env.locals fun y=>if y=x then v else m y) (hs:Heap.SameBut X.env.locals s.heap h'):Inv X pins (σ.set i none) H { s with heap:=h',toks:=t' }:=by
 have hiσ:i<σ.length:=by rw[I.len];exact(qA2.mp hi).1
 have cne:=I.cne;have oth:∀b,b≠X.env.locals->h'.get? b=s.heap.get? b:=fun b hb=>hs.2 b hb
 refine⟨I.ok,I.os,I.bare,⟨fun b o e n hb hx=>?_,fun b o e n hb hx=>?_,I.base.free,fun b o e hx=>?_,I.base.tups,I.base.frzs,I.base.tbls⟩,⟨_,hn,fun j y w e1 e2 e3=>?_⟩,fun y c e=>?_,I.free,I.freeC,fun p hp=>?_,fun b ob e=>?_,by simp[I.len]⟩
 ·exact(oth b (qAj (qA7 (Heap.lt_size e) I.ok.above))).trans (I.base.keep b o e n hb hx)
 ·obtain⟨sl,e1⟩:=I.base.slot b o e n hb hx;exact⟨sl,(oth b (qAj (qA7 (Heap.lt_size e) I.ok.above))).trans e1⟩
 ·obtain⟨o',e1⟩:=I.base.there b o e hx;exact⟨o',(oth b (qAj (qA7 (Heap.lt_size e) I.ok.above))).trans e1⟩
 ·by_cases hj:j=i
  ·subst hj;rw[qAc hiσ]at e2;cases e2
  ·rw[qAd (qCe hj)]at e2;obtain⟨u',r',q⟩:=hm j y w e1 e2 e3;refine⟨u',r',?_⟩;have hy:y≠x:=fun e=>hj (zGX hN e1 (e▸hi))
   rcases q with⟨k,e⟩|⟨k,c,e,z⟩
   ·exact .inl ⟨k,by simp[hy,e]⟩
   ·exact .inr ⟨k,c,e,z.sameBut hs (cne y c e)⟩
 ·obtain⟨w',z⟩:=I.cell y c e;exact⟨w',z.sameBut hs (cne y c e)⟩
 ·obtain⟨e,n,ne,nf,d⟩:=I.pin p hp;exact⟨(oth p.1 ne).trans e,n,ne,nf,d⟩
 ·refine(I.hok b ob e).stay (fun c w' hc q=>(oth c ?_).trans q) (fun _ q=>q) (fun _ _ q=>q) fun _ _ _ q _=>q
  rintro rfl
  rcases hc with rfl|hc
  ·rw[I.free]at e;cases e
  ·rw[I.free]at hc;cases hc
theorem zH1{M:Model}{A:Around}{E:Value->Shared->Prop}{Q:Unit->Shared->Prop}{i:Nat}{x:Str}{pos:Pos}(I:Inv X pins σ H s)(hN:X.N.Nodup)(hi:X.N[i]?=some x)(hk:X.env.scope.names.lookup x=some .local)
  (h:∀s',Inv X pins (σ.set i none) H s'->Q () s'):wpAny M A (do bindName X.env x .none;unbindBehindTheSuite X.env x pos) Q E s:=by
 obtain⟨m,hn,hl⟩:=id I.loc;refine wpAny_nameGoes_keeps hk hn (by rw[I.ok.kind];rfl) fun h' v hn' hs=>h _ (I.gone hN hi hk hl hn' hs)
noncomputable def zO5(i:Nat)(D:Ends):Ends:={ nx:=fun σ H=>D.nx (σ.set i none) H,rt:=D.rt,bk:=fun σ H=>D.bk (σ.set i none) H,ct:=fun σ H=>D.ct (σ.set i none) H }
def zOL(K:qA0)(c:Value)(i:Nat)(tb:TSX)(ts:TS):TS:=fun D σ H=>tb D (fun σ1 x d H1=>∃e C,x=.ref e/\H1 e=some (xo e C d)/\qBw K C c=some true/\ts (zO5 i D) (σ1.set i (some (.ref e))) H1) σ H
theorem zNK{body:List Stmt}{tb:TSX}{ts:TS}{c:Value}{cn x:Str}{i:Nat}{b₀:Stmt}{suite:List Stmt}{cp hp':Pos}(hb:PSxs X body tb)(hst:X.stack=X.env::X.outer/\X.env.frame=some X.env.locals)
  (hc:X.mg cn=some c\/(X.mg cn=none/\bootBuiltins cn=some c/\cn ≠ "__name__")) (hg:Gl X cn) (hN:X.N.Nodup) (hi:X.N[i]?=some x) (hk:X.env.scope.names.lookup x=some .local) (hsu:∀e,PSs (X.hd e) (b₀::suite) ts) (hdb:(cn==("__debug__":Str))=false:=by decide) :
  PS X (.Try body [.ExceptHandler (some (.Name cn cp)) (some x) (b₀::suite) hp'] [] [] pos) (zOL X.K c i tb ts):=by
 intro pins s σ H D I h;refine wpAny_Try_except (wpAny_mono (hb pins s σ H _ _ I h) (fun f s1 q=>?_) fun y s1 z0=>?_)
 ·cases f with
  |next=>exact wpAny_execs_nil q
  |ret v=>exact q
  |brk=>exact q
  |cont=>exact q
 ·obtain⟨σ1,n,e,C,d,H1,ey,I1,fl,hn,hn',hp,q0⟩:=z0;subst ey;obtain⟨e',C',ee,hC',hm,q⟩:=q0;cases ee;refine zJY I1 I1.ok.frames hst fl hn hn' hp fun s2 I2 hh=>?_
  refine zGY I2 hh.1 hh.2 hn hp fun s3 I3 f3=>?_
  have I3h:=I3.hd e;have LT:qDz (model X.prog X.w) s3.heap (typeOf (.ref e)) C':=by
   obtain⟨oe,vs,he,hcl,_⟩:=(I3.hok e _ hC').1;subst hcl;exact(qFv he).andThen .now
  have ex:=PySem.W.exm_one (M:=model X.prog X.w) I3.kIn LT hm;have load:∀{Q:Value->Shared->Prop}{E:Value->Shared->Prop},Q c s3->wpAny (model X.prog X.w) (X.A.mark (some (.ref e))) (eval (.Name cn cp) X.env) Q E s3:=fun{Q E} hq=>by
   rcases hc with z|⟨z,z1,z2⟩
   ·exact zEC (X:=X.hd e) I3h hg z hq hdb
   ·exact zGD (X:=X.hd e) I3h hg z z1 hq z2 hdb
  refine wpAny_handleBy_cons (codeAny_handlers_test (load (ex.here ?_))) (by intro z;cases z);refine codeAny_handlers_suite_as (zGY I3h hh.1 f3 hn hp fun s4 I4 f4=>?_);refine zGN (X:=X.hd e) (v:=.ref e) I4 hN hi (.inl hk) rfl (fun s5 I5=>?_) (.inr hk);refine wpAny_mono (hsu e pins s5 _ H1 (zO5 i D) I5 q) (fun f s6 q6=>?_) fun _ _ z=>qA3 z
  cases f with
  |next=>obtain⟨σ',H',I',q'⟩:=q6;exact zH1 (I'.unhd I1.ok) hN hi hk fun s7 I7=>⟨_,H',I7,q'⟩
  |brk=>obtain⟨σ',H',I',q'⟩:=q6;exact zH1 (I'.unhd I1.ok) hN hi hk fun s7 I7=>⟨_,H',I7,q'⟩
  |cont=>obtain⟨σ',H',I',q'⟩:=q6;exact zH1 (I'.unhd I1.ok) hN hi hk fun s7 I7=>⟨_,H',I7,q'⟩
  |ret u=>obtain⟨v,σ',H',I',r,q'⟩:=q6;exact zH1 (I'.unhd I1.ok) hN hi hk fun s7 I7=>⟨v,_,H',I7,r,q'⟩
end
end L2
namespace PySem.W
open PySem PySem.Calls PyProof.Rows Builtin Builtin.ObjectAttr
noncomputable def excTail:List Value->Bool
 |.ref _::r=>excTail r
 |[.type a,.type b,.type c,.type d]=>a == "ValueError" && b == "Exception" && c == "BaseException" && d == "object"
 |_=>false
theorem zJH{a b c d:String}(e:excTail [.type a,.type b,.type c,.type d]=true):a = "ValueError" /\ b = "Exception" /\ c = "BaseException" /\ d = "object":=by
 simp only[excTail,qAs,beq_iff_eq]at e;exact⟨e.1.1.1,e.1.1.2,e.1.2,e.2⟩
theorem zE0:∀{l:List Value},excTail l=true->∃as:List Addr,l=as.map Value.ref++[.type "ValueError",.type "Exception",.type "BaseException",.type "object"]
 |.ref a::r,e=>by
  obtain⟨as,rfl⟩:=zE0 (l:=r) e;exact⟨a::as,rfl⟩
 |[.type a,.type b,.type c,.type d],e=>by
  obtain⟨rfl,rfl,rfl,rfl⟩:=zJH e;exact⟨[],rfl⟩
def excOver(K:Frag)(C:Addr):Bool:=(clsIn K C).any fun cd=>excTail cd.mro
section
variable{prog:Program}{w:World}{A:Around}{s:Shared}{K:Frag}{x C:Addr}{R:Result->Shared->Prop}
end
end PySem.W
namespace PySem.Xc
open PySem
section
variable{M:Model}{prog:Program}{w:World}{A:Around}{E:Value->Shared->Prop}{h:Heap}{g:Array GenState}{d:Drawn}{t:Nat}{os:OsState}{R:Result->Shared->Prop}
variable{nm q:Str}{C N:Addr}{bs bm bmB:List Value}{hdct:Bool}{sn:List Str}{sub:List Value}{ab:Bool}{col:Option Bool}{dd:Option Addr}{k0 k1 k2 k3 k5:Option Value}{B newId initId:String}
theorem zKV(F:ExcBaseFacts B newId initId bmB)(hB:bm.contains (.type B)=true){rest:List Value}{Q:Unit->Shared->Prop}(hC:h.get? C=some (excClassObj nm q C N bs bm hdct sn sub ab col dd k0 k1 k2 k3 k5 newId))
  (hq:Q () ⟨h,g,d,t,os⟩):wpAny M A (checkBuiltinCall newId ⟨.ref C::rest,[]⟩) Q E ⟨h,g,d,t,os⟩:=by
 have hcont:(Value.ref C::bm).contains (.type B)=true:=by rw[qB2,hB,qCp]
 have hstar:=F.noStar;simp only[checkBuiltinCall,F.newKind,F.newSplit,F.newRow]
 repeat (first|refine wpAny_loadPart_at hC ?_|(refine wpAny_isSubtype_exc hC ?_;rw[hcont])|refine wpAny_staticBase_exc hC ?_|refine wpAny_madeBy_exc hC ?_|simp only[bne_self_eq_false,qCq,if_false]|wp_step)
 exact hq
theorem zML(F:ExcBaseFacts B newId initId bmB)(hB:bm.contains (.type B)=true)(hA:bm.contains (.type "AttributeError")=false)(hN:bm.contains (.type "NameError")=false){rest:List Value}(hC:h.get? C=some (excClassObj nm q C N bs bm hdct sn sub ab col dd k0 k1 k2 k3 k5 newId))
  (hq:R (.ok (.ret (.ref (h.objs.size+1)))) ⟨(h.push { cls:=.type "tuple",data:=.seq rest.toArray }).push
   { cls:=.ref C,data:=.fields #[.ref h.objs.size,.none,.none,.none,.bool false,.none] },g,d,t,os⟩) (hrest:rest.length<=sizeLine) :
  codeAny (model prog w) A (.builtin newId ⟨.ref C::rest,[]⟩) R ⟨h,g,d,t,os⟩:=by
 have hends:=F.ends;have hcB:(Value.ref C::bm).contains (.type B)=true:=by rw[qB2,hB,qCp]
 have hcA:(Value.ref C::bm).contains (.type "AttributeError")=false:=by rw[qB2,hA];rfl
 have hcN:(Value.ref C::bm).contains (.type "NameError")=false:=by rw[qB2,hN];rfl
 refine codeAny_builtinAt F.entry ?_;unfold Builtin.«BaseException.__new__»;refine wpAt_bind ?_;show wpAt _ _ _ (stack >>= _) _ _ _;refine wpAt_bind (wpAt_stack fun p below=>wpAt_of_wpAny ?_)
 wp_walk
 refine wpAt_of_wpAny ?_;rw[F.owner]
 repeat (first|with_reducible refine wpAny_madeHere_exc F.canon hC ?_|with_reducible refine wpAny_loadPart_at hC ?_|(with_reducible refine wpAny_isSubtype_exc hC ?_;first|rw[hcB]|rw[hcA]|rw[hcN])|wp_step)
 show R _ _;rw[Heap.size_push];exact hq
theorem zJK(F:ExcBaseFacts B newId initId bmB)(hB:bm.contains (.type B)=true){e:Addr}{oe:Obj}{rest:List Value}{Q:Unit->Shared->Prop}{newId':String}
  (hC:h.get? C=some (excClassObj nm q C N bs bm hdct sn sub ab col dd k0 k1 k2 k3 k5 newId')) (he:h.get? e=some oe) (hcls:oe.cls=.ref C) (hq:Q () ⟨h,g,d,t,os⟩) :
  wpAny M A (checkBuiltinCall initId ⟨.ref e::rest,[]⟩) Q E ⟨h,g,d,t,os⟩:=by
 have hcB:(Value.ref C::bm).contains (.type B)=true:=by rw[qB2,hB,qCp]
 have hshort:=F.noStar;simp only[checkBuiltinCall,F.initKind,F.initSplit,F.initRow]
 repeat (first|(with_reducible refine wpAny_loadPart_at he ?_;rw[hcls])|with_reducible refine wpAny_loadPart_at hC ?_|(with_reducible refine wpAny_isSubtype_exc hC ?_;rw[hcB])|wp_step)
 refine wpAny_onRaise ?_;rw[show ∀(a b:String)(n:Nat),Bind.check ⟨.positional,"*",B,.self,[⟨"args",.varPos,false⟩]⟩ a b n (List.map (fun x=>x.fst) ({ pos:=Value.ref e::rest }:Args).kw)=pure () from
  fun a b n=>check_star_args _ _ _ _ _ _]
 exact wpAny_pure hq
theorem zKF(F:ExcBaseFacts B newId initId bmB)(hB:bm.contains (.type B)=true)(hA:bm.contains (.type "AttributeError")=false)(hN:bm.contains (.type "NameError")=false){rest:List Value}{Q:Fin->Shared->Prop}
  (hC:h.get? C=some (excClassObj nm q C N bs bm hdct sn sub ab col dd k0 k1 k2 k3 k5 newId)) (hi:qDz (model prog w) h (typeLookup (.ref C) "__init__") (some (.builtin initId)))
  (hq:∀h' e,Heap.MadeExcOf h h' e (.ref C) rest->h.objs.size<=e->Q (.done (.ret (.ref e))) ⟨h',g,d,t,os⟩) (hrest:rest.length<=sizeLine) :
  wpAny (model prog w) A (Builtin.«type.__call__» ⟨.ref C::rest,[]⟩) Q E ⟨h,g,d,t,os⟩:=by
 repeat (first|with_reducible refine wpAny_loadPart_at hC ?_|with_reducible refine wpAny_madeBy_exc hC ?_|wp_step)
 refine codeAny_call_builtin_code (Code.quiet_builtin _ F.quiet) (zKV F hB hC ?_);refine zML F hB hA hN hC ?_ hrest;show wpAny _ _ _ _ _ _;have hC₁:=Heap.get?_push_of_some { cls:=.ref C,data:=.fields #[.ref h.objs.size,.none,.none,.none,.bool false,.none] }
  (Heap.get?_push_of_some { cls:=.type "tuple",data:=.seq rest.toArray } hC)
 have hi₁:=hi.keeps (h':=(h.push { cls:=.type "tuple",data:=.seq rest.toArray }).push { cls:=.ref C,data:=.fields #[.ref h.objs.size,.none,.none,.none,.bool false,.none] }) fun b o e=>Heap.get?_push_of_some _ (Heap.get?_push_of_some _ e)
 have hget:((h.push { cls:=.type "tuple",data:=.seq rest.toArray }).push
   { cls:=.ref C,data:=.fields #[.ref h.objs.size,.none,.none,.none,.bool false,.none] }).get? (h.objs.size+1)=some
   { cls:=.ref C,data:=.fields #[.ref h.objs.size,.none,.none,.none,.bool false,.none] }:=by heap_get
 have hcC:(Value.ref C::bm).contains (.ref C)=true:=by simp
 unfold isInstance
 repeat (first|with_reducible refine wpAny_loadPart_at hget ?_|(with_reducible refine wpAny_isSubtype_exc hC₁ ?_;rw[hcC])|wp_step)
 show wpAny _ _ (typeLookup (.ref C) _) _ _ _;refine hi₁.here ?_;refine wpAny_holding (wpAny_bind (wpAny_of_eq (F.init.bind _) ?_));refine wpAny_bind (wpAny_call (codeAny_call_builtin F.init.plain F.initEntry (zJK F hB hC₁ hget rfl ?_)))
 wp_walk
 refine hq _ _ ⟨fun b o hb=>?_,Heap.get?_none_of_le (qDq _),h.objs.size+2,?_,Heap.get?_none_of_le (by lia),?_⟩ (qDq _)
 ·rw[Heap.get?_update_other _ _ (qBn (qE9 (Heap.lt_size hb)))];exact Heap.get?_push_of_some _ (Heap.get?_push_of_some _ (Heap.get?_push_of_some _ hb))
 ·rw[Heap.get?_update_self _ (Heap.get?_push_of_some _ hget) rfl];simp only[Heap.size_push];rfl
 ·rw[Heap.get?_update_other _ _ (show h.objs.size+1≠h.objs.size+2 by lia)];exact Heap.get?_push_at (by simp only[Heap.size_push]) rfl
theorem callX(F:ExcBaseFacts B newId initId bmB)(hB:bm.contains (.type B)=true)(hA:bm.contains (.type "AttributeError")=false)(hN:bm.contains (.type "NameError")=false){rest:List Value}{Q:Value->Shared->Prop}
  (hC:h.get? C=some (excClassObj nm q C N bs bm hdct sn sub ab col dd k0 k1 k2 k3 k5 newId)) (hi:qDz (model prog w) h (typeLookup (.ref C) "__init__") (some (.builtin initId)))
  (hq:∀h' e,Heap.MadeExcOf h h' e (.ref C) rest->h.objs.size<=e->Q (.ref e) ⟨h',g,d,t,os⟩) (hrest:rest.length<=sizeLine) :
  wpAny (model prog w) A (call (.ref C) rest) Q E ⟨h,g,d,t,os⟩:=by
 have f1:=tc_lookup;have f2:=tc_bind (.ref C);have hT:(⟨h,g,d,t,os⟩:Shared).TypeIs (.ref C) "type":=⟨_,hC,rfl⟩
 refine wpAny_call (codeAny_of_tree ?_);show wpAny _ _ (callAny (.ref C) _) _ _ _
 repeat (any_goals (first|assumption|with_reducible refine wpAny_loadPart_at hC ?_|wp_step))
 refine⟨rfl,?_⟩;refine codeAny_call_builtin_at (Code.quiet_builtin _ (by decide +kernel)) entry_typeCall (wpAny_check_type_call_sub hC (zKF (hrest:=hrest) F hB hA hN hC hi fun h' e hm hz=>?_));exact hq h' e hm hz
end
end PySem.Xc
namespace PySem.W
open PySem
def xcIn(K:Frag)(C:Addr):Bool:=match K.lookup C with
 |some ⟨.type "type",_,.cls cd,sl⟩=>(match cd.mro,sl.toList with
  |.ref C'::bm,[_,_,_,_,some (.builtin n),_]=>C'==C && !cd.hasDel&&excTail bm&&n == "ValueError.__new__" && cd.hasDict
  |_,_=>false)
 |_=>false
theorem xc_cls{K:Frag}{h:Heap}{C:Addr}(X:K.In h)(q:xcIn K C=true):∃nm qn N bs bm hdct sn sub ab col dd k0 k1 k2 k3 k5,
  h.get? C=some (excClassObj nm qn C N bs bm hdct sn sub ab col dd k0 k1 k2 k3 k5 "ValueError.__new__")/\excTail bm=true:=by
 unfold xcIn at q
 split at q
 ·rename_i dd cd sl ho
  split at q
  ·rename_i C' bm k0 k1 k2 k3 n k5 hm hs
   simp only[qAs,beq_iff_eq,qEa]at q;obtain⟨⟨⟨⟨rfl,hdel⟩,hb⟩,hn⟩,hd⟩:=q;subst hn;obtain⟨nm,bs,mro,ns,qn,hd',sn,sub,ab,col,del⟩:=cd;dsimp only at hm hdel;subst hm hdel;have hsl:sl=#[k0,k1,k2,k3,some (.builtin "ValueError.__new__"),k5]:=by
    obtain⟨l⟩:=sl;simp only at hs;rw[hs]
   subst hsl;exact⟨nm,qn,ns,bs,bm,hd',sn,sub,ab,col,dd,k0,k1,k2,k3,k5,X _ _ ho,hb⟩
  ·cases q
 ·cases q
theorem exc_con{l:List Value}{T:String}{b:Bool}(e:excTail l=true)(hb:List.contains [Value.type "ValueError",.type "Exception",.type "BaseException",.type "object"] (.type T)=b):l.contains (.type T)=b:=by
 obtain⟨as,rfl⟩:=zE0 e;clear e
 induction as with
 |nil=>exact hb
 |cons a r ih=>rw[qAl,qD7,qB2,ih];rfl
end PySem.W
namespace PySem.Xc
open PySem
section
variable{M:Model}{A:Around}{E:Value->Shared->Prop}{s:Shared}{env:Env}
variable{nm q:Str}{C N:Addr}{bs bm:List Value}{hdct:Bool}{sn:List Str}{sub:List Value}{ab:Bool}{col:Option Bool}{dd:Option Addr}{k0 k1 k2 k3 k5:Option Value}{newId:String}
theorem raiseX{x:Sem Value}{Q:Flow->Shared->Prop}(hh:A.handled=none)
  (h:wpAny M A x (fun v s₁=>∃e t di nm q C N bs bm hdct sn sub ab col dd k0 k1 k2 k3 k5 newId,v=.ref e/\s₁.heap.get? C=some (excClassObj nm q C N bs bm hdct sn sub ab col dd k0 k1 k2 k3 k5 newId)/\bm.contains (.type "BaseException")=true /\
   s₁.heap.get? e=some { cls:=.ref C,dict:=di,data:=.fields #[.ref t,.none,.none,.none,.bool false,.none] }/\E (.ref e) s₁) E s) :
  wpAny M A (raiseStmt env (some x) none) Q E s:=by
 unfold raiseStmt;refine wpAny_bind (wpAny_mono h (fun v s₁ h₁=>?_) fun _ _ x=>x);obtain⟨e,t,di,nm,q,C,N,bs,bm,hdct,sn,sub,ab,col,dd,k0,k1,k2,k3,k5,newId,rfl,hC,hbase,he,hE⟩:=h₁;have hcB:(Value.ref C::bm).contains (.type "BaseException")=true:=by rw[qB2,hbase,qCp]
 obtain⟨hp,g,d,tk,os⟩:=s₁
 repeat (first|with_reducible refine wpAny_loadPart_at he ?_|with_reducible refine wpAny_loadPart_at hC ?_|(with_reducible refine wpAny_isSubtype_exc hC ?_;rw[hcB])|wp_step)
 exact wpAny_raiseNew_none hh hE
theorem RaiseX{x:Expr}{pos:Pos}{Q:Flow->Shared->Prop}(hh:A.handled=none)
  (h:wpAny M A (eval x env) (fun v s₁=>∃e t di nm q C N bs bm hdct sn sub ab col dd k0 k1 k2 k3 k5 newId,v=.ref e/\s₁.heap.get? C=some (excClassObj nm q C N bs bm hdct sn sub ab col dd k0 k1 k2 k3 k5 newId)/\bm.contains (.type "BaseException")=true /\
   s₁.heap.get? e=some { cls:=.ref C,dict:=di,data:=.fields #[.ref t,.none,.none,.none,.bool false,.none] }/\E (.ref e) s₁) E s) :
  wpAny M A (exec (.Raise (some x) none pos) env) Q E s:=by
 rw[arm_exec_Raise]
 first
  |exact wpAny_bind (wpAny_standAt (raiseX hh (wpAny_bind (wpAny_mono h (fun v s₁ h₁=>wpAny_bind (wpAny_standAt (wpAny_pure h₁))) fun _ _ x=>x))))
  |(simp only[evalOpt,Option.map];exact wpAny_bind (wpAny_standAt (raiseX hh (wpAny_bind (wpAny_mono h (fun v s₁ h₁=>wpAny_bind (wpAny_standAt (wpAny_pure h₁))) fun _ _ x=>x)))))
  |(show wpAny M A (do standAt pos;raiseStmt env (some (do let v <- eval x env;standAt pos;pure v)) none) Q E s;exact wpAny_bind (wpAny_standAt (raiseX hh (wpAny_bind (wpAny_mono h (fun v s₁ h₁=>wpAny_bind (wpAny_standAt (wpAny_pure h₁))) fun _ _ x=>x)))))
end
section
open PySem.W
variable{prog:Program}{w:World}{A:Around}{E:Value->Shared->Prop}{K:Frag}{x C:Addr}{ox:Obj}{od:Option Obj}{name:Str}{expr fill:Bool}{h:Heap}{g:Array GenState}{d:Drawn}{t:Nat}{os:OsState}
theorem zMM{M:Model}{nameV:Value}{Q:Unit->Shared->Prop}(X:K.In h)(hc:xcIn K C=true)(I:InstAt h x ox C od)(hq:Q () ⟨h,g,d,t,os⟩):wpAny M A (checkBuiltinCall "BaseException.__getattribute__" ⟨[.ref x,nameV],[]⟩) Q E ⟨h,g,d,t,os⟩:=by
 obtain⟨nm,qn,N,bs,bm,hdct,sn,sub,ab,col,dd,k0,k1,k2,k3,k5,hC,ht⟩:=xc_cls X hc;have hk:builtinKind "BaseException.__getattribute__" = some .slot:=by decide +kernel
 have hsplit:splitId "BaseException.__getattribute__" = some ("BaseException","__getattribute__"):=by decide +kernel
 have hcB:(Value.ref C::bm).contains (.type "BaseException")=true:=by rw[qB2,exc_con ht (T:="BaseException") (b:=true) (by decide)];rfl
 have ha:=F.args_bexc_ga (.ref x) nameV;simp only[checkBuiltinCall,hk,hsplit];refine wpAny_bind ?_
 ·unfold isInstance;have hx:=I.at_;have hcl:=I.cls
  repeat (first|(with_reducible refine wpAny_loadPart_at hx ?_;rw[hcl])|(with_reducible refine wpAny_isSubtype_exc hC ?_;rw[hcB])|wp_step)
  exact hq
end
end PySem.Xc
namespace L2
open PySem PySem.Spec PyProof.Rows
def XN(e:Addr)(C:Value)(d:Option Addr)(h:Heap):Prop:=∃t1,h.get? e=some { cls:=C,dict:=d,data:=.fields #[.ref t1,.none,.none,.none,.bool false,.none] }
abbrev xn(e:Addr)(C:Value)(d:Option Addr):HO:=.ext (XN e C d)
theorem zPI{e:Addr}{C:Value}{d:Option Addr}(h1 h2:Heap)(x:XN e C d h1)(k:∀o,h1.get? e=some o->h2.get? e=some o):XN e C d h2:=let⟨t1,a⟩:=x;⟨t1,k _ a⟩
theorem zPH{e:Addr}{C:Value}{d:Option Addr}(h1 h2:Heap)(x:XO e C d h1)(k:∀o,h1.get? e=some o->h2.get? e=some o):XO e C d h2:=let⟨oe,vs,a,r⟩:=x;⟨oe,vs,k _ a,r⟩
theorem zUP{P:Program}{w:World}{H:Hp}{h:Heap}{e:Addr}{C:Value}{d:Option Addr}(x:XN e C d h):ObjOk P w H h e (xn e C d):=⟨x,let⟨t1,a⟩:=x;⟨_,a⟩,zPI⟩
theorem zUO{P:Program}{w:World}{H:Hp}{h:Heap}{e:Addr}{C:Value}{d:Option Addr}(x:XO e C d h):ObjOk P w H h e (xo e C d):=⟨x,let⟨oe,vs,a,_⟩:=x;⟨_,a⟩,zPH⟩
section
variable{X:Cx}{pins:List (Addr×Obj)}{σ:St}{H:Hp}{s:Shared}{k:Nat}{f C:Addr}{fd:FuncData}{ps:List Str}{sp:Sp}{x:Str}{p pos:Pos}{e:Expr}{es:List Expr}{t:TA}{te:TE}
def zJ3(C:Addr)(t:TA):TE:=fun σ H Q=>t σ H fun vs H1=>vs.length<=sizeLine/\∀e,H1 e=none->Q (.ref e) (upd H1 e (xn e (.ref C) none))
theorem Inv.madeX{h':Heap}{e:Addr}{us:List Value}(I:Inv X pins σ H s)(m:Heap.MadeExcOf s.heap h' e (.ref C) us)(hs:s.heap.objs.size<=e):H e=none/\Inv X pins σ (upd H e (xn e (.ref C) none)) { s with heap:=h' }:=by
 obtain⟨t1,h1,_⟩:=m.there;exact⟨I.hok.fresh hs,I.laid (t':=s.toks) m.keeps hs (zUP ⟨t1,h1⟩)⟩
theorem zKI{Q:VK}{us:List Value}{vs:List V}(hc:PySem.W.xcIn X.K C=true)(hi:qAi X.K (.ref C) "__init__" = some (some (.builtin "ValueError.__init__")))
  (I:Inv X pins σ H s) (r:Vals vs us) (hz:vs.length<=sizeLine) (h:∀e,H e=none->Q (.ref e) (upd H e (xn e (.ref C) none))):wpAny (model X.prog X.w) X.A (call (.ref C) us) (EP X pins σ Q) X.xe s:=by
 obtain⟨nm,qn,N,bs,bm,hdct,sn,sub,ab,col,dd,k0,k1,k2,k3,k5,hC,ht⟩:=PySem.W.xc_cls I.kIn hc;have hus:us.length<=sizeLine:=by rw[<- r.length];exact hz
 have key:∀h' e,Heap.MadeExcOf s.heap h' e (.ref C) us->s.heap.objs.size<=e->EP X pins σ Q (.ref e) { s with heap:=h' }:=by
  intro h' e m hs;obtain⟨he,I2⟩:=I.madeX m hs;exact⟨.ref e,_,I2,rfl,h e he⟩
 have hK:=PySem.W.looks_findIn (M:=model X.prog X.w) I.kIn hi;obtain⟨hh,g,d,tk,os⟩:=s;exact Xc.callX PySem.F.excBase_ValueError (PySem.W.exc_con ht (by decide)) (PySem.W.exc_con ht (by decide)) (PySem.W.exc_con ht (by decide)) hC hK key hus
theorem zLL(hc:PySem.W.xcIn X.K C=true)(hi:qAi X.K (.ref C) "__init__" = some (some (.builtin "ValueError.__init__")))(hg:Gl X x)(hm:X.mg x=some (.ref C))(hk:qAp X.K (.ref C)=true)
  (ha:PA X (e::es) t) (hdb:(x==("__debug__":Str))=false:=by decide) (he:starEach (e::es) X.env=(false,eval e X.env)::starEach es X.env:=by rfl) (hpl:(backTo pos (starEach es X.env)).any (·.1)=false:=by rfl) :
  PE X (.Call (.Name x p) (e::es) [] pos) (zJ3 C t):=by
 intro pins s σ H Q I h;refine wpAny_Call_Name_kw (zEC I hg hm ?_ hdb);refine qC2 (h₀:=X.base) I.ok.mod.kin hk (thn (ha pos pins s σ H _ I h) fun us s1 ⟨vs,H1,I1,r,z,q⟩=>⟨I1.kIn,?_⟩) he hpl;exact zKI hc hi I1 r z q
theorem Inv.xn{e:Addr}{d:Option Addr}{Cv:Value}(I:Inv X pins σ H s)(h:H e=some (xn e Cv d)):XN e Cv d s.heap:=(I.hok e _ h).1
theorem XN.xo{h:Heap}{e:Addr}{d:Option Addr}{Cv:Value}(x:XN e Cv d h):XO e Cv d h:=let⟨t1,a⟩:=x;⟨_,_,a,rfl,rfl,rfl,by simp⟩
theorem Inv.raised{e:Addr}{d:Option Addr}(I:Inv X pins σ H s)(h:H e=some (L2.xn e (.ref C) d))(E:XK)(q:E (.ref e) d (upd H e (xo e (.ref C) d))):XP X pins σ E (.ref e) s:=by
 have x:=I.xn h;obtain⟨t1,a⟩:=id x;have I':Inv X pins σ (upd H e (xo e (.ref C) d)) s:=I.write (t':=s.toks) (h':=s.heap) (e:=e) (by rw[h];trivial) (.inl rfl) (fun _ _ _ q=>q) ⟨_,a⟩ (zUO x.xo);exact⟨s.heap.objs.size,e,.ref C,d,_,rfl,I',⟨zAH,.inl ⟨_,_,a,rfl,rfl,rfl,rfl⟩⟩,I.sz,qA4 _,I.pinlt,q⟩
def Flies(X:Cx)(E:XK):Prop:=∀(pins:List (Addr×Obj))(σ:St)(x:Value)(s':Shared),XP X pins σ E x s'->X.xe x s'
theorem Flies.passes{E:XK}(h:Flies X E):zKE (CXe X.prog X.w) X E:=fun pins σ H s x s' I q=>h pins σ x s' (I.flown q)
def zOM(K:qA0)(E:XK)(te:TE):TS:=fun _ σ H=>te σ H fun v H1=>∃e C d,v=.ref e/\H1 e=some (L2.xn e (.ref C) d)/\PySem.W.xcIn K C=true/\E (.ref e) d (upd H1 e (xo e (.ref C) d))
theorem zJX{E:XK}(he:PE X e te)(hf:Flies X E)(hc:X.calm=true):PS X (.Raise (some e) none pos) (zOM X.K E te):=by
 intro pins s σ H D I h;refine Xc.RaiseX (I.ok.hd hc) (thn (he pins s σ H _ I h) fun v s1 z0=>?_);obtain⟨y,H1,I1,ry,a,C,d,ey,ha,hx,q⟩:=z0;subst ey;cases ry;obtain⟨t1,hg⟩:=I1.xn ha;obtain⟨nm,qn,N,bs,bm,hdct,sn,sub,ab,col,dd,k0,k1,k2,k3,k5,hC,ht⟩:=PySem.W.xc_cls I1.kIn hx;exact⟨a,t1,d,nm,qn,C,N,bs,bm,hdct,sn,sub,ab,col,dd,k0,k1,k2,k3,k5,_,rfl,hC,PySem.W.exc_con ht (by decide),hg,hf pins σ _ _ (I1.raised ha E q)⟩
structure XBase(K:qA0)(B:Addr):Prop where
 ga:qBs K (.ref B) "__getattribute__" = some (some (.builtin "type.__getattribute__"))
 rd:PySem.W.readsIn K B (.type "type")=true
 fd:PySem.W.findCls K (.ref B) (.type "type") "__init__" = some (.val (.builtin "ValueError.__init__"))
 hi:PySem.W.handedIn (.builtin "ValueError.__init__")=true
structure XSet(K:qA0)(C:Addr)(f:Str):Prop where
 st:qAi K (.ref C) "__setattr__" = some (some (.builtin "object.__setattr__"))
 ov:PySem.W.excOver K C=true
 tk:PySem.W.takerIn K C f=some none
 hd:(qBf K C).any (·.hasDict)=true
end
end L2
namespace PySem.Xc
open PySem PySem.W
section
variable{prog:Program}{w:World}{A:Around}{E:Value->Shared->Prop}{K:Frag}{x C:Addr}{ox:Obj}{od:Option Obj}{name:Str}{expr fill:Bool}{h:Heap}{g:Array GenState}{d:Drawn}{t:Nat}{os:OsState}
theorem zKU{Q:Option Value->Shared->Prop}(X:K.In h)(I:InstAt h x ox C od)(hc:xcIn K C=true)(hga:findIn K (.ref C) "__getattribute__" = some (some (.builtin "BaseException.__getattribute__")))(hgg:findIn K (.ref C) "__getattr__" = some none)
  (hf:findObj K C od "__class__" = some (.bind (.builtin "getset_descriptor.__get__") (.builtin "object.__class__"))) (hm:mroIn K C (.type "object")=some true) (hq:Q (some (.ref C)) ⟨h,g,d,t+1,os⟩):wpAny (model prog w) A (getAttr? (.ref x) "__class__") Q E ⟨h,g,d,t,os⟩:=by
 have f3:=F.excAttr_ValueError.ga.bind (.ref x);have hx2:(Value.builtin "BaseException.__getattribute__" == Value.builtin "object.__getattribute__")=false:=by decide +kernel
 have hx1:(onTheHeap (Value.ref C)&&Value.builtin "BaseException.__getattribute__" == Value.builtin "object.__getattribute__")=false:=by rw[hx2];rfl
 have L0:=I.type (M:=model prog w);have L1:=looks_findIn (M:=model prog w) X hga;have L2:=looks_findIn (M:=model prog w) X hgg;have hx:=I.at_;have hcl:=I.cls;unfold getAttr?
 repeat (any_goals (first|assumption|(with_reducible refine wpAny_loadPart_at hx ?_;rw[hcl])|with_reducible refine L1.at ?_|with_reducible refine L2.at ?_|wp_step))
 refine codeAny_call_builtin F.excAttr_ValueError.ga.plain F.entry_bexc_ga (zMM (h:=h) X hc I ?_);have L3:=looks_find (M:=model prog w) X I hf;unfold Builtin.«object.__getattribute__»;refine wpAny_bind (wpAny_pure (wpAny_bind (wpAny_pure (wpAny_bind (L0.at (wpAny_bind (L3.at ?_)))))));show wpAny _ _ (Builtin.ObjectAttr.bindTo (.builtin "getset_descriptor.__get__") (.builtin "object.__class__") (.ref x) (.ref C)) _ _ _;unfold Builtin.ObjectAttr.bindTo;refine wpAny_bind (wpAny_holding (wpAny_call (class_get (s:=⟨h,g,d,t+1,os⟩) (ox:=ox) (od:=od) X I hm ?_)));exact wpAny_pure (handed_on rfl (wpAny_pure hq))
theorem zH2{a g:Value}(hc:(clsIn K C).isSome=true)(ha:findIn K (.ref C) name=some (some a))(hg:specialIn K a "__get__" = some (some g))(ht:takesIn K a=some true):findObj K C od name=some (.bind g a):=by
 obtain⟨cd,hc⟩:=qBz.mp hc;unfold findObj;rw[hc,qD8,ha,qD8];simp only[hg,qD8,ht]
end
structure XIs(K:Frag)(C:Addr):Prop where
 xc:xcIn K C=true
 ga:findIn K (.ref C) "__getattribute__" = some (some (.builtin "BaseException.__getattribute__"))
 gg:findIn K (.ref C) "__getattr__" = some none
 hd:hasDictIn K C=true
 ca:findIn K (.ref C) "__class__" = some (some (.builtin "object.__class__"))
 cg:specialIn K (.builtin "object.__class__") "__get__" = some (some (.builtin "getset_descriptor.__get__"))
 ct:takesIn K (.builtin "object.__class__")=some true
 mo:mroIn K C (.type "object")=some true
theorem kitx_exc{K:Frag}{x C:Addr}(c:XIs K C):KitX K (.ref x) (.ref C) (fun h=>∃ox od,InstAt h x ox C od) where
 ty:=fun _ _ _ ⟨_,_,I⟩=>I.type
 it:=fun _ _ X _=>by
  obtain⟨cdD,hcD,_⟩:=any_some c.hd;unfold clsIn at hcD
  split at hcD
  ·rename_i c' d' cd' sl' ho
   intro A' Q' E' s' k q;unfold isType loadHead;exact wpAny_bind (wpAny_loadPart (k _ _ (X _ _ ho)) (wpAny_pure q))
  ·cases hcD
 ne:=fun h tp dd its n sl X htp=>by
  obtain⟨cdD,hcD,_⟩:=any_some c.hd;refine Bool.eq_false_iff.mpr fun q=>?_
  have e:C=tp:=Value.ref.inj (beq_iff_eq.mp q);subst e;unfold clsIn at hcD
  split at hcD
  ·rename_i c' d' cd' sl' ho
   have z:=(X _ _ ho).symm.trans htp;cases z
  ·cases hcD
 ca:=fun{_ _ _ _ _ s} X ⟨_,_,I⟩ k=>by
  obtain⟨cd,hc,_⟩:=any_some c.hd;obtain⟨h,g,d,t,os⟩:=s;exact zKU X I c.xc c.ga c.gg (zH2 (by rw[hc];rfl) c.ca c.cg c.ct) c.mo k
end PySem.Xc
namespace L2
open PySem PySem.Spec PyProof.Rows
section
variable{X:Cx}{pins:List (Addr×Obj)}{σ:St}{H:Hp}{s:Shared}{C e d:Addr}{f:Str}{pos:Pos}{ta:TE}
def isX(H:Hp)(e C:Addr)(d:Option Addr):Prop:=H e=some (xn e (.ref C) d)\/H e=some (xo e (.ref C) d)
theorem Inv.isX{d:Option Addr}(I:Inv X pins σ H s)(h:L2.isX H e C d):XO e (.ref C) d s.heap:=by
 rcases h with h|h
 ·exact(I.xn h).xo
 ·exact(I.hok e _ h).1
theorem Inv.instX0{d:Option Addr}(I:Inv X pins σ H s)(h:L2.isX H e C d)(hd:∀a,d=some a->∃fs,H a=some (.xd fs)):∃ox od,qF5 s.heap e ox C od:=by
 obtain⟨oe,vs,h1,h2,h3,h4,_⟩:=I.isX h;have nc:qF6 oe=true:=by unfold qF6;rw[h4]
 cases d with
 |none=>exact⟨oe,none,h1,h2,nc,by rw[h3];trivial⟩
 |some a=>
  obtain⟨fs,ha⟩:=hd a rfl;obtain⟨mA,hn,_⟩:=I.hok a _ ha;obtain⟨od,ho,_⟩:=zI6 hn;exact⟨oe,some od,h1,h2,nc,by rw[h3];exact ho⟩
noncomputable def clsV:List V->Option (List Value)
 |[]=>some []
 |.ref a::r=>(clsV r).map (Value.ref a::·)
 |.ty n::r=>(clsV r).map (Value.type n::·)
 |_::_=>none
theorem zJJ:∀{xs:List V}{its us:List Value},clsV xs=some its->Vals xs us->us=its
 |[],_,_,h,.nil=>by cases h;rfl
 |.ref a::r,its,_,h,.cons q t=>by
  obtain⟨l,hl,rfl⟩:=qDb.mp (show(clsV r).map (Value.ref a::·)=some its from h);rw[zJJ hl t];cases q;rfl
 |.ty n::r,its,_,h,.cons q t=>by
  obtain⟨l,hl,rfl⟩:=qDb.mp (show(clsV r).map (Value.type n::·)=some its from h);rw[zJJ hl t];cases q;rfl
def zPS(K:qA0):List V->Hp->VK->Prop:=fun vs H Q=>∃e C d y b,vs=[.ref e,y]/\L2.isX H e C d/\(∀a,d=some a->∃fs,H a=some (.xd fs))/\Xc.XIs K C/\Q (.bl b) H /\
 ((∃c,y=.ref c/\qAy K (.ref C) (.ref c)=some b)\/(∃n,y=.ty n/\qAy K (.ref C) (.type n)=some b)\/∃p xs its,y=.ref p/\H p=some (.tup xs)/\clsV xs=some its/\PySem.W.kitAny K (.ref C) its=some b)
theorem zFV:zC5 X (.builtin "isinstance") (zPS X.K):=by
 intro pins s σ H vs us Q I r h;obtain⟨e,C,d,y,b,rfl,hx,hd,c,q,hy⟩:=h;cases r with
 |cons r1 r2=>
  cases r2 with
  |cons ry r3=>
   cases r3;cases r1;have P:=I.instX0 hx hd
   rcases hy with⟨c',rfl,hk⟩|⟨n,rfl,hk⟩|⟨p,xs,its,rfl,hp,rv,hk⟩
   ·cases ry;exact qAt (Xc.kitx_exc c) I.kIn P hk (fun z=>nomatch z) fun tk=>⟨.bl b,H,I.tok tk,rfl,q⟩
   ·cases ry;exact qAt (Xc.kitx_exc c) I.kIn P hk (fun z=>nomatch z) fun tk=>⟨.bl b,H,I.tok tk,rfl,q⟩
   ·cases ry;obtain⟨_,us',r',ob,h1,h2,n,h3⟩:=I.hok p _ hp;obtain⟨oc,od,odt,osl⟩:=ob;dsimp only at h2 h3;subst h2 h3;rw[zJJ rv r']at h1;exact PySem.W.kia_tup (Xc.kitx_exc c) I.kIn P h1 hk (fun z=>nomatch z) fun tk=>⟨.bl b,H,I.tok tk,rfl,q⟩
end
end L2
namespace L2
open PySem PySem.Spec PyProof.Rows
def HasX(P:Program)(w:World)(K:qA0)(mg:Str->Option Value)(base:Heap)(x:Str)(k:Nat)(ps:List Str)(sp:Sp):Prop:=
 ∃f fd,FnOk P w K mg base (CXe P w) k f fd ps sp/\mg x=some (.ref f)/\qAp K (.ref f)=true/\Binds K fd ps []
section
variable{P:Program}{w:World}{K:qA0}{mg:Str->Option Value}{base:Heap}{x:Str}{k:Nat}{ps N:List Str}{sp sp':Sp}{st:Stmt}
theorem Fun.okX{y qual:Str}{f:Addr}{fd:FuncData}(F:Fun K y qual st f fd)(S:FnScope N ps (zA5 st))(len:∀vs H Q E,sp vs H Q E->vs.length=ps.length)
  (hbody:∀(cdv:Value)(A:Around)(outer:List Env)(s:Shared)(H:Hp)(vs:List V)(Q:VK)(E:XK),Room k (A.deeper (envOfC qual (zA5 st) s.heap.objs.size f cdv))->sp vs H Q E ->
   ∃t,PSs (cxOf (CXe P w) P w K mg base N qual (zA5 st) f cdv A outer s H E) (zAR st) t/\t { nx:=fun _ H'=>Q .non H',rt:=Q } (start N vs) H):FnOk P w K mg base (CXe P w) (k+1) f fd ps sp:=by
 obtain⟨oc,od,kV,doc,pm,an,cdv,ct,osl,rfl,lk,hcd⟩:=F.ex;exact zO7 lk hcd S len fun A outer s H vs Q E hr hsp=>hbody cdv A outer s H vs Q E hr hsp
theorem Def.okX(D:Def K mg x st)(S:FnScope N ps (zA5 st))
  (hb:∀(kV doc pm:Value)(an:Option Addr)(cdv ct:Value)(us:List Value),us.length=ps.length->bindArgs (qAw x x (zBL st) (zAR st) (zA5 st) .none kV doc pm an cdv ct) ⟨us,[]⟩=pure (ps.zip us))
  (len:∀vs H Q E,sp vs H Q E->vs.length=ps.length)
  (hbody:∀(f:Addr)(cdv:Value)(A:Around)(outer:List Env)(s:Shared)(H:Hp)(vs:List V)(Q:VK)(E:XK),Room k (A.deeper (envOfC x (zA5 st) s.heap.objs.size f cdv))->sp vs H Q E ->
   ∃t,PSs (cxOf (CXe P w) P w K mg base N x (zA5 st) f cdv A outer s H E) (zAR st) t/\t { nx:=fun _ H'=>Q .non H',rt:=Q } (start N vs) H):HasX P w K mg base x (k+1) ps sp:=by
 obtain⟨f,fd,F,m⟩:=D;exact⟨f,fd,F.okX S len (fun cdv A outer s H vs Q E hr h=>hbody f cdv A outer s H vs Q E hr h),m,F.kp,F.binds hb⟩
theorem zDZ{qual:Str}{scope:Scope}{f:Addr}{cd:Value}{A:Around}{outer:List Env}{s:Shared}{H:Hp}{E:XK}:Flies (cxOf (CXe P w) P w K mg base N qual scope f cd A outer s H E) E:=fun _ _ _ _ h=>zQV (fun _ _ _ z=>z) h
end
section
variable{X:Cx}{x:Str}{j k:Nat}{ps:List Str}{sp:Sp}{e:Expr}{es:List Expr}{t:TA}{p pos:Pos}{E:XK}
theorem zTB:Flies X E0:=fun _ _ _ _ z0=>by
 obtain⟨_,_,_,_,_,_,_,_,_,_,_,h⟩:=z0;exact h.elim
theorem zLN(h:HasX X.prog X.w X.K X.mg X.base x j ps sp)(hjk:j<=k)(hr:Room k X.A)(hf:Flies X E)(hg:Gl X x)(ha:PA X (e::es) t)(hdb:(x==("__debug__":Str))=false:=by decide)
  (he:starEach (e::es) X.env=(false,eval e X.env)::starEach es X.env:=by rfl) (hpl:(backTo pos (starEach es X.env)).any (·.1)=false:=by rfl):PE X (.Call (.Name x p) (e::es) [] pos) (zG1 sp [] E t):=by
 obtain⟨f,fd,G,m,kp,b⟩:=h;exact zLO G (hr.mono hjk) hg m kp b .nil hf.passes ha hdb he hpl
theorem zSA(h:HasX X.prog X.w X.K X.mg X.base x j ps sp)(hjk:j<=k)(hr:Room k X.A)(hg:Gl X x)(ha:PA X.nox (e::es) t)(hdb:(x==("__debug__":Str))=false:=by decide)
  (he:starEach (e::es) X.env=(false,eval e X.env)::starEach es X.env:=by rfl) (hpl:(backTo pos (starEach es X.env)).any (·.1)=false:=by rfl):PEx X (.Call (.Name x p) (e::es) [] pos) (fun σ H Q E=>zG1 sp [] E t σ H Q):=by
 obtain⟨f,fd,G,m,kp,b⟩:=h;exact zNM G (hr.mono hjk) hg m kp b .nil ha hdb he hpl
theorem zOW{C:Addr}(hg:Gl X x)(hm:X.mg x=some (.ref C))(hdb:(x==("__debug__":Str))=false:=by decide):PE X (.Name x pos) (tC (.ref C)):=fun pins s σ H Q I h=>zEC I hg hm ⟨.ref C,H,I,rfl,h⟩ hdb
end
end L2
namespace Att
open PySem PySem.W PySem.Calls PyProof.Rows
theorem zPJ{ns:List Int}(h:WData.weightAll (ns.map WData.int)<=2 ^ 20):∀i∈ns,i.natAbs.log2<2 ^ 20:=by
 induction ns with
 |nil=>intro i hi;cases hi
 |cons n r ih=>
  rw[qAl,WData.weightAll]at h;intro i hi
  rcases qAk.mp hi with rfl|hi
  ·rw[WData.weight]at h
   split at h
   ·rename_i z
    have:i=0:=beq_iff_eq.mp z
    subst this
    decide
   ·lia
  ·exact ih (by lia) i hi
theorem attach_callW{l:OpenLaw}{n:Nat}{q:Program}{loose:List Str}{XP:(Str->Option Value)->Heap->Prop}{YP:World->Heap->Prop}{d:DefRec}
  (hn:l.most=some n) (hdf:d.params.defaults=[])
  (call:∀(w:World)(s₀ s₁:Shared)(mg mb:Str->Option Value)(fa:Addr)(o:Obj)(pm cd doc:Value)(a:Addr)(vs:List Value)(ns:List Int),
   Ground q loose [] XP w s₀ mg mb s₁.heap->YP w s₁.heap ->
   s₁.heap.get? fa=some o->o.data=.func (docDef d.name d.params d.body d.scope pm cd doc)->s₁.heap.CodeRec cd d.name->mg d.name=some (.ref fa) ->
   s₁.heap.get? a=some { cls:=.type "list",data:=.seq vs.toArray }->IntsAre vs ns->ns.length<=n->(∀i∈ns,i.natAbs.log2<2 ^ 20)->s₁.gens=#[] ->
   codeAny (model l.prog w) callerA (.call (.ref fa) ⟨[.ref a],[]⟩) (fun r s'=>r=.ok (.ret (.bool true))/\OldK s₁.heap s'.heap/\s'.os=s₁.os/\AllBare s'.gens) s₁) :
  WalkO q loose XP YP l.row.toRowW d [] (fun f vs=>qEb f vs):=by
 intro w s₀ s₁ mg mb G Y fa o pm cd doc dV kV ho hd hcd hD hmg hg args vals as hpre hlay hrd hwl hlo;obtain rfl:dV=.none:=Dflts.none hD hdf;obtain rfl:kV=.none:=Dflts.noKw hD;obtain⟨a,vs,ns,rfl,rfl,hobj,hints,hlen⟩:=zL9 hn hpre hwl;have hw:∀i∈ns,i.natAbs.log2<2 ^ 20:=by
  have hl:WData.layableAll [WData.list (ns.map WData.int)]=true:=hlay;simp only[WData.layableAll,qC3,List.all_nil,qD1,WData.layable,qAs,decide_eq_true_eq]at hl;exact zPJ (by have:=hl.2;rw[WData.weight]at this;exact this)
 refine enter_call (codeAny_mono (call w s₀ s₁ mg mb fa o pm cd doc a vs ns G Y ho (fd_plain hd) hcd hmg hobj hints hlen hw hg) fun r s' hq=>?_);obtain⟨rfl,h2,h3,h4⟩:=hq;exact⟨.inl ⟨.bool true,.bool true,[],rfl,fun _=>rfl,.bool true,zLF l _,fun _=>⟨qE8,fun _ hm=>(nomatch hm)⟩⟩,h2,h3,h4⟩
end Att
namespace L2
open PySem PySem.Spec PyProof.Rows
def MulOk(i j:Int):Prop:=((-(2 ^ 64)<i/\i<2 ^ 64)\/(-(2 ^ 64)<j/\j<2 ^ 64))\/i.natAbs.log2+j.natAbs.log2<=67108864
theorem zMQ(i:Int):Builtin.Int.intBits i<=i.natAbs.log2+1:=by
 unfold Builtin.Int.intBits
 split<;>lia
theorem MulOk.ok{i j:Int}(h:MulOk i j):IntMulOk i j:=by
 rcases h with h|h
 ·exact CMul.ok h
 ·unfold IntMulOk;have h1:=zMQ i;have h2:=zMQ j;have h3:Builtin.Int.intTooBig ((Builtin.Int.intBits i:Int)+(Builtin.Int.intBits j:Int))=false:=by
   unfold Builtin.Int.intTooBig
   have:(bitsLine:Int)=134217728:=by decide
   rw[this];simp only[gt_iff_lt,decide_eq_false_iff_not,Int.not_lt]
   lia
  rw[h3,qBv];exact qAb
section
variable{X:Cx}
noncomputable def zRT:R2:=fun x y H Q=>match x,y with
 |.int i,.int j=>MulOk i j/\Q (.int (i*j)) H
 |_,_=>False
theorem zQ1:OpR X (binaryOp .Mult) (rI MulOk fun i j=>.int (i*j)):=opI fun _ _ _ _ _ _ _ hc q=>mul_int q hc.ok
theorem zDR:OpR X (binaryOp .Mult) zRT:=by
 intro pins s σ H x y v u Q I rx ry h;cases x<;>cases y<;>first
  |exact zQ1 pins s σ H _ _ v u Q I rx ry ⟨_,_,rfl,rfl,h.1,h.2⟩
  |exact qA3 h
noncomputable def zRY:R2:=fun x y H Q=>match x,y with
 |.int i,.int j=>(0<j/\j<1000000000000000000000000)/\Q (.int (i/j)) H
 |_,_=>False
theorem log2_lt{n:Nat}(h:n<1000000000000000000000000):n.log2<9000:=by
 by_cases z:n=0
 ·subst z;decide
 ·have h2:n<2 ^ 80:=by lia
  have:=(Nat.log2_lt z).mpr h2
  lia
theorem zQ2:OpR X (binaryOp .FloorDiv) (rI (fun _ j=>0<j/\j<1000000000000000000000000) fun i j=>.int (i/j)):=opI fun i j _ _ _ _ _ hc q=>by
 have h1:(0:Int)<j:=hc.1;have h2:j<1000000000000000000000000:=hc.2;exact floordiv_int (by lia) (by rw[Int.fdiv_eq_ediv_of_nonneg i (by lia)];exact q) (.inl (PyProof.noPylong_of_log2 (log2_lt (by lia))))
theorem zR3:OpR X (binaryOp .FloorDiv) zRY:=by
 intro pins s σ H x y v u Q I rx ry h;cases x<;>cases y<;>first
  |exact zQ2 pins s σ H _ _ v u Q I rx ry ⟨_,_,rfl,rfl,h.1,h.2⟩
  |exact qA3 h
end
end L2
namespace L2
open PySem PySem.Spec PyProof.Rows
noncomputable def del(H:Hp)(a:Addr):Hp:=fun b=>if b=a then none else H b
theorem zE3{H:Hp}{a:Addr}:del H a a=none:=by unfold del;rw[if_pos rfl]
theorem zB8{H:Hp}{a b:Addr}(h:b≠a):del H a b=H b:=by unfold del;rw[if_neg h]
theorem zK6{H:Hp}{a b:Addr}{o:HO}(h:del H a b=some o):b≠a/\H b=some o:=by
 by_cases z:b=a
 ·subst z;rw[zE3]at h;cases h
 ·rw[zB8 z]at h;exact⟨z,h⟩
theorem zCO{H:Hp}{a b:Addr}(h:H b=none):del H a b=none:=by
 by_cases z:b=a
 ·subst z;exact zE3
 ·rw[zB8 z];exact h
abbrev cel(co:Obj):HO:=.frz co (.ext fun _=>True)
theorem cel_ok{P:Program}{w:World}{H:Hp}{h:Heap}{a:Addr}{co:Obj}(e:h.get? a=some co):ObjOk P w H h a (cel co):=⟨e,trivial,⟨co,e⟩,fun _ _ _ _=>trivial⟩
section
variable{P:Program}{w:World}{H H':Hp}{h h':Heap}{a:Addr}{co:Obj}{fs:List Addr}
theorem HOk.known(x:HOk P w H h)(hn:H a=none)(hg:h.get? a=some co):HOk P w (upd H a (cel co)) h:=fun b u e=>by
 by_cases hb:b=a
 ·subst hb;rw[zAH]at e;cases e;exact cel_ok hg
 ·rw[zA9 hb]at e;exact(x b u e).stay (fun _ _ _ q=>q) (fun c q=>by rw[zA9 (zAG q hn)];exact q) (fun c xs q=>by rw[zA9 (zAG q hn)];exact q) fun c _ _ q _=>by rw[zA9 (zAG q hn)];exact q
theorem HOk.untrack(x:HOk P w H h)(hc:H a=some (cel co))(hd:∃v,co.data=.cell v):HOk P w (del H a) h:=fun b u e=>by
 obtain⟨hb,e⟩:=zK6 e;refine(x b u e).stay (fun _ _ _ q=>q) (fun c q=>?_) (fun c xs q=>?_) fun c o v q hf=>?_
 ·rw[zB8 (zI1 q hc (by simp))];exact q
 ·rw[zB8 (zI1 q hc (by simp))];exact q
 ·refine(zB8 ?_).trans q
  rintro rfl
  rw[q]at hc;cases hc;obtain⟨vs,hf⟩:=hf;obtain⟨v,hd⟩:=hd;rw[hf]at hd;cases hd
theorem Un.untrack(u:Un fs [] (upd H a (cel co)) H' h h')(hn:H a=none)(hg:h.get? a=some co)(hok:HOk P w H' h'):Un fs [] H (del H' a) h h':=by
 have fa:H' a=some (cel co):=u.frzs a co _ zAH;have ga:h'.get? a=some co:=(hok a _ fa).1;have ne:∀{b:Addr}{o:HO},H b=some o->b≠a:=fun e=>zAG e hn
 refine⟨fun b o q n hb hx=>?_,fun b o q n hb hx=>?_,fun b o q n hx=>?_,fun b o q hx=>u.there b o q hx,fun b xs q=>?_,fun b o v q=>?_,fun b ps q=>?_⟩
 ·by_cases z:b=a
  ·subst z;rw[hg]at q;cases q;exact ga
  ·exact u.keep b o q (by rw[zA9 z];exact n) hb hx
 ·by_cases z:b=a
  ·subst z;rw[hg]at q;cases q;exact⟨co.slots,ga⟩
  ·exact u.slot b o q (by rw[zA9 z];exact n) hb hx
 ·by_cases z:b=a
  ·subst z;exact zE3
  ·rw[zB8 z];exact u.free b o q (by rw[zA9 z];exact n) hx
 ·rw[zB8 (ne q)];exact u.tups b xs (by rw[zA9 (ne q)];exact q)
 ·rw[zB8 (ne q)];exact u.frzs b o v (by rw[zA9 (ne q)];exact q)
 ·rw[zB8 (ne q)];exact u.tbls b ps (by rw[zA9 (ne q)];exact q)
theorem Un.retrack(u:Un fs [] (del H a) H' h h')(hc:H a=some (cel co)):Un fs [] H (upd H' a (cel co)) h h':=by
 have ne:∀{b:Addr},H b=none->b≠a:=fun e z=>by subst z;rw[hc]at e;cases e
 refine⟨fun b o q n hb hx=>u.keep b o q (zCO n) hb hx,fun b o q n hb hx=>u.slot b o q (zCO n) hb hx,fun b o q n hx=>?_,fun b o q hx=>u.there b o q hx,fun b xs q=>?_,fun b o v q=>?_,fun b ps q=>?_⟩
 ·rw[zA9 (ne n)];exact u.free b o q (zCO n) hx
 ·have z:b≠a:=zI1 q hc (by simp);rw[zA9 z];exact u.tups b xs (by rw[zB8 z];exact q)
 ·by_cases z:b=a
  ·subst z;rw[zAH,<- hc,q]
  ·rw[zA9 z];exact u.frzs b o v (by rw[zB8 z];exact q)
 ·have z:b≠a:=zI1 q hc (by simp);rw[zA9 z];exact u.tbls b ps (by rw[zB8 z];exact q)
end
abbrev lamO(q:Str)(params:Arguments)(body:Expr)(scope:Scope)(clos:List (Str×Addr))(pm cdv ctv:Value):Obj:=
 { cls:=.type "function",data:=.func (qBx "<lambda>" q params body scope clos pm cdv ctv) }
theorem zMW{pos:Pos}{x y:Int}{c cv:Value}(l:List Value)(h:TriplesOk l)(e:codeAmong pos (l++[rawInt x,rawInt y,c])=some cv):codeAmong pos l=some cv\/cv=c:=by
 fun_induction TriplesOk l with
 |case1=>
  simp only[qDg,codeAmong,rawInt]at e
  split at e
  ·cases e;exact .inr rfl
  ·cases e
 |case2 a t b u z rest ih=>
  simp only[qD7,codeAmong]at e ⊢
  split at e
  ·cases e;rename_i hc;rw[if_pos hc];exact .inl rfl
  ·rename_i hc;rw[if_neg hc];exact ih h e
 |case3 l h1 h2=>exact h.elim
def tLam(P:Addr)(q:Str)(params:Arguments)(body:Expr)(scope:Scope)(clos:List (Str×Addr)):TE:=fun _ H Q=>
 H P=some (.lam q)/\∀f pm cdv ctv H1,H f=none->Same H H1->H1 f=some (.fn (lamO q params body scope clos pm cdv ctv) q)->Q (.ref f) H1
section
variable{X:Cx}
theorem zSE{params:Arguments}{body:Expr}{scope:Scope}{pos:Pos}{c P:Addr}{q:Str}{clos:List (Str×Addr)}(hdef:defaultsOf params X.env=([],[]))(hcode:X.env.code=.ref c)(C:PySem.W.CodeHd X.base c P)
  (hq:X.env.qual ++ "<lambda>" = q) (hcl:closureFor scope X.env=pure clos):PE X (.Lambda params body scope pos) (tLam P q params body scope clos):=by
 intro pins s σ H Q I ⟨hP,hQ⟩;refine PySem.W.kla_eval hdef ?_;rw[hq];obtain⟨ps,eP,tO,hrec⟩:=I.hok P _ hP;have C':=C.keeps I.bk;have hg:s.heap.Ns mainGlobals X.mg:=let⟨o,es,ep,e,r⟩:=I.ok.mod.glob;⟨o,es,ep,I.bk _ _ e,r⟩
 have hgP:mainGlobals≠P:=fun z=>by
  obtain⟨o,es,ep,e,r⟩:=I.ok.mod.glob
  have:=(I.bs _ _ e).2
  rw[z,hP]at this;cases this
 have hB:s.heap.BuiltinsAt X.mg P:=by
  obtain⟨bm,ob,e1,e2,e3,e4,e5,e6⟩:=I.ok.mod.bm;refine⟨bm,ob,e1,e2,fun z=>?_,fun z=>?_,I.bk _ _ e3,e4,e5,e6⟩
  ·obtain⟨o,es,ep,e,hd,_⟩:=I.ok.mod.glob;rw[z,e]at e3;cases e3;rw[hd]at e6;cases e6
  ·have:=(I.bs _ _ e3).2
   rw[z,hP]at this;cases this
 cases hit:codeAmong pos ps.toList with
 |some cv=>
  obtain⟨c2,oc,u,rfl,hc2,hcr⟩:=hrec pos cv hit;refine PySem.W.kla_makeFunctionHit hcl I.ok.glob hg hcode C' eP tO hit hB fun ctv h' tk hk hsz=>?_
  have hf:H h'.objs.size=none:=I.hok.fresh hsz;refine⟨.ref h'.objs.size,upd H h'.objs.size (.fn (lamO q params body scope clos ((X.mg "__name__").getD .none) (.ref c2) ctv) q),I.laid (t':=tk) (fun b u e=>Heap.get?_push_of_some _ (hk b u e)) hsz ?_,rfl,hQ h'.objs.size _ _ ctv _ hf (fun b o e=>(zA9 (zAG e hf)).trans e) zAH⟩;exact⟨Heap.get?_push_size _ rfl,_,c2,oc,u,rfl,rfl,by rw[zA9 (zAG hc2 hf)];exact hc2,hcr⟩
 |none=>
  refine PySem.W.kla_makeFunction hcl I.ok.glob hg hcode C' eP tO hit hgP hB fun c' ctv h' tk hx hge hlt hrec' htb=>?_
  obtain⟨c2,oc,vs,t,e2,hoc,hd,hv⟩:=hrec';cases e2;have hcr:CodR oc q:=⟨vs,t,hd,hv⟩
  have lt:∀{b:Addr}{o:HO},H b=some o->b<s.heap.objs.size:=fun e=>I.hok.lt e
  have n1:∀{b:Addr},b<s.heap.objs.size->b≠c':=fun z=>qAj (qA7 z hge)
  have n2:∀{b:Addr},b<s.heap.objs.size->b≠h'.objs.size:=fun z=>qAj (Nat.lt_trans (qA7 z hge) hlt)
  generalize hH1:upd (upd H c' (cel oc)) h'.objs.size (.fn (lamO q params body scope clos ((X.mg "__name__").getD .none) (.ref c') ctv) q)=H1
  have sm:Same H H1:=fun b o e=>by rw[<- hH1,zA9 (n2 (lt e)),zA9 (n1 (lt e))];exact e
  have ac:H1 c'=some (cel oc):=by rw[<- hH1,zA9 (qAj hlt),zAH]
  have af:H1 h'.objs.size=some (.fn (lamO q params body scope clos ((X.mg "__name__").getD .none) (.ref c') ctv) q):=by rw[<- hH1,zAH]
  have kp:∀b o,b≠P->s.heap.get? b=some o->(h'.push (PySem.W.kla_obj "<lambda>" q params body scope clos ((X.mg "__name__").getD .none) c' ctv)).get? b=some o:=fun b o z e=>Heap.get?_push_of_some _ (hx b o z e)
  have nP:∀{b:Addr},H b=none->b≠P:=fun e z=>by rw[z,hP]at e;cases e
  refine⟨.ref h'.objs.size,H1,I.un (t':=tk) ⟨fun b o e n _ _=>kp b o (nP n) e,fun b o e n _ _=>⟨o.slots,kp b o (nP n) e⟩,fun b o e n _=>?_,fun b o e _=>?_,fun b xs e=>sm _ _ e,fun b o u e=>sm _ _ e,fun b ts e=>⟨#[],by rw[sm _ _ e];simp⟩⟩ (fun b u e=>?_),rfl,hQ _ _ _ ctv H1 (I.hok.fresh (qAh hge (qBe hlt))) sm af⟩
  ·rw[<- hH1,zA9 (n2 (Heap.lt_size e)),zA9 (n1 (Heap.lt_size e))];exact n
  ·by_cases z:b=P
   ·subst z;exact⟨_,Heap.get?_push_of_some _ htb⟩
   ·exact⟨o,kp b o z e⟩
  ·by_cases zf:b=h'.objs.size
   ·subst zf;rw[af]at e;cases e;exact⟨Heap.get?_push_size _ rfl,_,c',oc,_,rfl,rfl,ac,hcr⟩
   ·by_cases zc:b=c'
    ·subst zc;rw[ac]at e;cases e;exact cel_ok (Heap.get?_push_of_some _ hoc)
    ·have e':H b=some u:=by rw[<- hH1,zA9 zf,zA9 zc]at e;exact e
     by_cases zP:b=P
     ·subst zP;rw[hP]at e';cases e';refine⟨_,Heap.get?_push_of_some _ htb,?_,fun pos' cv hcv=>?_⟩
      ·rw[qDr];exact TriplesOk_snoc _ _ _ _ tO
      ·rw[qDr]at hcv
       rcases zMW _ tO hcv with z|z
       ·obtain⟨c3,oc3,u3,z1,z2,z3⟩:=hrec pos' cv z;exact⟨c3,oc3,u3,z1,sm _ _ z2,z3⟩
       ·exact⟨c',oc,_,z,ac,hcr⟩
     ·refine(I.hok b u e').stay (fun c v hc r=>kp c v ?_ r) (fun c r=>sm _ _ r) (fun c xs r=>sm _ _ r) fun c o v r _=>sm _ _ r
      rcases hc with rfl|hc
      ·exact zP
      ·rintro rfl;rw[hP]at hc;cases hc
end
end L2
namespace L2
open PySem PySem.Spec PyProof.Rows
def zJT(sp:Sp)(cl:Addr)(i:Nat)(t:TA):TE:=fun σ H Q=>t σ H fun vs H1=>∃v,σ[i]?=some (some v) /\
 ∀co val,H1 cl=none->co.data=.cell (some val)->RelV v val->sp vs (upd H1 cl (cel co)) (fun w H2=>Q w (del H2 cl)) E0
section
variable{X:Cx}{k:Nat}{f cl:Addr}{fd:FuncData}{ps:List Str}{sp:Sp}{x nm:Str}{p pos:Pos}{e:Expr}{es:List Expr}{t:TA}{i:Nat}
theorem Inv.nocell{pins:List (Addr×Obj)}{σ:St}{H:Hp}{s:Shared}(I:Inv X pins σ H s)(hfn:X.fn nm=true)(hc:X.env.cells.lookup nm=some cl):∀b∈frs X.stack,b≠cl:=fun b hb z=>by
 subst z
 rcases qAk.mp (I.stkSub b hb)with z|z
 ·exact I.cne nm b hc z
 ·obtain⟨_,o,ho,_⟩:=I.ok.funs.mem z;exact absurd (qA7 (Heap.lt_size ho) (I.ok.cab nm b hfn hc)) (qB9 _)
theorem zNQ(F:FnOk X.prog X.w X.K X.mg X.base CX0 k f fd ps sp)(hr:Room k X.A)(hg:Gl X x)(hm:X.mg x=some (.ref f))(hk:qAp X.K (.ref f)=true)(hb:Binds X.K fd ps [])
  (ha:PA X (e::es) t) (hN:X.N[i]?=some nm) (hv:X.env.scope.names.lookup nm=some .cell) (hfn:X.fn nm=true) (hc:X.env.cells.lookup nm=some cl)
  (hdb:(x==("__debug__":Str))=false:=by decide) (he:starEach (e::es) X.env=(false,eval e X.env)::starEach es X.env:=by rfl) (hpl:(backTo pos (starEach es X.env)).any (·.1)=false:=by rfl) :
  PE X (.Call (.Name x p) (e::es) [] pos) (zJT sp cl i t):=by
 intro pins s σ H Q I h;refine wpAny_Call_Name_kw (zEC I hg hm ?_ hdb);refine qC2 (h₀:=X.base) I.ok.mod.kin hk (thn (ha pos pins s σ H _ I h) fun us s1 ⟨vs,H1,I1,r,v,hσ,hs⟩=>⟨I1.kIn,?_⟩) he hpl;obtain⟨m,hn,hl⟩:=id I1.loc;obtain⟨u,ru,look⟩:=hl i nm v hN hσ (.inr (.inl hv));have hcell:s1.heap.IsCell cl (some u):=by
  rcases look with⟨z,_⟩|⟨_,c,hc2,z⟩
  ·have z':X.env.scope.names.lookup nm=some .local:=z;rw[hv]at z';cases z'
  ·rw[hc]at hc2;cases hc2;exact z
 obtain⟨co,hco,hd⟩:=hcell;have hn1:=I1.freeC nm cl hc;have sp1:=hs co u hn1 hd ru;have lt:∀b o,X.base.get? b=some o->b≠cl:=fun b o z q=>by
  subst q;exact absurd (qA7 (Heap.lt_size z) (qAh I1.ok.bsz (I1.ok.cab nm b hfn hc))) (qB9 _)
 have e0:Env0 X.prog X.w X.K X.mg X.base X.A X.stack s1 (upd H1 cl (cel co)):=⟨I1.ok.frames,I1.ok.mod,fun b o z=>⟨(I1.bs b o z).1,by rw[zA9 (lt b o z)];exact(I1.bs b o z).2⟩,qAh I1.ok.bsz I1.sz,I1.stack,fun b z=>by rw[zA9 (I1.nocell hfn hc b z)];exact I1.stkFree b z,I1.hok.known hn1 hco,I1.bare⟩
 have hl2:(us++([]:List Value)).length=ps.length:=by rw[qBp,<- r.length];exact F.len _ _ _ _ sp1
 have hb1:=hb s1 us I1.kIn hl2;rw[qBp]at hb1;refine wpAny_call (codeAny_mono (F.run X.A X.stack s1 _ ⟨us,[]⟩ us vs _ E0 hr e0 hb1 r sp1) fun r s' hq=>?_);cases r with
 |error e=>exact hq.elim
 |ok fl=>
  cases fl with
  |ret u=>
   obtain⟨w,H2,os,bare,un,hok,rw',q⟩:=hq;have fa:H2 cl=some (cel co):=un.frzs cl co _ zAH;exact I1.after ⟨w,del H2 cl,os,bare,Un.untrack un hn1 hco hok,HOk.untrack hok fa ⟨_,hd⟩,rw',q⟩
  |next=>exact qA3 hq
  |brk=>exact qA3 hq
  |cont=>exact qA3 hq
end
structure LamScope(ps:List Str)(nm:Str)(sc:Scope):Prop where
 kind:sc.kind=.function
 co:sc.isCoroutine=false
 gen:sc.isGenerator=false
 nd:(ps++[nm]).Nodup
 par:∀x∈ps,sc.names.lookup x=some .local
 held:sc.names.lookup nm=some .free
 nocell:∀y∈sc.names,y.2≠.cell
 only:∀x,sc.names.lookup x=some .free->x=nm
def zOE(X:Cx)(N:List Str)(q:Str)(scope:Scope)(f:Addr)(cd:Value)(clos:List (Str×Addr))(s:Shared)(H:Hp):Cx where
 prog:=X.prog
 w:=X.w
 K:=X.K
 mg:=X.mg
 base:=X.base
 A:=X.A.deeper (qCr q scope s.heap.objs.size f cd clos)
 N:=N
 s₀:=s
 H₀:=H
 env:=qCr q scope s.heap.objs.size f cd clos
 outer:=X.stack
 stack:=qCr q scope s.heap.objs.size f cd clos::X.stack
 ex:=[]
 fn:=fun _=>false
 calm:=true
 pn:=[]
 xe:=fun _ _=>False
theorem zKZ:∀{ps:List Str}{us:List Value}{i:Nat}{x:Str}{u:Value},ps.Nodup->ps[i]?=some x->us[i]?=some u->(ps.zip us).reverse.lookup x=some u
 |[],_,_,_,_,_,h,_=>by simp at h
 |_::_,[],_,_,_,_,_,h=>by simp at h
 |p::ps,w::us,0,x,u,nd,h1,h2=>by
  simp at h1 h2;subst h1;subst h2;rw[qE0,qEc,qE1]
  have:(ps.zip us).reverse.lookup p=none:=by
   rw[qD2];intro q hq
   have:=(qBq (a:=q.1) (b:=q.2) (by simpa using hq)).1
   have hne:p≠q.1:=fun z=>(qBj.mp nd).1 (z▸this)
   simpa using hne
  rw[this];simp
 |p::ps,w::us,i+1,x,u,nd,h1,h2=>by
  rw[qE0,qEc,qE1,zKZ (i:=i) (qBj.mp nd).2 (by simpa using h1) (by simpa using h2)];rfl
section
variable{X:Cx}{pins:List (Addr×Obj)}{σ:St}{H:Hp}{s:Shared}{Q:VK}{us:List Value}{vs:List V}{f cl:Addr}{q nm:Str}{params:Arguments}{body:Expr}{scope:Scope}{pm cdv ctv:Value}{co:Obj}{val:Value}{v:V}{ps:List Str}
theorem zPO{k:Nat}(hr:Room k X.A)(I:Inv X pins σ H s)(hf:H f=some (.fn (lamO q params body scope [(nm,cl)] pm cdv ctv) q))(hcl:H cl=some (cel co))(hco:co.data=.cell (some val))(rv:RelV v val)(r:Vals vs us)
  (S:LamScope ps nm scope) (hbind:∀us:List Value,us.length=ps.length->bindArgs (qBx "<lambda>" q params body scope [(nm,cl)] pm cdv ctv) ⟨us,[]⟩=pure (ps.zip us)) (hl:vs.length=ps.length)
  (hbody:∃t,PE (zOE X (ps++[nm]) q scope f cdv [(nm,cl)] s (del H cl)) body t/\t (vs.map some++[some v]) (del H cl) (fun w H2=>Q w (upd H2 cl (cel co)))) :
  wpAny (model X.prog X.w) X.A (call (.ref f) us) (EP X pins σ Q) X.xe s:=by
 obtain⟨ef,fd,c,oc,u,e1,e2,e3,e4⟩:=I.hok f _ hf;obtain⟨gcl,_⟩:=I.hok cl _ hcl;have e1':fd=qBx "<lambda>" q params body scope [(nm,cl)] pm cdv ctv:=by
  have e1:Data.func (qBx "<lambda>" q params body scope [(nm,cl)] pm cdv ctv)=Data.func fd:=e1
  injection e1 with e1
  exact e1.symm
 subst e1';have hrec:s.heap.CodeRec cdv q:=let⟨ws,t,h1,h2⟩:=e4;⟨c,oc,ws,t,e2,(I.hok c _ e3).1,h1,h2⟩
 have hul:us.length=ps.length:=by rw[<- r.length];exact hl
 obtain⟨t,ht,hq⟩:=hbody;refine wpAny_call (codeAny_mono (R:=fun r s'=>match r with | .ok (.ret u)=>EP X pins σ Q u s' | .ok _=>False | .error _=>False) (PySem.W.kla_callFunE (by have:=hr.dp;lia) ef rfl S.co S.gen rfl hrec ?_) fun r s' hq=>?_)
 ·show wpAny _ _ (bindArgs (qBx "<lambda>" q params body scope [(nm,cl)] pm cdv ctv) ⟨us,[]⟩) _ _ s;rw[hbind us hul];have hloc:∀y∈ps.zip us,scope.names.lookup y.1=some .local:=fun y hy=>S.par _ (qBq (a:=y.1) (b:=y.2) hy).1
  refine wpAny_pure (wpAny_newFunctionEnv S.nocell hloc (fun h₁ hns hsb=>⟨(I.nolimit).fresh _ hsb,?_⟩) S.kind);show codeAny _ _ (.expr body (qCr q scope s.heap.objs.size f cdv [(nm,cl)])) _ _;have hk₁:∀b o,s.heap.get? b=some o->h₁.get? b=some o:=fun b o e=>hsb.extBut b o (qAj (Heap.lt_size e)) (Heap.get?_push_of_some _ e)
  have cells:∀{y:Str}{c:Addr},([(nm,cl)]:List (Str×Addr)).lookup y=some c->y=nm/\c=cl:=fun{y c} e=>by
   simp only[qCl]at e
   split at e
   ·rename_i z;cases e;exact⟨by simpa using z,rfl⟩
   ·cases e
  have noA:∀b:Addr,b∉(zOE X (ps++[nm]) q scope f cdv [(nm,cl)] s (del H cl)).ex:=fun b z=>absurd (show b∈([]:List Addr) from z) (by simp)
  have J:Inv (zOE X (ps++[nm]) q scope f cdv [(nm,cl)] s (del H cl)) [] (vs.map some++[some v]) (del H cl) { s with heap:=h₁,toks:=s.toks+(ps.zip us).length }:=by
   refine⟨⟨I.ok.mod,S.kind,rfl,rfl,qA4 _,fun y z c h1 h2=>?_,fun y hy=>?_,fun y c z _=>(by cases z),fun _=>hr.hd,Around.frames_deeper I.ok.frames,.inr ⟨rfl,rfl⟩,fun b z=>absurd z (noA b),fun b o z=>⟨(I.bs b o z).1,zCO (I.bs b o z).2⟩,qAh I.ok.bsz I.sz,fun b _ _=>noA b,fun b z=>absurd z (noA b),I.stack,fun b z=>zCO (I.stkFree b z)⟩,
    rfl,I.bare,Un.kept hk₁,⟨_,hns,fun i y w' h1 h2 h3=>?_⟩,fun y c h=>?_,zCO (I.hok.fresh (qA4 _)),fun y c h=>?_,fun p hp=>absurd (show p∈([]:List (Addr×Obj)) from hp) (by simp),(I.hok.untrack hcl ⟨_,hco⟩).kept hk₁,?_⟩
   ·rw[(cells h1).1,(cells h2).1]
   ·have hy:scope.names.lookup y=some .cell\/scope.names.lookup y=some .free:=hy
    rcases hy with hy|hy
    ·exact absurd rfl (S.nocell _ (qB5 hy))
    ·rw[S.only y hy];exact⟨cl,by show([(nm,cl)]:List (Str×Addr)).lookup nm=_;simp⟩
   ·have h1:(ps++[nm])[i]?=some y:=h1
    by_cases hi:i<ps.length
    ·rw[qAa hi]at h1;rw[qAa (by simpa[hl]using hi),qAg]at h2;cases ew:vs[i]? with
     |none=>rw[ew]at h2;cases h2
     |some a=>
      rw[ew]at h2;cases h2;obtain⟨u',hu',ru'⟩:=r.get ew;exact⟨u',ru',.inl ⟨S.par y (qAq h1),zKZ (List.nodup_append.mp S.nd).1 h1 hu'⟩⟩
    ·rw[qA8 (by omega)]at h1;rw[qA8 (by simpa[hl]using hi)]at h2;have hi2:i-ps.length=0:=by
      cases z:i-ps.length with
      |zero=>rfl
      |succ n=>rw[z]at h1;simp at h1
     rw[hi2]at h1;rw[qAn,hl,hi2]at h2;cases h1;cases h2;exact⟨val,rv,.inr ⟨.inr S.held,cl,by show([(nm,cl)]:List (Str×Addr)).lookup nm=_;simp,co,hk₁ _ _ gcl,hco⟩⟩
   ·obtain⟨_,rfl⟩:=cells h;exact⟨some val,co,hk₁ _ _ gcl,hco⟩
   ·obtain⟨_,rfl⟩:=cells h;exact zE3
   ·show(vs.map some++[some v]).length=(ps++[nm]).length
    simp[hl]
  refine PySem.W.kla_codeExpr (wpAny_mono (ht [] _ _ _ _ J hq) (fun u s' z=>?_) fun _ _ z=>z.elim);obtain⟨w2,H2,J2,ru,q2⟩:=z;have ga:s'.heap.get? cl=some co:=J2.base.keep cl co gcl zE3 (fun z=>by have:=I.stkFree cl z;rw[hcl]at this;cases this) (by intro z;exact absurd (show cl∈([]:List Addr) from z) (by simp));exact I.after ⟨w2,upd H2 cl (cel co),J2.os,J2.bare,Un.retrack J2.base hcl,J2.hok.known (J2.freeC nm cl (by show([(nm,cl)]:List (Str×Addr)).lookup nm=_;simp)) ga,ru,q2⟩
 ·cases r with
  |error e=>exact hq.elim
  |ok fl=>
   cases fl with
   |ret u=>exact hq
   |next=>exact qA3 hq
   |brk=>exact qA3 hq
   |cont=>exact qA3 hq
end
noncomputable def zL7(i:Nat)(r:Addr->List V->Hp->VK->Prop)(t:TA):TE:=fun σ H Q=>∃f o q,σ[i]?=some (some (.ref f))/\H f=some (.fn o q)/\t σ H fun vs H1=>H1 f=some (.fn o q)/\r f vs H1 Q
def LamR(X:Cx)(r:Addr->List V->Hp->VK->Prop):Prop:=∀(pins:List (Addr×Obj))(s:Shared)(σ:St)(H:Hp)(f:Addr)(vs:List V)(us:List Value)(Q:VK),Inv X pins σ H s->Vals vs us->r f vs H Q ->
 wpAny (model X.prog X.w) X.A (call (.ref f) us) (EP X pins σ Q) X.xe s
section
variable{X:Cx}{i:Nat}{x:Str}{p pos:Pos}{e:Expr}{es:List Expr}{t:TA}{r:Addr->List V->Hp->VK->Prop}
theorem fnAt{P:Program}{w:World}{H:Hp}{h:Heap}{f:Addr}{o:Obj}{q:Str}(k:HOk P w H h)(e:H f=some (.fn o q)):PySem.W.FnAt f h:=by
 obtain⟨ef,fd,c,oc,u,e1,_⟩:=k f _ e;obtain⟨oc,od,dt,sl⟩:=o;cases e1;exact⟨oc,od,fd,sl,ef⟩
theorem zNP(hL:LamR X r)(hN:X.N[i]?=some x)(hv:Vis X.env.scope x)(ha:PA X (e::es) t)
  (hd:(x==("__debug__":Str))=false:=by decide) (hcd:(x==("__classdict__":Str))=false:=by decide)
  (he:starEach (e::es) X.env=(false,eval e X.env)::starEach es X.env:=by rfl) (hpl:(backTo pos (starEach es X.env)).any (·.1)=false:=by rfl) :
  PE X (.Call (.Name x p) (e::es) [] pos) (zL7 i r t):=by
 intro pins s σ H Q I h;obtain⟨f,o,q,hσ,hf,ht⟩:=h;refine wpAny_Call_Name_kw (thn (zLJ (i:=i) hN hv hd hcd pins s σ H (fun v H'=>v=.ref f/\H'=H) I ⟨_,hσ,rfl,rfl⟩) fun u s1 z=>?_);obtain⟨v,H1,I1,rv,rfl,rfl⟩:=z;cases rv;refine PySem.W.callWith_F (fnAt I1.hok hf) (thn (ha pos pins s1 σ _ _ I1 ht) fun us s2 ⟨vs,H2,I2,r2,hf2,hr⟩=>⟨fnAt I2.hok hf2,?_⟩) he hpl;exact hL pins s2 σ H2 f vs us Q I2 r2 hr
end
end L2
namespace L3
open PySem PySem.Spec
open L2 hiding Rep RepL
open Mi (Dt Xn R okR zA3 optR zA0 zA8 zAF zAD zAE Rh Sl Ro EM TM AM FM IM SM Tg Out zAQ zAP zAV full frz frz1 frzAt)
class Kc where
 K:qA0
variable[Kc]
noncomputable def clK(K:qA0)(c:Str):Option Addr:=match qBb K mainGlobals c with
 |some (some (.ref C))=>some C
 |_=>none
def SqR(K:qA0)(H:Hp)(a:Addr)(xs:List V):Prop:=SqL K H a xs\/SqT K H a xs
theorem zFA{K:qA0}{H H':Hp}{a:Addr}{xs:List V}(e:Same H H')(h:SqT K H a xs):SqT K H' a xs:=by
 rcases h with(h|⟨o,h⟩)|h
 ·exact .inl (.inl (e _ _ h))
 ·exact .inl (.inr ⟨o,e _ _ h⟩)
 ·exact .inr h
theorem zDT{K:qA0}{H H':Hp}{a:Addr}{xs:List V}(e:Same H H')(h:SqR K H a xs):SqR K H' a xs:=h.imp (fun z=>e.seq z) fun z=>zFA e z
noncomputable def svV:Mi.Sv->V
 |.i n=>.int n
 |.s x=>.str x
noncomputable def swV:Mi.Sw->V
 |.non=>.non
 |.bl b=>.bl b
 |.int i=>.int i
 |.str x=>.str x
noncomputable def zQK:Expr->Option (Arguments×Expr×Scope×Str)
 |.Call _ [_,.Lambda ps b sc _] _ _=>match sc.names.find? fun p=>p.2==.free with
  |some (x,_)=>some (ps,b,sc,x)
  |none=>none
 |_=>none
def zU6:Stmt->Option (Arguments×Expr×Scope×Str)
 |.Return (some e) _=>zQK e
 |.Assign _ e _=>zQK e
 |.If _ (_::.Return (some e) _::_) _ _=>zQK e
 |_=>none
def zKQ(l:List Stmt):Option (Arguments×Expr×Scope×Str):=l.findSome? zU6
def lamK(K:qA0)(x:Str):Option (Arguments×Expr×Scope×Str):=match qBb K mainGlobals x with
 |some (some (.ref f))=>match K.lookup f with
  |some o=>match o.data with
   |.func fd=>match fd.body with
    |.stmts b=>zKQ b
    |_=>none
   |_=>none
  |none=>none
 |_=>none
noncomputable def lamQ(x:Str):Str:=x ++ ".<locals>." ++ "<lambda>"
noncomputable def codP(K:qA0)(x:Str):Option Addr:=match qBb K mainGlobals x with
 |some (some (.ref f))=>match K.lookup f with
  |some o=>match o.data with
   |.func fd=>match fd.code with
    |.ref c=>match K.lookup c with
     |some o=>match o.data with
      |.fields vs=>match(vs[11]?:Option Value)with
       |some (.ref P)=>some P
       |_=>none
      |_=>none
     |none=>none
    |_=>none
   |_=>none
  |none=>none
 |_=>none
noncomputable def makers:List Str:=["turned_at","exchanged_at","pivoted"]
def tabK(K:qA0):Hp:=fun P=>(makers.find? fun x=>codP K x==some P&&(lamK K x).isSome).map fun x=>.lam (lamQ x)
mutual
def Rep(H:Hp):Dt->V->Prop
 |.non,v=>v=.non
 |.bl b,v=>v=.bl b
 |.int i,v=>v=.int i
 |.str x,v=>v=.str x
 |.lst ds,v=>∃a xs,v=.ref a/\H a=some (.lst xs)/\RepL H ds xs
 |.tup ds,v=>∃a xs,v=.ref a/\H a=some (.tup xs)/\RepL H ds xs
 |.scr ns,v=>∃a,v=.ref a/\SqR Kc.K H a (ns.map V.int)
 |.exc c f d,v=>∃e C da,v=.ref e/\isX H e C da/\clK Kc.K c=some C/\((da=none/\f = "")\/∃a gs w,da=some a/\H a=some (.xd gs)/\gs.lookup f=some w/\Rep H d w)
 |.ins c fs,v=>∃a C dx,v=.ref a/\clK Kc.K c=some C/\H a=some (.ins C dx (fs.map fun p=>(p.1,svV p.2)))
 |.dct kvs,v=>∃a,v=.ref a/\H a=some (.dK (kvs.map fun p=>(p.1,swV p.2)))
 |.fn x d,v=>∃f,v=.ref f/\∃L cl pm cdv ctv co val w,lamK Kc.K x=some L/\H f=some (.fn (lamO (lamQ x) L.1 L.2.1 L.2.2.1 [(L.2.2.2,cl)] pm cdv ctv) (lamQ x))/\H cl=some (cel co)/\co.data=.cell (some val)/\RelV w val/\Rep H d w
def RepL(H:Hp):List Dt->List V->Prop
 |[],xs=>xs=[]
 |d::r,xs=>∃x q,xs=x::q/\Rep H d x/\RepL H r q
end
mutual
theorem Rep.mono{H H':Hp}(s:Same H H'):∀{d:Dt}{v:V},Rep H d v->Rep H' d v
 |.non,_,h=>h
 |.bl _,_,h=>h
 |.int _,_,h=>h
 |.str _,_,h=>h
 |.lst _,_,h=>by obtain⟨a,xs,e,e',r⟩:=h;exact⟨a,xs,e,s _ _ e',RepL.mono s r⟩
 |.tup _,_,h=>by obtain⟨a,xs,e,e',r⟩:=h;exact⟨a,xs,e,s _ _ e',RepL.mono s r⟩
 |.scr _,_,h=>by obtain⟨a,e,e'⟩:=h;exact⟨a,e,zDT s e'⟩
 |.exc _ _ _,_,h=>by
  obtain⟨a,C,da,e,e',hc,r⟩:=h;refine⟨a,C,da,e,e'.imp (fun z=>s _ _ z) fun z=>s _ _ z,hc,r.imp (fun z=>z) ?_⟩
  rintro⟨b,gs,w,h1,h2,h3,h4⟩
  exact⟨b,gs,w,h1,s _ _ h2,h3,Rep.mono s h4⟩
 |.ins _ _,_,h=>by obtain⟨a,C,dx,e,hc,h1⟩:=h;exact⟨a,C,dx,e,hc,s _ _ h1⟩
 |.dct _,_,h=>by obtain⟨a,e,h1⟩:=h;exact⟨a,e,s _ _ h1⟩
 |.fn _ _,_,h=>by obtain⟨f,e,L,cl,pm,cdv,ctv,co,val,w,h1,h2,h3,h4,h5,h6⟩:=h;exact⟨f,e,L,cl,pm,cdv,ctv,co,val,w,h1,s _ _ h2,s _ _ h3,h4,h5,Rep.mono s h6⟩
theorem RepL.mono{H H':Hp}(s:Same H H'):∀{ds:List Dt}{xs:List V},RepL H ds xs->RepL H' ds xs
 |[],_,h=>h
 |_::_,_,h=>by obtain⟨x,q,e,r,t⟩:=h;exact⟨x,q,e,Rep.mono s r,RepL.mono s t⟩
end
theorem RepL.length{H:Hp}:∀{ds:List Dt}{xs:List V},RepL H ds xs->xs.length=ds.length
 |[],_,h=>by cases h;rfl
 |_::_,_,h=>by obtain⟨x,q,e,r,t⟩:=h;subst e;simp[RepL.length t]
mutual
def conv:Dt->L2.Dat
 |.non=>.non
 |.bl b=>.bl b
 |.int i=>.int i
 |.str x=>.str x
 |.lst ds=>.lst (convL ds)
 |.tup ds=>.tup (convL ds)
 |.scr _=>.non
 |.exc _ _ _=>.non
 |.fn _ _=>.non
 |.ins _ _=>.non
 |.dct _=>.non
def convL:List Dt->List L2.Dat
 |[]=>[]
 |d::r=>conv d::convL r
end
mutual
theorem zD5:∀{d:Dt},d.dep<=40->(conv d).dep<=d.dep
 |.non,_=>qA4 _
 |.bl _,_=>qA4 _
 |.int _,_=>qA4 _
 |.str _,_=>qA4 _
 |.lst ds,h=>by rw[Dt.dep]at h ⊢;rw[conv,L2.Dat.dep];have:=conv_depL (ds:=ds) (by lia);lia
 |.tup ds,h=>by rw[Dt.dep]at h ⊢;rw[conv,L2.Dat.dep];have:=conv_depL (ds:=ds) (by lia);lia
 |.scr _,h=>by rw[Dt.dep]at h;lia
 |.exc _ _ _,h=>by rw[Dt.dep]at h;lia
 |.fn _ _,h=>by rw[Dt.dep]at h;lia
 |.ins _ _,h=>by rw[Dt.dep]at h;lia
 |.dct _,h=>by rw[Dt.dep]at h;lia
theorem conv_depL:∀{ds:List Dt},Dt.depL ds<=40->L2.Dat.depL (convL ds)<=Dt.depL ds
 |[],_=>qA4 _
 |d::r,h=>by
  rw[Dt.depL]at h ⊢;rw[convL,L2.Dat.depL];have h1:=zD5 (d:=d) (by lia);have h2:=conv_depL (ds:=r) (by lia)
  lia
end
mutual
theorem zCP{H:Hp}:∀{d:Dt}{v:V},d.dep<=40->Rep H d v->L2.Rep H (conv d) v
 |.non,_,_,h=>h
 |.bl _,_,_,h=>h
 |.int _,_,_,h=>h
 |.str _,_,_,h=>h
 |.lst ds,_,hd,h=>by obtain⟨a,xs,e,e',r⟩:=h;exact⟨a,xs,e,e',conv_repL (by rw[Dt.dep]at hd;lia) r⟩
 |.tup ds,_,hd,h=>by obtain⟨a,xs,e,e',r⟩:=h;exact⟨a,xs,e,e',conv_repL (by rw[Dt.dep]at hd;lia) r⟩
 |.scr _,_,h,_=>by rw[Dt.dep]at h;lia
 |.exc _ _ _,_,h,_=>by rw[Dt.dep]at h;lia
 |.fn _ _,_,h,_=>by rw[Dt.dep]at h;lia
 |.ins _ _,_,h,_=>by rw[Dt.dep]at h;lia
 |.dct _,_,h,_=>by rw[Dt.dep]at h;lia
theorem conv_repL{H:Hp}:∀{ds:List Dt}{xs:List V},Dt.depL ds<=40->RepL H ds xs->L2.RepL H (convL ds) xs
 |[],_,_,h=>h
 |d::r,_,hd,h=>by
  rw[Dt.depL]at hd;obtain⟨x,q,e,a,b⟩:=h;exact⟨x,q,e,zCP (by lia) a,conv_repL (by lia) b⟩
end
mutual
theorem zH6:∀{d e:Dt},d.dep<=40->e.dep<=40->L2.Dat.eq (conv d) (conv e)=Dt.eq d e
 |.scr _,_,h,_=>by rw[Dt.dep]at h;lia
 |.exc _ _ _,_,h,_=>by rw[Dt.dep]at h;lia
 |.fn _ _,_,h,_=>by rw[Dt.dep]at h;lia
 |.ins _ _,_,h,_=>by rw[Dt.dep]at h;lia
 |.dct _,_,h,_=>by rw[Dt.dep]at h;lia
 |.lst ds,e,h,h'=>by
  rw[Dt.dep]at h;cases e with
  |lst es=>rw[Dt.dep]at h';rw[conv,conv,L2.Dat.eq,Dt.eq];exact conv_eqL (by lia) (by lia)
  |scr _=>rw[Dt.dep]at h';lia
  |exc _ _ _=>rw[Dt.dep]at h';lia
  |fn _ _=>rw[Dt.dep]at h';lia
  |ins _ _=>rw[Dt.dep]at h';lia
  |dct _=>rw[Dt.dep]at h';lia
  |_=>simp[conv,L2.Dat.eq,Dt.eq]
 |.tup ds,e,h,h'=>by
  rw[Dt.dep]at h;cases e with
  |tup es=>rw[Dt.dep]at h';rw[conv,conv,L2.Dat.eq,Dt.eq];exact conv_eqL (by lia) (by lia)
  |scr _=>rw[Dt.dep]at h';lia
  |exc _ _ _=>rw[Dt.dep]at h';lia
  |fn _ _=>rw[Dt.dep]at h';lia
  |ins _ _=>rw[Dt.dep]at h';lia
  |dct _=>rw[Dt.dep]at h';lia
  |_=>simp[conv,L2.Dat.eq,Dt.eq]
 |.non,e,_,h'=>by
  cases e with
  |scr _=>rw[Dt.dep]at h';lia
  |exc _ _ _=>rw[Dt.dep]at h';lia
  |fn _ _=>rw[Dt.dep]at h';lia
  |ins _ _=>rw[Dt.dep]at h';lia
  |dct _=>rw[Dt.dep]at h';lia
  |_=>simp[conv,L2.Dat.eq,Dt.eq]
 |.bl _,e,_,h'=>by
  cases e with
  |scr _=>rw[Dt.dep]at h';lia
  |exc _ _ _=>rw[Dt.dep]at h';lia
  |fn _ _=>rw[Dt.dep]at h';lia
  |ins _ _=>rw[Dt.dep]at h';lia
  |dct _=>rw[Dt.dep]at h';lia
  |_=>simp[conv,L2.Dat.eq,Dt.eq]
 |.int _,e,_,h'=>by
  cases e with
  |scr _=>rw[Dt.dep]at h';lia
  |exc _ _ _=>rw[Dt.dep]at h';lia
  |fn _ _=>rw[Dt.dep]at h';lia
  |ins _ _=>rw[Dt.dep]at h';lia
  |dct _=>rw[Dt.dep]at h';lia
  |_=>simp[conv,L2.Dat.eq,Dt.eq]
 |.str _,e,_,h'=>by
  cases e with
  |scr _=>rw[Dt.dep]at h';lia
  |exc _ _ _=>rw[Dt.dep]at h';lia
  |fn _ _=>rw[Dt.dep]at h';lia
  |ins _ _=>rw[Dt.dep]at h';lia
  |dct _=>rw[Dt.dep]at h';lia
  |_=>simp[conv,L2.Dat.eq,Dt.eq]
theorem conv_eqL:∀{ds es:List Dt},Dt.depL ds<=40->Dt.depL es<=40->L2.Dat.eqL (convL ds) (convL es)=Dt.eqL ds es
 |[],[],_,_=>by simp[convL,L2.Dat.eqL,Dt.eqL]
 |[],_::_,_,_=>by simp[convL,L2.Dat.eqL,Dt.eqL]
 |_::_,[],_,_=>by simp[convL,L2.Dat.eqL,Dt.eqL]
 |d::r,e::t,h,h'=>by
  rw[Dt.depL]at h h';rw[convL,convL,L2.Dat.eqL,Dt.eqL,zH6 (by lia) (by lia),conv_eqL (by lia) (by lia)]
end
theorem zBO{G:Hp}:∀{ds:List Dt}{xs:List V}{q:Nat}{d:Dt}{x:V},RepL G ds xs->ds[q]?=some d->xs[q]?=some x->Rep G d x
 |[],_,_,_,_,_,h,_=>by simp at h
 |d::r,xs,0,e,y,h,h1,h2=>by
  obtain⟨x,t,rfl,a,b⟩:=h;simp at h1 h2;subst h1;subst h2;exact a
 |d::r,xs,q+1,e,y,h,h1,h2=>by
  obtain⟨x,t,rfl,a,b⟩:=h;exact zBO b (by simpa using h1) (by simpa using h2)
theorem zDI{G:Hp}:∀{ds:List Dt}{xs:List V},xs.length=ds.length->(∀(q:Nat)(d:Dt)(x:V),ds[q]?=some d->xs[q]?=some x->Rep G d x)->RepL G ds xs
 |[],[],_,_=>rfl
 |[],_::_,h,_=>by simp at h
 |_::_,[],h,_=>by simp at h
 |d::r,x::t,h,k=>⟨x,t,rfl,k 0 d x rfl rfl,zDI (by simpa using h) fun q e y h1 h2=>k (q+1) e y (by simpa using h1) (by simpa using h2)⟩
theorem zDN{n:Nat}:∀{ds:List Dt},Dt.depL ds<=n->∀{q:Nat}{d:Dt},ds[q]?=some d->d.dep<=n
 |[],_,_,_,h=>by simp at h
 |e::r,h,0,d,h1=>by simp at h1;subst h1;rw[Dt.depL]at h;lia
 |e::r,h,q+1,d,h1=>by rw[Dt.depL]at h;exact zDN (ds:=r) (by lia) (q:=q) (by simpa using h1)
theorem Rep.scalar{G G2:Hp}{d:Dt}{v:V}(h:Rep G d v)(hd:d.dep=0):Rep G2 d v:=by
 cases d with
 |lst ds=>rw[Dt.dep]at hd;lia
 |tup ds=>rw[Dt.dep]at hd;lia
 |scr ns=>rw[Dt.dep]at hd;lia
 |exc _ _ _=>rw[Dt.dep]at hd;lia
 |fn _ _=>rw[Dt.dep]at hd;lia
 |ins _ _=>rw[Dt.dep]at hd;lia
 |dct _=>rw[Dt.dep]at hd;lia
 |_=>exact h
structure Kids(P:(Addr->Prop)->Dt->V->Prop)(S:Addr->Prop)(a:Addr)(ds:List Dt)(xs:List V)(T:Nat->Addr->Prop):Prop where
 len:xs.length=ds.length
 own:∀(q:Nat)(d:Dt)(x:V),ds[q]?=some d->xs[q]?=some x->P (T q) d x
 top:S a
 out:∀q,¬T q a
 dis:∀q r b,T q b->T r b->q=r
 sub:∀q b,T q b->S b
def Own(G H:Hp):Nat->(Addr->Prop)->Dt->V->Prop
 |0,_,d,v=>Rep G d v
 |n+1,S,d,v=>match d with
  |.lst ds=>∃a xs T,v=.ref a/\H a=some (.lst xs)/\Kids (Own G H n) S a ds xs T
  |.tup ds=>∃a xs T,v=.ref a/\H a=some (.tup xs)/\Kids (Own G H n) S a ds xs T
  |.dct kvs=>∃a,v=.ref a/\H a=some (.dK (kvs.map fun p=>(p.1,swV p.2)))/\S a
  |d=>Rep G d v
theorem Kids.imp{P P':(Addr->Prop)->Dt->V->Prop}{S S':Addr->Prop}{a:Addr}{ds:List Dt}{xs:List V}{T:Nat->Addr->Prop}(k:Kids P S a ds xs T)
  (h:∀q d x,ds[q]?=some d->P (T q) d x->P' (T q) d x) (hs:∀b,S b->S' b):Kids P' S' a ds xs T:=
 ⟨k.len,fun q d x h1 h2=>h q d x h1 (k.own q d x h1 h2),hs _ k.top,k.out,k.dis,fun q b t=>hs _ (k.sub q b t)⟩
theorem Own.mono{G G' H H':Hp}(sG:Same G G')(sH:Same H H'):∀{n:Nat}{S:Addr->Prop}{d:Dt}{v:V},Own G H n S d v->Own G' H' n S d v
 |0,S,d,v,h=>Rep.mono sG h
 |n+1,S,d,v,h=>by
  cases d with
  |lst ds=>obtain⟨a,xs,T,e,ha,k⟩:=h;exact⟨a,xs,T,e,sH _ _ ha,k.imp (fun _ _ _ _ p=>Own.mono sG sH p) fun _ z=>z⟩
  |tup ds=>obtain⟨a,xs,T,e,ha,k⟩:=h;exact⟨a,xs,T,e,sH _ _ ha,k.imp (fun _ _ _ _ p=>Own.mono sG sH p) fun _ z=>z⟩
  |dct kvs=>obtain⟨a,e,ha,hs⟩:=h;exact⟨a,e,sH _ _ ha,hs⟩
  |_=>exact Rep.mono sG h
theorem Own.sub{G H:Hp}{n:Nat}{S S':Addr->Prop}{d:Dt}{v:V}(h:Own G H n S d v)(hs:∀b,S b->S' b):Own G H n S' d v:=by
 cases n with
 |zero=>exact h
 |succ n=>
  cases d with
  |lst ds=>obtain⟨a,xs,T,e,ha,k⟩:=h;exact⟨a,xs,T,e,ha,k.imp (fun _ _ _ _ p=>p) hs⟩
  |tup ds=>obtain⟨a,xs,T,e,ha,k⟩:=h;exact⟨a,xs,T,e,ha,k.imp (fun _ _ _ _ p=>p) hs⟩
  |dct kvs=>obtain⟨a,e,ha,h2⟩:=h;exact⟨a,e,ha,hs _ h2⟩
  |_=>exact h
theorem Own.rep{G H J:Hp}(sG:Same G J):∀{n:Nat}{S:Addr->Prop}{d:Dt}{v:V},Own G H n S d v->(∀a o,S a->H a=some o->J a=some o)->Rep J d v
 |0,S,d,v,h,_=>Rep.mono sG h
 |n+1,S,d,v,h,hj=>by
  cases d with
  |lst ds=>obtain⟨a,xs,T,e,ha,k⟩:=h;exact⟨a,xs,e,hj _ _ k.top ha,zDI k.len fun q d x h1 h2=>Own.rep sG (k.own q d x h1 h2) fun b o t hb=>hj b o (k.sub q b t) hb⟩
  |tup ds=>obtain⟨a,xs,T,e,ha,k⟩:=h;exact⟨a,xs,e,hj _ _ k.top ha,zDI k.len fun q d x h1 h2=>Own.rep sG (k.own q d x h1 h2) fun b o t hb=>hj b o (k.sub q b t) hb⟩
  |dct kvs=>obtain⟨a,e,ha,hs⟩:=h;exact⟨a,e,hj _ _ hs ha⟩
  |_=>exact Rep.mono sG h
theorem Own.at{G G2 H:Hp}:∀{n k:Nat}{S:Addr->Prop}{d:Dt}{v:V},Own G H n S d v->d.dep<=n->d.dep<=k->n<1000->Own G2 H k S d v
 |n,k,S,d,v,h,hn,hk,hz=>by
  cases d with
  |lst ds=>
   rw[Dt.dep]at hn hk;cases n with
   |zero=>lia
   |succ n=>
    cases k with
    |zero=>lia
    |succ k=>
     obtain⟨a,xs,T,e,ha,kd⟩:=h;refine⟨a,xs,T,e,ha,kd.imp (fun q d x h1 p=>?_) fun _ z=>z⟩;exact Own.at p (zDN (by lia) h1) (zDN (by lia) h1) (by lia)
  |tup ds=>
   rw[Dt.dep]at hn hk;cases n with
   |zero=>lia
   |succ n=>
    cases k with
    |zero=>lia
    |succ k=>
     obtain⟨a,xs,T,e,ha,kd⟩:=h;refine⟨a,xs,T,e,ha,kd.imp (fun q d x h1 p=>?_) fun _ z=>z⟩;exact Own.at p (zDN (by lia) h1) (zDN (by lia) h1) (by lia)
  |non=>cases n<;>cases k<;>exact h
  |bl b=>cases n<;>cases k<;>exact h
  |int i=>cases n<;>cases k<;>exact h
  |str x=>cases n<;>cases k<;>exact h
  |scr ns=>rw[Dt.dep]at hn;lia
  |exc _ _ _=>rw[Dt.dep]at hn;lia
  |fn _ _=>rw[Dt.dep]at hn;lia
  |ins _ _=>rw[Dt.dep]at hn;lia
  |dct _=>rw[Dt.dep]at hn;lia
termination_by n=>n
theorem Own.scalar{G H G2 H2:Hp}{n k:Nat}{S S2:Addr->Prop}{d:Dt}{v:V}(h:Own G H n S d v)(hd:d.dep=0):Own G2 H2 k S2 d v:=by
 cases d with
 |lst ds=>rw[Dt.dep]at hd;lia
 |tup ds=>rw[Dt.dep]at hd;lia
 |non=>cases n<;>cases k<;>exact h
 |bl b=>cases n<;>cases k<;>exact h
 |int i=>cases n<;>cases k<;>exact h
 |str x=>cases n<;>cases k<;>exact h
 |scr ns=>rw[Dt.dep]at hd;lia
 |exc _ _ _=>rw[Dt.dep]at hd;lia
 |fn _ _=>rw[Dt.dep]at hd;lia
 |ins _ _=>rw[Dt.dep]at hd;lia
 |dct _=>rw[Dt.dep]at hd;lia
theorem zOY{G H:Hp}{n:Nat}{S:Addr->Prop}{d:Dt}{v:V}(h:Rep G d v)(hd:d.dep=0):Own G H n S d v:=Own.scalar (n:=0) (G:=G) (H:=H) (S:=S) h hd
theorem Own.upd{G H:Hp}{p:Addr}{o:HO}:∀{n:Nat}{S:Addr->Prop}{d:Dt}{v:V},Own G H n S d v->¬S p->Own G (upd H p o) n S d v
 |0,S,d,v,h,_=>h
 |n+1,S,d,v,h,hp=>by
  cases d with
  |lst ds=>
   obtain⟨a,xs,T,e,ha,k⟩:=h;have hap:a≠p:=fun z=>hp (z▸k.top)
   exact⟨a,xs,T,e,(zA9 hap).trans ha,k.imp (fun q _ _ _ w=>Own.upd w fun z=>hp (k.sub q _ z)) fun _ z=>z⟩
  |tup ds=>
   obtain⟨a,xs,T,e,ha,k⟩:=h;have hap:a≠p:=fun z=>hp (z▸k.top)
   exact⟨a,xs,T,e,(zA9 hap).trans ha,k.imp (fun q _ _ _ w=>Own.upd w fun z=>hp (k.sub q _ z)) fun _ z=>z⟩
  |dct kvs=>
   obtain⟨a,e,ha,hs⟩:=h;have hap:a≠p:=fun z=>hp (z▸hs)
   exact⟨a,e,(zA9 hap).trans ha,hs⟩
  |_=>exact h
structure Ext(G H G' H':Hp):Prop where
 g:Same G G'
 h:Same H H'
 in':Same G' H'
 old:∀b,H b≠none->G' b=G b
theorem Ext.refl{G H:Hp}(s:Same G H):Ext G H G H:=⟨Same.refl _,Same.refl _,s,fun _ _=>rfl⟩
theorem _root_.L2.Same.some{H H':Hp}(s:Same H H'){b:Addr}(h:H b≠qDp):H' b≠qDp:=by
 cases e:H b with
 |none=>exact absurd e h
 |some o=>rw[s _ _ e];simp
theorem Ext.trans{G H G1 H1 G2 H2:Hp}(a:Ext G H G1 H1)(b:Ext G1 H1 G2 H2):Ext G H G2 H2:=
 ⟨a.g.trans b.g,a.h.trans b.h,b.in',fun c hc=>(b.old c (a.h.some hc)).trans (a.old c hc)⟩
structure Fr(G H G' H':Hp)(S:Addr->Prop):Prop where
 ext:Ext G H G' H'
 new:∀a,S a->H a=none/\G' a=none/\H' a≠none
open Classical in
noncomputable def over(G H:Hp)(S:Addr->Prop):Hp:=fun b=>if S b then H b else G b
theorem zEA{G H:Hp}{S:Addr->Prop}{a:Addr}(h:S a):over G H S a=H a:=by unfold over;rw[if_pos h]
theorem zCI{G H:Hp}{S:Addr->Prop}{a:Addr}(h:¬S a):over G H S a=G a:=by unfold over;rw[if_neg h]
theorem zDX{G H:Hp}{S:Addr->Prop}(s:Same G H):Same G (over G H S)/\Same (over G H S) H:=by
 constructor
 ·intro b o e
  by_cases z:S b
  ·rw[zEA z];exact s _ _ e
  ·rw[zCI z];exact e
 ·intro b o e
  by_cases z:S b
  ·rw[zEA z]at e;exact e
  ·rw[zCI z]at e;exact s _ _ e
theorem Fr.frz{G H G' H':Hp}{S:Addr->Prop}{n:Nat}{d:Dt}{v:V}(f:Fr G H G' H' S)(o:Own G' H' n S d v):Ext G H (over G' H' S) H'/\Rep (over G' H' S) d v:=by
 obtain⟨s1,s2⟩:=zDX (S:=S) f.ext.in';refine⟨⟨f.ext.g.trans s1,f.ext.h,s2,fun b hb=>?_⟩,o.rep s1 fun a u ha e=>by rw[zEA ha];exact e⟩;have z:¬S b:=fun z=>hb (f.new b z).1
 rw[zCI z];exact f.ext.old b hb
structure View(G:Hp)(σ:St)(ρ:Rh):Prop where
 len:ρ.length=σ.length
 «at»:∀(i:Nat)(d:Dt),ρ[i]?=some (some d)->∃v,σ[i]?=some (some v)/\Rep G d v
 tab:Same (tabK Kc.K) G
theorem View.mono{G G':Hp}{σ:St}{ρ:Rh}(s:Same G G')(h:View G σ ρ):View G' σ ρ:=⟨h.len,fun i d e=>let⟨v,a,b⟩:=h.at i d e;⟨v,a,Rep.mono s b⟩,h.tab.trans s⟩
def XRep(mg:Str->Option Value)(x:Xn)(c:Value)(da:Option Addr)(G H:Hp):Prop:=
 ∃e C,c=.ref e/\G e=some (xo e (.ref C) da)/\clK Kc.K x.cls=some C/\((da=none/\x.f = "")\/∃a gs w,da=some a/\G a=some (.xd gs)/\gs.lookup x.f=some w/\Rep G x.d w)
def PostE(mg:Str->Option Value)(E:XK)(G H:Hp)(n:Nat)(r:R Dt)(Q:VK):Prop:=match r with
 |none=>False
 |some (.error x)=>∀c da G' H',Ext G H G' H'->XRep mg x c da G' H'->E c da H'
 |some (.ok d)=>∀v G' H' S,Fr G H G' H' S->Own G' H' n S d v->Q v H'
def PostT(mg:Str->Option Value)(E:XK)(G H:Hp)(r:R Bool)(Q:Bool->Hp->Prop):Prop:=match r with
 |none=>False
 |some (.error x)=>∀c da G' H',Ext G H G' H'->XRep mg x c da G' H'->E c da H'
 |some (.ok b)=>∀H',Same H H'->Q b H'
structure OwnA(G H:Hp)(n:Nat)(S:Addr->Prop)(ds:List Dt)(xs:List V)(T:Nat->Addr->Prop):Prop where
 len:xs.length=ds.length
 own:∀(q:Nat)(d:Dt)(x:V),ds[q]?=some d->xs[q]?=some x->Own G H n (T q) d x
 dis:∀q r b,T q b->T r b->q=r
 sub:∀q b,T q b->S b
def zTU(mg:Str->Option Value)(E:XK)(G H:Hp)(n:Nat)(r:R (List Dt))(Q:List V->Hp->Prop):Prop:=match r with
 |none=>False
 |some (.error x)=>∀c da G' H',Ext G H G' H'->XRep mg x c da G' H'->E c da H'
 |some (.ok ds)=>∀vs G' H' S T,Fr G H G' H' S->OwnA G' H' n S ds vs T->Q vs H'
def DE(mg:Str->Option Value)(E:XK)(t:TE)(m:EM)(n:Nat):Prop:=∀(G H:Hp)(σ:St)(ρ:Rh)(Q:VK),Same G H->View G σ ρ->PostE mg E G H n (m ρ) Q->t σ H Q
def DT(mg:Str->Option Value)(E:XK)(t:TT)(m:TM):Prop:=∀(G H:Hp)(σ:St)(ρ:Rh)(Q:Bool->Hp->Prop),Same G H->View G σ ρ->PostT mg E G H (m ρ) Q->t σ H Q
def DA(mg:Str->Option Value)(E:XK)(t:TA)(m:AM)(n:Nat):Prop:=∀(G H:Hp)(σ:St)(ρ:Rh)(Q:List V->Hp->Prop),Same G H->View G σ ρ->zTU mg E G H n (m ρ) Q->t σ H Q
structure Err(mg:Str->Option Value)(E:XK)(G H:Hp){β:Type}(P:R β->Prop):Prop where
 no:P none->False
 er:∀x,P (some (.error x))->∀c da G' H',Ext G H G' H'->XRep mg x c da G' H'->E c da H'
theorem Ext.same{G H H':Hp}(s:Same G H)(h:Same H H'):Ext G H G H':=⟨Same.refl _,h,s.trans h,fun _ _=>rfl⟩
theorem Err.from{mg:Str->Option Value}{E:XK}{G H G' H':Hp}{β:Type}{P:R β->Prop}(e:Err mg E G H P)(x:Ext G H G' H'):Err mg E G' H' P:=⟨e.no,fun y p c da G2 H2 z w=>e.er y p c da G2 H2 (x.trans z) w⟩
section
variable{mg:Str->Option Value}{E:XK}{n:Nat}
theorem errE{G H:Hp}{Q:VK}:Err mg E G H (fun r=>PostE mg E G H n r Q):=⟨fun h=>h,fun _ h=>h⟩
theorem errT{G H:Hp}{Q:Bool->Hp->Prop}:Err mg E G H (fun r=>PostT mg E G H r Q):=⟨fun h=>h,fun _ h=>h⟩
theorem errA{G H:Hp}{Q:List V->Hp->Prop}:Err mg E G H (fun r=>zTU mg E G H n r Q):=⟨fun h=>h,fun _ h=>h⟩
theorem DE.step{β:Type}{t:TE}{m:EM}(D:DE mg E t m n){G H:Hp}{σ:St}{ρ:Rh}{Q:VK}{P:R β->Prop}{f:Dt->R β}(hE:Err mg E G H P)(s:Same G H)(w:View G σ ρ)(p:P (zA3 (m ρ) f))
  (h:∀d v G' H' S,m ρ=okR d->Fr G H G' H' S->Own G' H' n S d v->P (f d)->Q v H'):t σ H Q:=by
 refine D G H σ ρ Q s w ?_;cases e:m ρ with
 |none=>rw[e]at p;exact hE.no p
 |some r=>
  rw[e]at p;cases r with
  |error x=>exact hE.er x p
  |ok d=>exact fun v G' H' S fr o=>h d v G' H' S e fr o p
theorem DT.step{β:Type}{t:TT}{m:TM}(D:DT mg E t m){G H:Hp}{σ:St}{ρ:Rh}{Q:Bool->Hp->Prop}{P:R β->Prop}{f:Bool->R β}(hE:Err mg E G H P)(s:Same G H)(w:View G σ ρ)(p:P (zA3 (m ρ) f))
  (h:∀b H',m ρ=okR b->Same H H'->P (f b)->Q b H'):t σ H Q:=by
 refine D G H σ ρ Q s w ?_;cases e:m ρ with
 |none=>rw[e]at p;exact hE.no p
 |some r=>
  rw[e]at p;cases r with
  |error x=>exact hE.er x p
  |ok b=>exact fun H' sH=>h b H' e sH p
theorem DA.step{β:Type}{t:TA}{m:AM}(D:DA mg E t m n){G H:Hp}{σ:St}{ρ:Rh}{Q:List V->Hp->Prop}{P:R β->Prop}{f:List Dt->R β}(hE:Err mg E G H P)(s:Same G H)(w:View G σ ρ)(p:P (zA3 (m ρ) f))
  (h:∀ds vs G' H' S T,m ρ=okR ds->Fr G H G' H' S->OwnA G' H' n S ds vs T->P (f ds)->Q vs H'):t σ H Q:=by
 refine D G H σ ρ Q s w ?_;cases e:m ρ with
 |none=>rw[e]at p;exact hE.no p
 |some r=>
  rw[e]at p;cases r with
  |error x=>exact hE.er x p
  |ok ds=>exact fun vs G' H' S T fr o=>h ds vs G' H' S T e fr o p
theorem PostE.from{G H G' H':Hp}{Q:VK}{r:R Dt}(p:PostE mg E G H n r Q)(x:Ext G H G' H'):PostE mg E G' H' n r Q:=by
 cases r with
 |none=>exact p
 |some r=>
  cases r with
  |error y=>exact fun c da G2 H2 z w=>p c da G2 H2 (x.trans z) w
  |ok d=>
   exact fun v G2 H2 S fr o=>p v G2 H2 S ⟨x.trans fr.ext,fun a ha=>⟨x.h.free (fr.new a ha).1,(fr.new a ha).2⟩⟩ o
theorem PostT.from{G H G' H':Hp}{Q:Bool->Hp->Prop}{r:R Bool}(p:PostT mg E G H r Q)(x:Ext G H G' H'):PostT mg E G' H' r Q:=by
 cases r with
 |none=>exact p
 |some r=>
  cases r with
  |error y=>exact fun c da G2 H2 z w=>p c da G2 H2 (x.trans z) w
  |ok d=>exact fun H2 s=>p H2 (x.h.trans s)
theorem Fr.from{G H G1 H1 G2 H2:Hp}{S:Addr->Prop}(x:Ext G H G1 H1)(f:Fr G1 H1 G2 H2 S):Fr G H G2 H2 S:=⟨x.trans f.ext,fun a ha=>⟨x.h.free (f.new a ha).1,(f.new a ha).2⟩⟩
theorem PostE.val{G H G' H':Hp}{d:Dt}{v:V}{Q:VK}(p:PostE mg E G H n (okR d) Q)(x:Ext G H G' H')(hd:d.dep=0)(h:Rep G' d v):Q v H':=
 p v G' H' (fun _=>False) ⟨x,fun _ z=>z.elim⟩ (zOY h hd)
theorem PostE.kept{G H G' H':Hp}{d:Dt}{v:V}{Q:VK}(p:PostE mg E G H 0 (okR d) Q)(x:Ext G H G' H')(h:Rep G' d v):Q v H':=
 p v G' H' (fun _=>False) ⟨x,fun _ z=>z.elim⟩ h
theorem zAT{t:TE}{m:EM}{n:Nat}(D:DE mg E t m n):DE mg E t m 0:=by
 intro G H σ ρ Q s w p;refine D G H σ ρ Q s w ?_;cases e:m ρ with
 |none=>rw[e]at p;exact p
 |some r=>
  rw[e]at p;cases r with
  |error x=>exact p
  |ok d=>
   intro v G' H' S fr o;obtain⟨x,r⟩:=fr.frz o;exact PostE.kept p x r
end
end L3
namespace L3
open PySem PySem.Spec
open L2 hiding Rep RepL
open Mi (Dt Xn R okR zA3 optR zA0 zA8 zAF zAD zAE Rh Sl Ro EM TM AM FM IM SM Tg Out zAQ zAP zAV full frz frz1 frzAt)
section
variable[Kc]{mg:Str->Option Value}{E:XK}{n k l:Nat}{ta tb tc:TE}{ma mb mc:EM}
theorem zAC{i:Int}:DE mg E (tC (.int i)) (Mi.eC (.int i)) n:=fun G H σ ρ Q s w p=>PostE.val p (Ext.refl s) rfl rfl
theorem zH5{b:Bool}:DE mg E (tC (.bl b)) (Mi.eC (.bl b)) n:=fun G H σ ρ Q s w p=>PostE.val p (Ext.refl s) rfl rfl
theorem zMJ:DE mg E (tC .non) (Mi.eC .non) n:=fun G H σ ρ Q s w p=>PostE.val p (Ext.refl s) rfl rfl
theorem zP9{x:Str}:DE mg E (tC (.str x)) (Mi.eC (.str x)) n:=fun G H σ ρ Q s w p=>PostE.val p (Ext.refl s) rfl rfl
theorem de_v(i:Nat):DE mg E (vM i) (Mi.eV i) 0:=by
 intro G H σ ρ Q s w p;unfold Mi.eV at p;cases e:ρ[i]? with
 |none=>rw[e]at p;exact p.elim
 |some o=>
  rw[e]at p;cases o with
  |none=>exact p.elim
  |some d=>
   obtain⟨v,h1,h2⟩:=w.at i d e;unfold vM;rw[h1];exact PostE.kept p (Ext.refl s) h2
def ROp(r:R2)(f:Dt->Dt->Option Dt)(n:Nat):Prop:=∀(mg:Str->Option Value)(E:XK)(G H:Hp)(d e:Dt)(x y:V)(Q:VK),Same G H->Rep G d x->Rep G e y->PostE mg E G H n (optR (f d e)) Q->r x y H Q
theorem zA7{r:R2}{f:Dt->Dt->Option Dt}(hr:ROp r f n)(A:DE mg E ta ma k)(B:DE mg E tb mb l):DE mg E (tOp r ta tb) (Mi.eB f ma mb) n:=by
 intro G H σ ρ Q s w p;refine(zAT A).step errE s w p fun d v G1 H1 S _ fr o p1=>?_
 refine(zAT B).step (errE.from fr.ext) fr.ext.in' (w.mono fr.ext.g) p1 fun e u G2 H2 S2 _ fr2 o2 p2=>?_
 exact hr mg E G2 H2 d e v u Q fr2.ext.in' (Rep.mono fr2.ext.g o) o2 (PostE.from p2 (fr.ext.trans fr2.ext))
def ROp1(r:V->Hp->VK->Prop)(f:Dt->Option Dt)(n:Nat):Prop:=∀(mg:Str->Option Value)(E:XK)(G H:Hp)(d:Dt)(x:V)(Q:VK),Same G H->Rep G d x->PostE mg E G H n (optR (f d)) Q->r x H Q
theorem zTK{r:V->Hp->VK->Prop}{f:Dt->Option Dt}(hr:ROp1 r f n)(A:DE mg E ta ma k):DE mg E (tUn r ta) (Mi.eU f ma) n:=by
 intro G H σ ρ Q s w p;refine(zAT A).step errE s w p fun d v G1 H1 S _ fr o p1=>?_
 exact hr mg E G1 H1 d v Q fr.ext.in' o (PostE.from p1 fr.ext)
theorem zEP(A:DE mg E ta ma k)(B:DE mg E tb mb n):DE mg E (fun σ H Q=>ta σ H fun x H1=>match x with | .bl c=>if c=true then tb σ H1 Q else Q (.bl false) H1|_=>False) (Mi.eAnd ma mb) n:=by
 intro G H σ ρ Q s w p;refine(zAT A).step errE s w p fun d v G1 H1 S _ fr o p1=>?_
 cases d with
 |bl b=>
  cases(show v=.bl b from o)
  cases b with
  |true=>exact B G1 H1 σ ρ Q fr.ext.in' (w.mono fr.ext.g) (PostE.from p1 fr.ext)
  |false=>exact PostE.val (PostE.from p1 fr.ext) (Ext.refl fr.ext.in') rfl rfl
 |_=>exact p1.elim
theorem zTM(A:DE mg E ta ma k):DE mg E (fun σ H Q=>ta σ H fun x H1=>match x with | .bl c=>Q (.bl (!c)) H1|_=>False) (Mi.eNot ma) n:=by
 intro G H σ ρ Q s w p;refine(zAT A).step errE s w p fun d v G1 H1 S _ fr o p1=>?_
 cases d with
 |bl b=>
  cases(show v=.bl b from o)
  exact PostE.val (PostE.from p1 fr.ext) (Ext.refl fr.ext.in') rfl rfl
 |_=>exact p1.elim
theorem zOI{α β:Type}(o:Option α)(f:α->R β):zA3 (optR o) f=match o with|none=>none|some a=>f a:=by cases o<;>rfl
theorem zK7{r r':R2}{f g:Dt->Dt->Option Dt}(hr:ROp r f 0)(hr':ROp r' g n)(A:DE mg E ta ma k)(B:DE mg E tb mb l){j:Nat}(C:DE mg E tc mc j) :
  DE mg E (fun σ H Q=>ta σ H fun x H1=>tb σ H1 fun y H2=>r x y H2 fun z H3=>match z with
   |.bl k=>if k=true then tc σ H3 fun w' H4=>r' y w' H4 Q else Q (.bl false) H3
   |_=>False) (Mi.eChain f g ma mb mc) n:=by
 intro G H σ ρ Q s w p;refine(zAT A).step errE s w p fun d v G1 H1 S _ fr o p1=>?_
 refine(zAT B).step (errE.from fr.ext) fr.ext.in' (w.mono fr.ext.g) p1 fun e u G2 H2 S2 _ fr2 o2 p2=>?_
 refine hr mg E G2 H2 d e v u _ fr2.ext.in' (Rep.mono fr2.ext.g o) o2 ?_;have p3:=PostE.from p2 (fr.ext.trans fr2.ext);rw[zOI]at p3;cases ez:f d e with
 |none=>rw[ez]at p3;exact p3
 |some z=>
  rw[ez]at p3;intro v3 G3 H3 S3 fr3 o3;obtain⟨x3,r3⟩:=fr3.frz o3;cases z with
  |bl b=>
   cases(show v3=.bl b from r3)
   cases b with
   |false=>exact PostE.val p3 x3 rfl rfl
   |true=>
    refine(zAT C).step (errE.from x3) x3.in' ((w.mono (fr.ext.g.trans fr2.ext.g)).mono x3.g) p3 fun c u4 G4 H4 S4 _ fr4 o4 p4=>?_
    exact hr' mg E G4 H4 e c u u4 Q fr4.ext.in' (Rep.mono (x3.g.trans fr4.ext.g) o2) o4 (PostE.from p4 (x3.trans fr4.ext))
  |_=>exact p3.elim
theorem zTN{tA:TT}{c:TM}(C:DT mg E tA c)(A:DE mg E ta ma n)(B:DE mg E tb mb n):DE mg E (tIf tA ta tb) (Mi.eIf c ma mb) n:=by
 intro G H σ ρ Q s w p;refine C.step errE s w p fun b H' _ sH p1=>?_
 have p2:=PostE.from p1 (Ext.same s sH);cases b with
 |true=>exact A G H' σ ρ Q (s.trans sH) w p2
 |false=>exact B G H' σ ρ Q (s.trans sH) w p2
theorem dt_b(A:DE mg E ta ma k):DT mg E (fun σ H Q=>ta σ H fun z H3=>match z with | .bl k=>Q k H3|_=>False) (Mi.tB ma):=by
 intro G H σ ρ Q s w p;refine(zAT A).step errT s w p fun d v G1 H1 S _ fr o p1=>?_
 cases d with
 |bl b=>
  cases(show v=.bl b from o)
  exact p1 H1 fr.ext.h
 |_=>exact p1.elim
theorem dt_m(A:DE mg E ta ma k):DT mg E (bM ta) (Mi.tM ma):=by
 intro G H σ ρ Q s w p;refine(zAT A).step errT s w p fun d v G1 H1 S _ fr o p1=>?_
 cases d with
 |bl b=>cases(show v=.bl b from o);exact p1 H1 fr.ext.h
 |int b=>cases(show v=.int b from o);exact p1 H1 fr.ext.h
 |non=>cases(show v=.non from o);exact p1 H1 fr.ext.h
 |_=>exact p1.elim
variable{tA tB:TT}{cA cB:TM}
theorem zE2(A:DT mg E tA cA)(B:DT mg E tB cB):DT mg E (L2.tAnd tA tB) (Mi.tAn cA cB):=by
 intro G H σ ρ Q s w p;refine A.step errT s w p fun b H' _ sH p1=>?_
 cases b with
 |true=>exact B G H' σ ρ Q (s.trans sH) w (PostT.from p1 (Ext.same s sH))
 |false=>exact p1 H' sH
theorem zIC(A:DT mg E tA cA)(B:DT mg E tB cB):DT mg E (L2.tOr tA tB) (Mi.tOr cA cB):=by
 intro G H σ ρ Q s w p;refine A.step errT s w p fun b H' _ sH p1=>?_
 cases b with
 |false=>exact B G H' σ ρ Q (s.trans sH) w (PostT.from p1 (Ext.same s sH))
 |true=>exact p1 H' sH
theorem zFU(A:DT mg E tA cA):DT mg E (L2.tNot tA) (Mi.tNo cA):=by
 intro G H σ ρ Q s w p;exact A.step errT s w p fun b H' _ sH p1=>p1 H' sH
theorem zD0:DT mg E L2.tYes Mi.tYes:=fun G H σ ρ Q s w p=>p H (Same.refl _)
variable{t:TA}{m:AM}
theorem zA6:DA mg E tNil Mi.aNil n:=fun G H σ ρ Q s w p=>p [] G H (fun _=>False) (fun _ _=>False) ⟨Ext.refl s,fun _ z=>z.elim⟩ ⟨rfl,fun q d x h=>by simp at h,fun _ _ _ z=>z.elim,fun _ _ z=>z.elim⟩
theorem zA2(A:DE mg E ta ma n)(B:DA mg E t m n):DA mg E (zDH ta t) (Mi.aCons ma m) n:=by
 intro G H σ ρ Q s w p;refine A.step errA s w p fun d v G1 H1 S1 _ fr o p1=>?_
 refine B.step (errA.from fr.ext) fr.ext.in' (w.mono fr.ext.g) p1 fun ds vs G2 H2 S2 T2 _ fr2 o2 p2=>?_
 refine p2 (v::vs) G2 H2 (fun a=>S1 a\/S2 a) (fun q=>match q with|0=>S1|q+1=>T2 q) ⟨fr.ext.trans fr2.ext,fun a ha=>?_⟩ ⟨by simp[o2.len],fun q d' x h1 h2=>?_,fun q r b h1 h2=>?_,fun q b h=>?_⟩
 ·rcases ha with ha|ha
  ·obtain⟨n1,n2,n3⟩:=fr.new a ha;exact⟨n1,(fr2.ext.old a n3).trans n2,fr2.ext.h.some n3⟩
  ·obtain⟨n1,n2,n3⟩:=fr2.new a ha;exact⟨fr.ext.h.free n1,n2,n3⟩
 ·cases q with
  |zero=>simp at h1 h2;subst h1;subst h2;exact o.mono fr2.ext.g fr2.ext.h
  |succ q=>exact o2.own q d' x (by simpa using h1) (by simpa using h2)
 ·have ap:∀r b,S1 b->T2 r b->False:=fun r b h1 h2=>(fr.new b h1).2.2 (fr2.new b (o2.sub r b h2)).1
  cases q with
  |zero=>
   cases r with
   |zero=>rfl
   |succ r=>exact(ap r b h1 h2).elim
  |succ q=>
   cases r with
   |zero=>exact(ap q b h2 h1).elim
   |succ r=>rw[o2.dis q r b h1 h2]
 ·cases q with
  |zero=>exact .inl h
  |succ q=>exact .inr (o2.sub q b h)
theorem OwnA.repL{G H:Hp}{S:Addr->Prop}{ds:List Dt}{vs:List V}{T:Nat->Addr->Prop}(o:OwnA G H 0 S ds vs T):RepL G ds vs:=zDI o.len fun q d x h1 h2=>o.own q d x h1 h2
theorem big'{n:Nat}(h:n<=100000):n<=sizeLine:=qBe (L2.big h)
theorem Fr.add{G H G' H':Hp}{S:Addr->Prop}(f:Fr G H G' H' S){p:Addr}(hp:H' p=none)(o:HO):Fr G H G' (upd H' p o) (fun a=>a=p\/S a):=by
 have sn:=L2.same_new hp o;refine⟨⟨f.ext.g,f.ext.h.trans sn,f.ext.in'.trans sn,f.ext.old⟩,fun a ha=>?_⟩
 rcases ha with rfl|ha
 ·exact⟨f.ext.h.free hp,f.ext.in'.free hp,by rw[zAH];simp⟩
 ·obtain⟨n1,n2,n3⟩:=f.new a ha;exact⟨n1,n2,sn.some n3⟩
theorem OwnA.kids{G' H':Hp}{S:Addr->Prop}{ds:List Dt}{vs:List V}{T:Nat->Addr->Prop}(o:OwnA G' H' n S ds vs T)(hn:∀a,S a->H' a≠none){p:Addr}(hp:H' p=none)(ob:HO) :
  Kids (Own G' (upd H' p ob) n) (fun a=>a=p\/S a) p ds vs T:=
 ⟨o.len,fun q d x h1 h2=>(o.own q d x h1 h2).mono (Same.refl _) (L2.same_new hp ob),.inl rfl,fun q z=>hn p (o.sub q p z) hp,o.dis,fun q b z=>.inr (o.sub q b z)⟩
theorem zBB(A:DA mg E t m n):DE mg E (tLst t) (Mi.eLst m) (n+1):=by
 intro G H σ ρ Q s w p;refine A.step errE s w p fun ds vs G1 H1 S T _ fr o p1=>?_
 by_cases hz:ds.length<=100000
 ·rw[if_pos hz]at p1;refine⟨by rw[o.len];exact big' hz,fun a ha=>?_⟩;exact p1 (.ref a) G1 _ _ (fr.add ha _) ⟨a,vs,T,rfl,zAH,o.kids (fun b hb=>(fr.new b hb).2.2) ha _⟩
 ·rw[if_neg hz]at p1;exact p1.elim
theorem zEO(A:DA mg E t m n):DE mg E (tTup t) (Mi.eTup m) (n+1):=by
 intro G H σ ρ Q s w p;refine A.step errE s w p fun ds vs G1 H1 S T _ fr o p1=>?_
 by_cases hz:ds.length<=100000
 ·rw[if_pos hz]at p1;refine⟨by rw[o.len];exact big' hz,fun a ha=>?_⟩;exact p1 (.ref a) G1 _ _ (fr.add ha _) ⟨a,vs,T,rfl,zAH,o.kids (fun b hb=>(fr.new b hb).2.2) ha _⟩
 ·rw[if_neg hz]at p1;exact p1.elim
theorem PostE.lst{G H G' H':Hp}{ds:List Dt}{xs:List V}{Q:VK}(p:PostE mg E G H 1 (okR (.lst ds)) Q)(x:Ext G H G' H')(r:RepL G' ds xs){a:Addr}(ha:H' a=none):Q (.ref a) (upd H' a (.lst xs)):=by
 have fr:Fr G H G' H' (fun _=>False):=⟨x,fun _ z=>z.elim⟩
 refine p (.ref a) G' _ _ (fr.add ha (.lst xs)) ⟨a,xs,fun _ _=>False,rfl,zAH,⟨r.length,fun q d y h1 h2=>zBO r h1 h2,.inl rfl,fun _ z=>z,fun _ _ _ z=>z.elim,fun _ _ z=>z.elim⟩⟩
def CBi(r:List V->Hp->VK->Prop)(f:List Dt->Option Dt)(n:Nat):Prop:=∀(mg:Str->Option Value)(E:XK)(G H:Hp)(ds:List Dt)(vs:List V)(Q:VK),Same G H->RepL G ds vs->PostE mg E G H n (optR (f ds)) Q->r vs H Q
theorem zBN{r:List V->Hp->VK->Prop}{f:List Dt->Option Dt}(hr:CBi r f n)(A:DA mg E t m 0):DE mg E (tCB r t) (Mi.eBi f m) n:=by
 intro G H σ ρ Q s w p;refine A.step errE s w p fun ds vs G1 H1 S T _ fr o p1=>?_
 exact hr mg E G1 H1 ds vs Q fr.ext.in' o.repL (PostE.from p1 fr.ext)
def spM(mg:Str->Option Value)(L:Nat)(f:FM):Sp:=fun vs H Q E=>∃G ds,Same (tabK Kc.K) G/\Same G H/\RepL G ds vs/\PostE mg E G H L (f ds) Q
theorem zD3{f:FM}(A:DA mg E t m 0):DE mg E (zG1 (spM mg n f) [] E t) (Mi.eCall f m) n:=by
 intro G H σ ρ Q s w p;refine A.step errE s w p fun ds vs G1 H1 S T _ fr o p1=>?_
 exact⟨G1,ds,w.tab.trans fr.ext.g,fr.ext.in',by rw[qBp];exact o.repL,PostE.from p1 fr.ext⟩
theorem zLB{G H:Hp}{o:Option Dt}{Q:VK}{d:Dt}{v:V}(s:Same G H)(p:PostE mg E G H n (optR o) Q)(e:o=some d)(hd:d.dep=0)(h:Rep G d v):Q v H:=by
 subst e;exact PostE.val p (Ext.refl s) hd h
theorem zCW:ROp zS1 Mi.addD 1:=by
 intro mg E G H d e x y Q s h1 h2 p;cases d with
 |int i=>
  cases e with
  |int j=>cases(show x=.int i from h1);cases(show y=.int j from h2);exact zLB s p rfl rfl rfl
  |_=>exact p.elim
 |str i=>
  cases e with
  |str j=>
   cases(show x=.str i from h1);cases(show y=.str j from h2)
   rw[Mi.addD]at p
   by_cases hz:i.length+j.length<=100000
   ·rw[if_pos hz]at p;exact⟨big' hz,PostE.val p (Ext.refl s) rfl rfl⟩
   ·rw[if_neg hz]at p;exact p.elim
  |_=>exact p.elim
 |lst ds=>
  cases e with
  |lst es=>
   obtain⟨a,xs,rfl,ha,ra⟩:=h1;obtain⟨b,ys,rfl,hb,rb⟩:=h2;rw[Mi.addD]at p
   by_cases hz:ds.length+es.length<=100000
   ·rw[if_pos hz]at p;refine⟨xs,ys,s _ _ ha,s _ _ hb,by rw[ra.length,rb.length];exact big' hz,fun q hq=>?_⟩;refine PostE.lst p (Ext.refl s) (zDI (by simp[ra.length,rb.length]) fun j d' x' e1 e2=>?_) hq
    by_cases hj:j<ds.length
    ·rw[qAa hj]at e1;rw[qAa (by rw[ra.length];exact hj)]at e2;exact zBO ra e1 e2
    ·rw[qA8 (by lia)]at e1;rw[qA8 (by rw[ra.length];lia),ra.length]at e2;exact zBO rb e1 e2
   ·rw[if_neg hz]at p;exact p.elim
  |_=>exact p.elim
 |_=>exact p.elim
theorem zJU:ROp zRO Mi.subD n:=by
 intro mg E G H d e x y Q s h1 h2 p;cases d with
 |int i=>
  cases e with
  |int j=>cases(show x=.int i from h1);cases(show y=.int j from h2);exact zLB s p rfl rfl rfl
  |_=>exact p.elim
 |_=>exact p.elim
theorem zDU:ROp zRT Mi.mulD n:=by
 intro mg E G H d e x y Q s h1 h2 p;cases d with
 |int i=>
  cases e with
  |int j=>
   cases(show x=.int i from h1);cases(show y=.int j from h2)
   rw[Mi.mulD]at p
   split at p
   ·rename_i hz;exact⟨hz,PostE.val p (Ext.refl s) rfl rfl⟩
   ·exact p.elim
  |_=>exact p.elim
 |_=>exact p.elim
theorem zRM:ROp zRY Mi.divD n:=by
 intro mg E G H d e x y Q s h1 h2 p;cases d with
 |int i=>
  cases e with
  |int j=>
   cases(show x=.int i from h1);cases(show y=.int j from h2)
   rw[Mi.divD]at p
   split at p
   ·rename_i hz;exact⟨hz,PostE.val p (Ext.refl s) rfl rfl⟩
   ·exact p.elim
  |_=>exact p.elim
 |_=>exact p.elim
theorem zDV:ROp zRU Mi.modD n:=by
 intro mg E G H d e x y Q s h1 h2 p;cases d with
 |int i=>
  cases e with
  |int j=>
   cases(show x=.int i from h1);cases(show y=.int j from h2)
   rw[Mi.modD]at p
   split at p
   ·rename_i hz;exact⟨hz,PostE.val p (Ext.refl s) rfl rfl⟩
   ·exact p.elim
  |_=>exact p.elim
 |_=>exact p.elim
theorem zRL:ROp zRQ Mi.powD n:=by
 intro mg E G H d e x y Q s h1 h2 p;cases d with
 |int i=>
  cases e with
  |int j=>
   cases(show x=.int i from h1);cases(show y=.int j from h2)
   rw[Mi.powD]at p
   split at p
   ·rename_i hz;exact⟨hz,PostE.val p (Ext.refl s) rfl rfl⟩
   ·exact p.elim
  |_=>exact p.elim
 |_=>exact p.elim
theorem zOR:ROp1 zRS Mi.negD n:=by
 intro mg E G H d x Q s h1 p;cases d with
 |int i=>cases(show x=.int i from h1);exact zLB s p rfl rfl rfl
 |_=>exact p.elim
theorem zEL{q:Int->Int->Bool}:ROp (zLD q) (Mi.cmpD q) n:=by
 intro mg E G H d e x y Q s h1 h2 p;cases d with
 |int i=>
  cases e with
  |int j=>cases(show x=.int i from h1);cases(show y=.int j from h2);exact zLB s p rfl rfl rfl
  |_=>exact p.elim
 |_=>exact p.elim
theorem zP5{G H:Hp}{d e:Dt}{x y:V}{Q:VK}{ng:Bool}(s:Same G H)(h1:Rep G d x)(h2:Rep G e y)(hd:d.dep<=40)(he:e.dep<=40)(q:Q (.bl (if ng then !Dt.eq d e else Dt.eq d e)) H) :
  ∃d' e',L2.Rep H d' x/\L2.Rep H e' y/\d'.dep<=40/\Q (.bl (if ng then !L2.Dat.eq d' e' else L2.Dat.eq d' e')) H:=
 ⟨conv d,conv e,zCP hd (Rep.mono s h1),zCP he (Rep.mono s h2),qAh (zD5 hd) hd,by rw[zH6 hd he];exact q⟩
theorem zEG{α:Type}[DecidableEq α](a b:α):(a==b)=decide (a=b):=by
 by_cases h:a=b
 ·subst h;simp
 ·simp[h]
theorem zGQ{G:Hp}{d:Dt}{i:Int}(h:Rep G d (.int i)):d=.int i:=by
 cases d with
 |int k=>cases h;rfl
 |non=>cases h
 |bl _=>cases h
 |str _=>cases h
 |lst _=>obtain⟨_,_,z,_⟩:=h;cases z
 |tup _=>obtain⟨_,_,z,_⟩:=h;cases z
 |scr _=>obtain⟨_,z,_⟩:=h;cases z
 |exc _ _ _=>obtain⟨_,_,_,z,_⟩:=h;cases z
 |fn _ _=>obtain⟨_,z,_⟩:=h;cases z
 |ins _ _=>obtain⟨_,_,_,z,_⟩:=h;cases z
 |dct _=>obtain⟨_,z,_⟩:=h;cases z
theorem zGP{G:Hp}{d:Dt}{i:Str}(h:Rep G d (.str i)):d=.str i:=by
 cases d with
 |str k=>cases h;rfl
 |non=>cases h
 |bl _=>cases h
 |int _=>cases h
 |lst _=>obtain⟨_,_,z,_⟩:=h;cases z
 |tup _=>obtain⟨_,_,z,_⟩:=h;cases z
 |scr _=>obtain⟨_,z,_⟩:=h;cases z
 |exc _ _ _=>obtain⟨_,_,_,z,_⟩:=h;cases z
 |fn _ _=>obtain⟨_,z,_⟩:=h;cases z
 |ins _ _=>obtain⟨_,_,_,z,_⟩:=h;cases z
 |dct _=>obtain⟨_,z,_⟩:=h;cases z
theorem zJV{G:Hp}{d:Dt}{i:Bool}(h:Rep G d (.bl i)):d=.bl i:=by
 cases d with
 |bl k=>cases h;rfl
 |non=>cases h
 |str _=>cases h
 |int _=>cases h
 |lst _=>obtain⟨_,_,z,_⟩:=h;cases z
 |tup _=>obtain⟨_,_,z,_⟩:=h;cases z
 |scr _=>obtain⟨_,z,_⟩:=h;cases z
 |exc _ _ _=>obtain⟨_,_,_,z,_⟩:=h;cases z
 |fn _ _=>obtain⟨_,z,_⟩:=h;cases z
 |ins _ _=>obtain⟨_,_,_,z,_⟩:=h;cases z
 |dct _=>obtain⟨_,z,_⟩:=h;cases z
theorem zCU:ROp rEqU Mi.eqD n:=by
 intro mg E G H d e x y Q s h1 h2 p;unfold Mi.eqD at p
 split at p
 ·rename_i hz
  have q:Q (.bl (Dt.eq d e)) H:=PostE.val p (Ext.refl s) rfl rfl;have g:=zP5 (ng:=false) (Q:=Q) s h1 h2 hz.1 hz.2 q;unfold rEqU
  split
  ·rw[zGQ h1,zGQ h2,Dt.eq,zEG]at q;exact q
  ·rw[zGP h1,zGP h2,Dt.eq,zEG]at q;exact q
  ·rw[zJV h1,zJV h2,Dt.eq,zEG]at q;exact q
  ·exact g
 ·exact p.elim
theorem zHQ:ROp rNeU Mi.neD n:=by
 intro mg E G H d e x y Q s h1 h2 p;unfold Mi.neD at p
 split at p
 ·rename_i hz
  have q:Q (.bl (!Dt.eq d e)) H:=PostE.val p (Ext.refl s) rfl rfl;have g:=zP5 (ng:=true) (Q:=Q) s h1 h2 hz.1 hz.2 q;unfold rNeU
  split
  ·rw[zGQ h1,zGQ h2,Dt.eq,zEG]at q;exact q
  ·rw[zGP h1,zGP h2,Dt.eq,zEG]at q;exact q
  ·rw[zJV h1,zJV h2,Dt.eq,zEG]at q;exact q
  ·exact g
 ·exact p.elim
theorem zO0{G:Hp}{d:Dt}{x:V}(h:Rep G d x):decide (x=.non)=Mi.isNonD d:=by
 cases d with
 |non=>cases h;rfl
 |bl _=>cases h;rfl
 |int _=>cases h;rfl
 |str _=>cases h;rfl
 |lst _=>obtain⟨_,_,rfl,_⟩:=h;rfl
 |tup _=>obtain⟨_,_,rfl,_⟩:=h;rfl
 |scr _=>obtain⟨_,rfl,_⟩:=h;rfl
 |exc _ _ _=>obtain⟨_,_,_,rfl,_⟩:=h;rfl
 |fn _ _=>obtain⟨_,rfl,_⟩:=h;rfl
 |ins _ _=>obtain⟨_,_,_,rfl,_⟩:=h;rfl
 |dct _=>obtain⟨_,rfl,_⟩:=h;rfl
theorem zUE:ROp (fun x y H Q=>y=.non/\Q (.bl (decide (x=.non))) H) Mi.isD n:=by
 intro mg E G H d e x y Q s h1 h2 p;cases e with
 |non=>exact⟨h2,by rw[zO0 h1];exact PostE.val p (Ext.refl s) rfl rfl⟩
 |_=>exact p.elim
theorem zM4(n:Nat)(i:Int):Mi.ixA n i=ixN n i:=rfl
theorem zP2{α:Type}(xs:List α)(i:Int):Mi.itA xs i=atI xs i:=rfl
theorem zPE{G:Hp}{ds:List Dt}{xs:List V}{i:Int}{d:Dt}(r:RepL G ds xs)(h:Mi.itA ds i=some d):∃x,atI xs i=some x/\Rep G d x:=by
 rw[zP2]at h;unfold atI at h ⊢;rw[r.length];cases e:ixN ds.length i with
 |none=>rw[e]at h;cases h
 |some j=>
  rw[e]at h;have h':ds[j]?=some d:=h;have hj:j<xs.length:=by rw[r.length];exact(qA2.mp h').1
  exact⟨xs[j],by simp[hj],zBO r h' (by simp[hj])⟩
theorem zAN:ROp (rIxU Kc.K) Mi.ixD 0:=by
 intro mg E G H d e x y Q s h1 h2 p;cases e with
 |int i=>
  cases(show y=.int i from h2)
  cases d with
  |lst ds=>
   obtain⟨a,xs,rfl,ha,ra⟩:=h1;cases er:Mi.itA ds i with
   |none=>rw[Mi.ixD,er]at p;exact p.elim
   |some c=>
    rw[Mi.ixD,er]at p;obtain⟨v,e1,r1⟩:=zPE ra er;exact⟨xs,v,.inl (SqL.of (s _ _ ha)),e1,PostE.kept p (Ext.refl s) r1⟩
  |tup ds=>
   obtain⟨a,xs,rfl,ha,ra⟩:=h1;cases er:Mi.itA ds i with
   |none=>rw[Mi.ixD,er]at p;exact p.elim
   |some c=>
    rw[Mi.ixD,er]at p;obtain⟨v,e1,r1⟩:=zPE ra er;exact⟨xs,v,.inr (SqT.of (s _ _ ha)),e1,PostE.kept p (Ext.refl s) r1⟩
  |scr ns=>
   obtain⟨a,rfl,ha⟩:=h1;cases er:Mi.itA ns i with
   |none=>rw[Mi.ixD,er]at p;exact p.elim
   |some c=>
    rw[Mi.ixD,er]at p;refine⟨ns.map V.int,.int c,zDT s ha,?_,PostE.kept p (Ext.refl s) rfl⟩;rw[zP2]at er;unfold atI at er ⊢;rw[qAn];cases e:ixN ns.length i with
    |none=>rw[e]at er;cases er
    |some j=>
     rw[e]at er;have er':ns[j]?=some c:=er
     show(ns.map V.int)[j]?=some (.int c)
     rw[qAg,er'];rfl
  |str z=>
   cases(show x=.str z from h1)
   rw[Mi.ixD]at p
   by_cases hz:z.length<=100000
   ·rw[if_pos hz]at p;cases er:Mi.itA z.cps.toList i with
    |none=>rw[er]at p;exact p.elim
    |some c=>rw[er]at p;exact⟨c,big' hz,er,PostE.kept p (Ext.refl s) rfl⟩
   ·rw[if_neg hz]at p;exact p.elim
  |_=>exact p.elim
 |_=>cases d<;>exact p.elim
theorem zE9{G:Hp}{d:Dt}{vs:List V}(h:RepL G [d] vs):∃x,vs=[x]/\Rep G d x:=by
 obtain⟨x,q,rfl,a,b⟩:=h
 cases(show q=[] from b)
 exact⟨x,rfl,a⟩
theorem zND{G:Hp}{d e:Dt}{vs:List V}(h:RepL G [d,e] vs):∃x y,vs=[x,y]/\Rep G d x/\Rep G e y:=by
 obtain⟨x,q,rfl,a,b⟩:=h;obtain⟨y,rfl,c⟩:=zE9 b;exact⟨x,y,rfl,a,c⟩
theorem zBI:CBi (zPR Kc.K) Mi.lenD n:=by
 intro mg E G H ds vs Q s h p;cases ds with
 |nil=>exact p.elim
 |cons a0 r0=>
  cases r0 with
  |cons _ _=>cases a0<;>exact p.elim
  |nil=>
   cases a0 with
   |lst es=>
    obtain⟨x,rfl,a,xs,rfl,ha,ra⟩:=zE9 h;exact⟨xs,.inl (SqL.of (s _ _ ha)),by rw[ra.length];exact PostE.val p (Ext.refl s) rfl rfl⟩
   |tup es=>
    obtain⟨x,rfl,a,xs,rfl,ha,ra⟩:=zE9 h;exact⟨xs,.inr (SqT.of (s _ _ ha)),by rw[ra.length];exact PostE.val p (Ext.refl s) rfl rfl⟩
   |scr ns=>
    obtain⟨x,rfl,a,rfl,ha⟩:=zE9 h;refine⟨ns.map V.int,zDT s ha,?_⟩;rw[qAn];exact PostE.val p (Ext.refl s) rfl rfl
   |str z=>
    obtain⟨x,rfl,hx⟩:=zE9 h
    cases(show x=.str z from hx)
    rw[Mi.lenD]at p
    by_cases hz:z.length<=100000
    ·rw[if_pos hz]at p;exact⟨big' hz,PostE.val p (Ext.refl s) rfl rfl⟩
    ·rw[if_neg hz]at p;exact p.elim
   |_=>exact p.elim
theorem zCC{G:Hp}:∀(ns:List Int),RepL G (ns.map Dt.int) (ns.map V.int)
 |[]=>rfl
 |_::r=>⟨_,_,rfl,rfl,zCC r⟩
theorem zH8:CBi (zG6 Kc.K) Mi.listD 1:=by
 intro mg E G H ds vs Q s h p;cases ds with
 |nil=>exact p.elim
 |cons a0 r0=>
  cases r0 with
  |cons _ _=>cases a0<;>exact p.elim
  |nil=>
   cases a0 with
   |lst es=>
    obtain⟨x,rfl,a,xs,rfl,ha,ra⟩:=zE9 h;exact .inl ⟨xs,.inl (SqL.of (s _ _ ha)),fun l hl=>PostE.lst p (Ext.refl s) ra hl⟩
   |tup es=>
    obtain⟨x,rfl,a,xs,rfl,ha,ra⟩:=zE9 h;exact .inl ⟨xs,.inr (SqT.of (s _ _ ha)),fun l hl=>PostE.lst p (Ext.refl s) ra hl⟩
   |scr ns=>
    obtain⟨x,rfl,a,rfl,ha⟩:=zE9 h;exact .inl ⟨ns.map V.int,zDT s ha,fun l hl=>PostE.lst p (Ext.refl s) (zCC ns) hl⟩
   |_=>exact p.elim
theorem zNA{G:Hp}(lo:Int)(k:Nat):RepL G (Mi.nums lo k) (zFI lo k):=by
 unfold Mi.nums zFI;refine zDI (by simp) fun q d x h1 h2=>?_
 rw[qAg]at h1 h2;cases e:(qA9 k)[q]? with
 |none=>rw[e]at h1;cases h1
 |some j=>rw[e]at h1 h2;cases h1;cases h2;rfl
theorem zIG{K:qA0}(A:DA mg E t m 0):DE mg E (tCB (zG6 K) (zDH (tCB zLC t) tNil)) (Mi.eBi Mi.rangeD m) 1:=by
 intro G H σ ρ Q s w p;refine A.step errE s w p fun ds vs G1 H1 S T _ fr o p1=>?_
 have p2:=PostE.from p1 fr.ext;have r:=o.repL;have s1:=fr.ext.in';have fin:∀(lo hi:Int),(-4611686018427387904<=lo/\lo<4611686018427387904/\-4611686018427387904<=hi/\hi<4611686018427387904)->hi-lo<=100000->PostE mg E G1 H1 1 (okR (.lst (Mi.nums lo (hi-lo).toNat))) Q ->
   ∀q,H1 q=none->zG6 K [.ref q] (upd H1 q (.rng lo hi)) Q:=by
  intro lo hi hb hz pp q hq;refine .inr ⟨lo,hi,zAH,⟨by lia,by lia,by lia,by lia⟩,by lia,fun l hl=>?_⟩;have sn:=L2.same_new hq (.rng lo hi);exact PostE.lst pp (Ext.same s1 sn) (zNA lo _) hl
 cases ds with
 |nil=>exact p2.elim
 |cons a0 r0=>
  cases a0 with
  |int i=>
   cases r0 with
   |nil=>
    obtain⟨x,rfl,hx⟩:=zE9 r
    cases(show x=.int i from hx)
    rw[Mi.rangeD]at p2
    split at p2
    ·rename_i hz
     intro q hq;refine fin 0 i ⟨by decide,by decide,hz.1.1,hz.1.2⟩ (by lia) ?_ q hq;rw[Int.sub_zero];exact p2
    ·exact p2.elim
   |cons b0 r1=>
    cases r1 with
    |cons _ _=>cases b0<;>exact p2.elim
    |nil=>
     cases b0 with
     |int j=>
      obtain⟨x,y,rfl,hx,hy⟩:=zND r
      cases(show x=.int i from hx)
      cases(show y=.int j from hy)
      rw[Mi.rangeD]at p2
      split at p2
      ·rename_i hz
       exact fun q hq=>fin i j hz.1 hz.2 p2 q hq
      ·exact p2.elim
     |_=>exact p2.elim
  |_=>rcases r0 with _|⟨_,_|_⟩<;>exact p2.elim
theorem zU5{G H:Hp}{d:Dt}{x:V}(s:Same G H)(h:Rep G d x)(hd:Mi.tyD d ≠ ""):zF5 H x=some (Mi.tyD d):=by
 cases d with
 |non=>cases h;rfl
 |bl _=>cases h;rfl
 |int _=>cases h;rfl
 |str _=>cases h;rfl
 |lst _=>obtain⟨a,xs,rfl,ha,_⟩:=h;unfold zF5;dsimp only;rw[s _ _ ha];rfl
 |tup _=>obtain⟨a,xs,rfl,ha,_⟩:=h;unfold zF5;dsimp only;rw[s _ _ ha];rfl
 |scr _=>exact absurd rfl hd
 |exc _ _ _=>exact absurd rfl hd
 |fn _ _=>exact absurd rfl hd
 |ins _ _=>exact absurd rfl hd
 |dct _=>exact absurd rfl hd
theorem zGG{nm:String}(hn:nm∈["int","bool","str","list","tuple","dict"])(A:DE mg E ta ma k):DE mg E (tCB zRX (zDH ta (zDH (tC (.ty nm)) tNil))) (Mi.eIsi nm ma) n:=by
 intro G H σ ρ Q s w p;refine(zAT A).step errE s w p fun d v G1 H1 S _ fr o p1=>?_
 have p2:=PostE.from p1 fr.ext;unfold Mi.isiD at p2
 split at p2
 ·exact p2.elim
 ·rename_i hd
  exact⟨Mi.tyD d,zU5 fr.ext.in' o hd,hn,PostE.val p2 (Ext.refl fr.ext.in') rfl rfl⟩
theorem zIP{G:Hp}:∀{ds:List Dt}{bs:List Bool}{xs:List V},Mi.boolsD ds=some bs->RepL G ds xs->xs=bs.map V.bl
 |[],bs,xs,h,r=>by cases h;exact r
 |.bl b::ds,bs,xs,h,r=>by
  obtain⟨x,q,rfl,a,c⟩:=r;rw[Mi.boolsD]at h;cases e:Mi.boolsD ds with
  |none=>rw[e]at h;cases h
  |some cs=>
   rw[e]at h;cases h;rw[zIP e c,show x=.bl b from a];rfl
 |.non::_,_,_,h,_=>by simp[Mi.boolsD]at h
 |.int _::_,_,_,h,_=>by simp[Mi.boolsD]at h
 |.str _::_,_,_,h,_=>by simp[Mi.boolsD]at h
 |.lst _::_,_,_,h,_=>by simp[Mi.boolsD]at h
 |.tup _::_,_,_,h,_=>by simp[Mi.boolsD]at h
 |.scr _::_,_,_,h,_=>by simp[Mi.boolsD]at h
 |.exc _ _ _::_,_,_,h,_=>by simp[Mi.boolsD]at h
 |.fn _ _::_,_,_,h,_=>by simp[Mi.boolsD]at h
 |.ins _ _::_,_,_,h,_=>by simp[Mi.boolsD]at h
 |.dct _::_,_,_,h,_=>by simp[Mi.boolsD]at h
theorem zTR:CBi zS0 Mi.allD n:=by
 intro mg E G H ds vs Q s h p;cases ds with
 |nil=>exact qA3 p
 |cons hd1 tl1=>
  cases hd1 with
  |lst es=>
   cases tl1 with
   |nil=>
    obtain⟨x,rfl,a,xs,rfl,ha,ra⟩:=zE9 h;rw[Mi.allD]at p;cases e:Mi.boolsD es with
    |none=>rw[e]at p;exact p.elim
    |some bs=>
     rw[e]at p;exact⟨bs,by rw[<- zIP e ra];exact s _ _ ha,PostE.val p (Ext.refl s) rfl rfl⟩
   |cons _ _=>exact qA3 p
  |_=>exact qA3 p
end
end L3
namespace L3
open PySem PySem.Spec
open L2 hiding Rep RepL
open Mi (Dt Xn R okR zA3 optR zA0 zA8 zAF zAD zAE Rh Sl Ro EM TM AM FM IM SM Tg Out zAQ zAP zAV full frz frz1 frzAt)
variable[Kc]
def ItOk(J:It)(G:Hp)(ds:List Dt):Prop:=∀(i:Nat)(G1 H1:Hp),Same G G1->Same G1 H1->(i<ds.length->J.go i H1)/\(ds.length<=i->J.stop i H1)/\∀x H2 d,ds[i]?=some d->J.yld i H1 x H2->∃G2,Ext G1 H1 G2 H2/\Rep G2 d x
noncomputable def zMS(ind:Bool)(G:Hp):Hp:=if ind=true then(fun _=>none)else G
def zTT(mg:Str->Option Value)(E:XK)(G H:Hp)(ind:Bool)(r:R (List Dt))(Q:It->Hp->Prop):Prop:=match r with
 |none=>False
 |some (.error x)=>∀c da G' H',Ext G H G' H'->XRep mg x c da G' H'->E c da H'
 |some (.ok ds)=>∀J G' H',Ext G H G' H'->ItOk J (zMS ind G') ds->Q J H'
def DI(mg:Str->Option Value)(E:XK)(t:TI)(m:IM)(ind:Bool):Prop:=∀(G H:Hp)(σ:St)(ρ:Rh)(Q:It->Hp->Prop),Same G H->View G σ ρ->zTT mg E G H ind (m ρ) Q->t σ H Q
section
variable{mg:Str->Option Value}{E:XK}{n k l:Nat}{ta te:TE}{ma me:EM}{t:TA}{m:AM}{ind:Bool}
theorem errI{G H:Hp}{Q:It->Hp->Prop}:Err mg E G H (fun r=>zTT mg E G H ind r Q):=⟨fun h=>h,fun _ h=>h⟩
theorem errB{G H:Hp}{α β:Type}{P:R β->Prop}(e:Err mg E G H P)(g:α->R β):Err mg E G H (fun r=>P (zA3 r g)):=⟨fun h=>e.no h,fun x h=>e.er x h⟩
theorem DI.step{β:Type}{t:TI}{m:IM}(D:DI mg E t m ind){G H:Hp}{σ:St}{ρ:Rh}{Q:It->Hp->Prop}{P:R β->Prop}{f:List Dt->R β}(hE:Err mg E G H P)(s:Same G H)(w:View G σ ρ)(p:P (zA3 (m ρ) f))
  (h:∀ds J G' H',m ρ=okR ds->Ext G H G' H'->ItOk J (zMS ind G') ds->P (f ds)->Q J H'):t σ H Q:=by
 refine D G H σ ρ Q s w ?_;cases e:m ρ with
 |none=>rw[e]at p;exact hE.no p
 |some r=>
  rw[e]at p;cases r with
  |error x=>exact hE.er x p
  |ok ds=>exact fun J G' H' x i=>h ds J G' H' e x i p
theorem zP1{K:qA0}{G:Hp}{a:Addr}{xs:List V}{ds:List Dt}(ha:SqL K G a xs)(r:RepL G ds xs):ItOk (Itl K a) G ds:=by
 intro i G1 H1 s1 s2;have hS:SqL K H1 a xs:=(s1.trans s2).seq ha;refine⟨fun hi=>⟨xs,xs[i]'(by rw[r.length];exact hi),hS,by simp⟩,fun hi=>⟨xs,hS,by rw[r.length];exact hi⟩,fun x H2 d hd hy=>?_⟩;obtain⟨rfl,hy⟩:=hy;exact⟨G1,Ext.refl s2,Rep.mono s1 (zBO r hd (hy xs hS))⟩
theorem zP0{K:qA0}{G:Hp}{a:Addr}{xs:List V}{ds:List Dt}(ha:SqT K G a xs)(r:RepL G ds xs):ItOk (Itt K a) G ds:=by
 intro i G1 H1 s1 s2;have hS:SqT K H1 a xs:=zFA (s1.trans s2) ha;refine⟨fun hi=>⟨xs,xs[i]'(by rw[r.length];exact hi),hS,by simp⟩,fun hi=>⟨xs,hS,by rw[r.length];exact hi⟩,fun x H2 d hd hy=>?_⟩;obtain⟨rfl,hy⟩:=hy;exact⟨G1,Ext.refl s2,Rep.mono s1 (zBO r hd (hy xs hS))⟩
theorem zT7{G:Hp}(lo:Int)(k:Nat):ItOk (Itr lo k) G (Mi.nums lo k):=by
 intro i G1 H1 s1 s2;have hl:(Mi.nums lo k).length=k:=by simp[Mi.nums]
 refine⟨fun hi=>by rw[hl]at hi;exact hi,fun hi=>by rw[hl]at hi;exact hi,fun x H2 d hd hy=>?_⟩;obtain⟨rfl,rfl⟩:=hy;refine⟨G1,Ext.refl s2,?_⟩;unfold Mi.nums at hd;rw[qAg]at hd;cases e:(qA9 k)[i]? with
 |none=>rw[e]at hd;cases hd
 |some j=>
  rw[e]at hd;cases hd;have hj:j=i:=by
   obtain⟨h1,h2⟩:=qA2.mp e;rw[qC4]at h2;exact h2.symm
  subst hj;rfl
theorem zEF(A:DA mg E t m 0):DI mg E (zT9 t) (Mi.iR1 m) true:=by
 intro G H σ ρ Q s w p;refine A.step errI s w p fun ds vs G1 H1 S T _ fr o p1=>?_
 have r:=o.repL;cases ds with
 |nil=>exact qA3 p1
 |cons hd1 tl1=>
  cases hd1 with
  |int j=>
   cases tl1 with
   |nil=>
    obtain⟨x,rfl,hx⟩:=zE9 r
    cases(show x=.int j from hx)
    dsimp only at p1
    split at p1
    ·rename_i hz
     exact⟨j,rfl,by lia,by lia,p1 _ G1 H1 fr.ext (zT7 0 _)⟩
    ·exact p1.elim
   |cons _ _=>exact qA3 p1
  |_=>exact qA3 p1
theorem Ext.new{G H:Hp}(s:Same G H){T:Addr}(hT:H T=none)(o:HO):Ext G H (upd G T o) (upd H T o):=by
 refine⟨L2.same_new (s.free hT) o,L2.same_new hT o,fun b u e=>?_,fun b hb=>zA9 fun z=>hb (z▸hT)⟩
 by_cases z:b=T
 ·subst z;rw[zAH]at e ⊢;exact e
 ·rw[zA9 z]at e ⊢;exact s _ _ e
noncomputable def zF9:St->List (Nat×V)->St
 |σ,[]=>σ
 |σ,(i,v)::r=>zF9 (σ.set i (some v)) r
inductive BsRep(G:Hp):List (Nat×Dt)->List (Nat×V)->Prop
 |nil:BsRep G [] []
 |cons {i d v bs ws}:Rep G d v->BsRep G bs ws->BsRep G ((i,d)::bs) ((i,v)::ws)
theorem View.set{G:Hp}{σ:St}{ρ:Rh}{i:Nat}{d:Dt}{v:V}(w:View G σ ρ)(r:Rep G d v):View G (σ.set i (some v)) (ρ.set i (some d)):=by
 refine⟨by simp[w.len],fun j e h=>?_,w.tab⟩;have hj:j<ρ.length:=by
  have:=(qA2.mp h).1
  simpa using this
 by_cases z:i=j
 ·subst z;rw[qAc hj]at h;cases h;exact⟨v,qAc (by rw[<- w.len];exact hj),r⟩
 ·rw[qAd z]at h;obtain⟨u,h1,h2⟩:=w.at j e h;exact⟨u,by rw[qAd z];exact h1,h2⟩
theorem View.sets{G:Hp}{bs ws}(h:BsRep G bs ws):∀{σ:St}{ρ:Rh},View G σ ρ->View G (zF9 σ ws) (zAP ρ bs):=by
 induction h with
 |nil=>exact fun w=>w
 |cons r _ ih=>exact fun w=>ih (w.set r)
def TgOk(g:TG)(tg:Tg):Prop:=∀(G H:Hp)(σ:St)(d:Dt)(x:V)(bs:List (Nat×Dt))(Q:St->Hp->Prop),Same G H->Rep G d x->zAQ tg d=some bs->(∀ws,BsRep G bs ws->Q (zF9 σ ws) H)->g x σ H Q
def zMX(g:TGs)(is:List Nat):Prop:=∀(G H:Hp)(σ:St)(ds:List Dt)(xs:List V)(Q:St->Hp->Prop),RepL G ds xs->ds.length=is.length->(∀ws,BsRep G (is.zip ds) ws->Q (zF9 σ ws) H)->g xs σ H Q
theorem zB0(i:Nat):TgOk (zFR i) (.one i):=by
 intro G H σ d x bs Q s r e h;cases e;exact h [(i,x)] (.cons r .nil)
theorem zL4:zMX gNil []:=by
 intro G H σ ds xs Q r hl h;cases ds with
 |nil=>cases(show xs=[] from r);exact⟨rfl,h [] .nil⟩
 |cons _ _=>simp at hl
theorem zEW(i:Nat){g:TGs}{is:List Nat}(hg:zMX g is):zMX (zTA (zFR i) g) (i::is):=by
 intro G H σ ds xs Q r hl h;cases ds with
 |nil=>simp at hl
 |cons d ds=>
  obtain⟨x,q,rfl,a,b⟩:=r;exact⟨x,q,rfl,hg G H _ ds q Q b (by simpa using hl) fun ws hw=>h ((i,x)::ws) (.cons a hw)⟩
theorem zR6{K:qA0}{g:TGs}{is:List Nat}{k:Nat}(hg:zMX g is)(hk:is.length=k):TgOk (gTup K k g) (.tup is):=by
 intro G H σ d x bs Q s r e h;cases d with
 |tup ds=>
  obtain⟨a,xs,rfl,ha,ra⟩:=r;rw[zAQ]at e
  by_cases hz:ds.length=is.length
  ·rw[if_pos hz]at e;cases e;exact⟨a,xs,rfl,SqT.of (s _ _ ha),by rw[ra.length,hz,hk],hg G H σ ds xs Q ra hz h⟩
  ·rw[if_neg hz]at e;cases e
 |_=>simp[zAQ]at e
theorem zHO:∀(ws:List (Nat×V))(σ own:St),(∀p∈ws,σ.length<=p.1)->∃own':St,own'.length=own.length/\zF9 (σ++own) ws=σ++own'
 |[],σ,own,_=>⟨own,rfl,rfl⟩
 |(i,v)::r,σ,own,h=>by
  have hi:σ.length<=i:=h (i,v) (by simp);rw[zF9,qDh _ _ hi];obtain⟨o,h1,h2⟩:=zHO r σ (own.set (i-σ.length) (some v)) fun p hp=>h p (by simp[hp])
  exact⟨o,by rw[h1,qEn],h2⟩
theorem BsRep.idx{G:Hp}{bs ws}(h:BsRep G bs ws):ws.map (·.1)=bs.map (·.1):=by
 induction h with
 |nil=>rfl
 |cons _ _ ih=>simp[ih]
theorem zMR{tg:Tg}{d:Dt}{bs:List (Nat×Dt)}(h:zAQ tg d=some bs):∀i∈bs.map (·.1),i∈tg.idx:=by
 cases tg with
 |one i=>cases h;simp[Tg.idx]
 |tup is=>
  cases d with
  |tup ds=>
   rw[zAQ]at h
   split at h
   ·cases h;intro i hi;obtain⟨p,hp,e⟩:=qC0.mp hi;rw[<- e];obtain⟨a,b⟩:=p;exact(qBq hp).1
   ·cases h
  |_=>simp[zAQ]at h
theorem zBM{wi:TI}{g:TG}{tif:TT}{it:IM}{tg:Tg}{c:TM}(I:DI mg E wi it ind)(hT:TgOk g tg)(C:DT mg E tif c)(B:DE mg E te me n):DE mg E (zPL wi k g tif te) (Mi.eComp it k tg c me) (n+1):=by
 intro G H σ ρ Q s w p;refine I.step errE s w p fun ds J G1 H1 _ x1 io p1=>?_
 by_cases hz:ds.length<=100000/\(tg.idx.all fun i=>decide (ρ.length<=i))=true
 case neg=>rw[if_neg hz]at p1;exact p1.elim
 rw[if_pos hz]at p1;obtain⟨hz,hix⟩:=hz;have hb1:Same (zMS ind G1) G1:=by
  unfold zMS
  split
  ·exact fun b o e=>by cases e
  ·exact Same.refl _
 refine⟨fun i m acc H'=>m=ds.length-i/\i<=ds.length/\∃G' as S T,Fr G H G' H' S/\Same G1 G'/\OwnA G' H' n S as acc T/\as.length<=i/\PostE mg E G H (n+1) (zA3 (Mi.compGo ρ k tg c me (ds.drop i) as) fun es=>okR (.lst es)) Q,
  ⟨_,rfl,qAx _,G1,[],fun _=>False,fun _ _=>False,⟨x1,fun _ z=>z.elim⟩,Same.refl _,⟨rfl,fun q d x h=>by simp at h,fun _ _ _ z=>z.elim,fun _ _ z=>z.elim⟩,qA4 _,by rw[qCu];exact p1⟩,?_⟩
 rintro i m acc H' ⟨rfl,hi,G',as,S,T,fr,sg,o,hl,p⟩
 obtain⟨j1,j2,j3⟩:=io i G' H' (hb1.trans sg) fr.ext.in'
 by_cases hlt:i<ds.length
 ·refine .inr ⟨j1 hlt,by rw[o.len];exact L2.big (by lia),fun acc' H''=>ds.length-(i+1)=ds.length-(i+1)/\i+1<=ds.length/\∃G' as S T,Fr G H G' H'' S/\Same G1 G'/\OwnA G' H'' n S as acc' T/\as.length<=i+1/\PostE mg E G H (n+1) (zA3 (Mi.compGo ρ k tg c me (ds.drop (i+1)) as) fun es=>okR (.lst es)) Q,
   fun acc' H'' q=>⟨ds.length-(i+1),by lia,q⟩,fun x H2 hy=>?_⟩
  have hd:ds[i]?=some ds[i]:=qAe hlt;obtain⟨G2,x2,r2⟩:=j3 x H2 ds[i] hd hy;rw[qBg hlt,Mi.compGo]at p;cases eb:zAQ tg ds[i]with
  |none=>rw[eb]at p;exact p.elim
  |some bs=>
   rw[eb]at p;dsimp only at p;refine hT G2 H2 _ _ x bs _ x2.in' r2 eb fun ws hb=>?_
   have hsl:∀q∈ws,σ.length<=q.1:=fun q hq=>by
    have h1:q.1∈bs.map (·.1):=by rw[<- hb.idx];exact qDs hq
    have h2:=qCf.mp hix q.1 (zMR eb q.1 h1);rw[<- w.len];exact of_decide_eq_true h2
   obtain⟨own,ho1,ho2⟩:=zHO ws σ (qA5 k none) hsl;refine⟨own,by rw[ho1,qCc],ho2,?_⟩;have x02:=fr.ext.trans x2;have w2:View G2 (zF9 (σ++qA5 k none) ws) (zAP (ρ++qA5 k none) bs):=by
    refine View.sets hb ⟨by simp[w.len],fun j d h=>?_,w.tab.trans x02.g⟩
    by_cases hj:j<ρ.length
    ·rw[qAa hj]at h;obtain⟨v,a,b⟩:=w.at j d h;exact⟨v,by rw[qAa (by rw[<- w.len];exact hj)];exact a,Rep.mono x02.g b⟩
    ·rw[qA8 (by lia),qBa]at h
     split at h<;>cases h
   refine C.step ((errB errE _).from x02) x2.in' w2 p fun b H3 _ s3 p3=>?_
   have x3:Ext G2 H2 G2 H3:=Ext.same x2.in' s3;have x03:=x02.trans x3;have newS:∀a,S a->H a=none/\G2 a=none/\H3 a≠none:=fun a ha=>by
    obtain⟨n1,n2,n3⟩:=fr.new a ha;exact⟨n1,(x2.old a n3).trans n2,s3.some (x2.h.some n3)⟩
   have own3:OwnA G2 H3 n S as acc T:=⟨o.len,fun q d y h1 h2=>(o.own q d y h1 h2).mono x2.g (x2.h.trans s3),o.dis,o.sub⟩
   cases b with
   |false=>exact⟨rfl,hlt,G2,as,S,T,⟨x03,newS⟩,sg.trans x2.g,own3,by lia,p3⟩
   |true=>
    refine B.step ((errB errE _).from x03) x3.in' w2 p3 fun e v G4 H4 S4 _ fr4 o4 p4=>?_
    have ap:∀q b,T q b->S4 b->False:=fun q b h1 h2=>(newS b (o.sub q b h1)).2.2 (fr4.new b h2).1
    refine⟨rfl,hlt,G4,as++[e],fun a=>S a\/S4 a,fun q b=>(q<as.length/\T q b)\/(q=as.length/\S4 b),⟨x03.trans fr4.ext,fun a ha=>?_⟩,sg.trans (x2.g.trans fr4.ext.g),⟨by simp[o.len],fun q d y h1 h2=>?_,fun q r b h1 h2=>?_,fun q b h=>?_⟩,by simp;lia,p4⟩
    ·rcases ha with ha|ha
     ·obtain⟨n1,n2,n3⟩:=newS a ha;exact⟨n1,(fr4.ext.old a n3).trans n2,fr4.ext.h.some n3⟩
     ·obtain⟨n1,n2,n3⟩:=fr4.new a ha;exact⟨x03.h.free n1,n2,n3⟩
    ·by_cases hq:q<as.length
     ·rw[qAa hq]at h1;rw[qAa (by rw[o.len];exact hq)]at h2;exact((own3.own q d y h1 h2).mono fr4.ext.g fr4.ext.h).sub fun b z=>.inl ⟨hq,z⟩
     ·rw[qA8 (by lia)]at h1;rw[qA8 (by rw[o.len];lia),o.len]at h2;have hq0:q-as.length=0:=by
       have:=(qA2.mp h1).1
       simp at this;lia
      rw[hq0]at h1 h2;simp at h1 h2;subst h1;subst h2;exact o4.sub fun b z=>.inr ⟨by lia,z⟩
    ·rcases h1 with⟨a1,t1⟩|⟨a1,t1⟩<;>rcases h2 with⟨a2,t2⟩|⟨a2,t2⟩
     ·exact o.dis q r b t1 t2
     ·exact(ap q b t1 t2).elim
     ·exact(ap r b t2 t1).elim
     ·lia
    ·rcases h with⟨_,z⟩|⟨_,z⟩
     ·exact .inl (o.sub q b z)
     ·exact .inr z
 ·have e:i=ds.length:=by lia
  subst e;refine .inl ⟨j2 (qA4 _),fun D hD=>?_⟩;rw[qD9,Mi.compGo]at p;exact p (.ref D) G' _ _ (fr.add hD _) ⟨D,acc,T,rfl,zAH,o.kids (fun b hb=>(fr.new b hb).2.2) hD _⟩
end
end L3
namespace L3
open PySem PySem.Spec
open L2 hiding Rep RepL
open Mi (Dt Xn R okR zA3 optR zA0 zA8 zAF zAD zAE Rh Sl Ro EM TM AM FM IM SM Tg Out zAQ zAP zAV full frz frz1 frzAt)
variable[Kc]
structure Sat(G0 H0 S0:Hp)(σ:St)(ρ:Ro)(G H:Hp)(As:Nat->Addr->Prop):Prop where
 ext:Ext G0 H0 G H
 stb:Same S0 G
 tab:Same (tabK Kc.K) G0
 len:ρ.length=σ.length
 «at»:∀(i:Nat)(d:Dt)(n:Nat),ρ[i]?=some (some (d,n))->∃v,σ[i]?=some (some v)/\Own G H n (As i) d v
 dis:∀i j a,As i a->As j a->i=j
 new:∀i a,As i a->H0 a=none/\G a=none/\H a≠none
section
variable{G0 H0 S0:Hp}{σ:St}{ρ:Ro}{G H:Hp}{As:Nat->Addr->Prop}
theorem Sat.grow(a:Sat G0 H0 S0 σ ρ G H As){H':Hp}(s:Same H H'):Sat G0 H0 S0 σ ρ G H' As:=
 ⟨a.ext.trans (Ext.same a.ext.in' s),a.stb,a.tab,a.len,fun i d n e=>let⟨v,h1,h2⟩:=a.at i d n e;⟨v,h1,h2.mono (Same.refl _) s⟩,a.dis,fun i b h=>let⟨n1,n2,n3⟩:=a.new i b h;⟨n1,n2,s.some n3⟩⟩
theorem Sat.wider(a:Sat G0 H0 S0 σ ρ G H As){G' H':Hp}(x:Ext G H G' H'):Sat G0 H0 S0 σ ρ G' H' As:=
 ⟨a.ext.trans x,a.stb.trans x.g,a.tab,a.len,fun i d n e=>let⟨v,h1,h2⟩:=a.at i d n e;⟨v,h1,h2.mono x.g x.h⟩,a.dis,fun i b h=>let⟨n1,n2,n3⟩:=a.new i b h;⟨n1,(x.old b n3).trans n2,x.h.some n3⟩⟩
theorem Sat.full(a:Sat G0 H0 S0 σ ρ G H As):∃J,Ext G0 H0 J H/\Same G J/\View J σ (full ρ):=by
 obtain⟨s1,s2⟩:=zDX (S:=fun b=>∃i,As i b) a.ext.in';refine⟨over G H fun b=>∃i,As i b,⟨a.ext.g.trans s1,a.ext.h,s2,fun b hb=>?_⟩,s1,by simp[Mi.full,a.len],fun i d e=>?_,a.tab.trans (a.ext.g.trans s1)⟩
 ·have z:¬ ∃i,As i b:=fun⟨i,z⟩=>hb (a.new i b z).1
  rw[zCI z];exact a.ext.old b hb
 ·unfold Mi.full at e;rw[qAg]at e;cases e1:ρ[i]? with
  |none=>rw[e1]at e;cases e
  |some o=>
   rw[e1]at e;cases o with
   |none=>cases e
   |some sl=>
    obtain⟨d',n⟩:=sl;cases e;obtain⟨v,h1,h2⟩:=a.at i _ n e1;exact⟨v,h1,h2.rep s1 fun b o hb e=>by rw[zEA ⟨i,hb⟩];exact e⟩
theorem Sat.put(a:Sat G0 H0 S0 σ ρ G H As){i n:Nat}{d:Dt}{v:V}{S:Addr->Prop}(o:Own G H n S d v)(hS:∀b,S b->H0 b=none/\G b=none/\H b≠none)(hd:∀j b,j≠i->As j b->S b->False) :
  Sat G0 H0 S0 (σ.set i (some v)) (ρ.set i (some (d,n))) G H (fun j=>if j=i then S else As j):=by
 refine⟨a.ext,a.stb,a.tab,by simp[a.len],fun j e k h=>?_,fun j l b h1 h2=>?_,fun j b h=>?_⟩
 ·have hj:j<ρ.length:=by
   have:=(qA2.mp h).1
   simpa using this
  by_cases z:i=j
  ·subst z;rw[qAc hj]at h;cases h;exact⟨v,qAc (by rw[<- a.len];exact hj),by rw[if_pos rfl];exact o⟩
  ·rw[qAd z]at h;obtain⟨u,h1,h2⟩:=a.at j e k h;exact⟨u,by rw[qAd z];exact h1,by rw[if_neg (fun q=>z q.symm)];exact h2⟩
 ·try dsimp only at h1 h2
  by_cases z1:j=i
  ·by_cases z2:l=i
   ·rw[z1,z2]
   ·rw[if_pos z1]at h1;rw[if_neg z2]at h2;exact(hd l b z2 h2 h1).elim
  ·by_cases z2:l=i
   ·rw[if_neg z1]at h1;rw[if_pos z2]at h2;exact(hd j b z1 h1 h2).elim
   ·rw[if_neg z1]at h1;rw[if_neg z2]at h2;exact a.dis j l b h1 h2
 ·try dsimp only at h
  by_cases z1:j=i
  ·rw[if_pos z1]at h;exact hS b h
  ·rw[if_neg z1]at h;exact a.new j b h
theorem Sat.set(a:Sat G0 H0 S0 σ ρ G H As){H':Hp}{i n:Nat}{d:Dt}{v:V}{S:Addr->Prop}(s:Same H H')(o:Own G H' n S d v)(hS:∀b,S b->H b=none/\G b=none/\H' b≠none) :
  Sat G0 H0 S0 (σ.set i (some v)) (ρ.set i (some (d,n))) G H' (fun j=>if j=i then S else As j):=
 (a.grow s).put o (fun b hb=>⟨a.ext.h.free (hS b hb).1,(hS b hb).2⟩) fun j b _ h1 h2=>(a.new j b h1).2.2 (hS b h2).1
theorem Sat.frz1(a:Sat G0 H0 S0 σ ρ G H As)(i:Nat):∃G1 As1,Sat G0 H0 S0 σ (Mi.frz1 i ρ) G1 H As1:=by
 unfold Mi.frz1;cases e1:ρ[i]? with
 |none=>exact⟨G,As,a⟩
 |some o=>
  cases o with
  |none=>exact⟨G,As,a⟩
  |some sl=>
   obtain⟨d,n⟩:=sl;dsimp only;obtain⟨v,h1,h2⟩:=a.at i d n e1;obtain⟨s1,s2⟩:=zDX (S:=As i) a.ext.in';have x:Ext G0 H0 (over G H (As i)) H:=⟨a.ext.g.trans s1,a.ext.h,s2,fun b hb=>by
    have z:¬As i b:=fun z=>hb (a.new i b z).1
    rw[zCI z];exact a.ext.old b hb⟩
   have hv:(σ.set i (some v))=σ:=by
    have hi:i<σ.length:=(qA2.mp h1).1;have he:=(qA2.mp h1).2;rw[<- he,qDi]
   have b:Sat G0 H0 S0 σ (ρ.set i (some (d,0))) (over G H (As i)) H (fun j b=>j≠i/\As j b):=by
    refine⟨x,a.stb.trans s1,a.tab,by simp[a.len],fun j e k h=>?_,fun j l b p q=>a.dis j l b p.2 q.2,fun j b p=>?_⟩
    ·have hj:j<ρ.length:=by
      have:=(qA2.mp h).1
      simpa using this
     by_cases z:i=j
     ·subst z;rw[qAc hj]at h;cases h;exact⟨v,h1,h2.rep s1 fun b o hb e=>by rw[zEA hb];exact e⟩
     ·rw[qAd z]at h;obtain⟨u,q1,q2⟩:=a.at j e k h;exact⟨u,q1,(q2.mono s1 (Same.refl _)).sub fun b hb=>⟨fun q=>z q.symm,hb⟩⟩
    ·obtain⟨n1,n2,n3⟩:=a.new j b p.2;have z:¬As i b:=fun z=>p.1 (a.dis j i b p.2 z)
     exact⟨n1,by rw[zCI z];exact n2,n3⟩
   exact⟨_,_,b⟩
theorem Sat.frzAt:∀(vs:List Nat){ρ:Ro}{G:Hp}{As:Nat->Addr->Prop},Sat G0 H0 S0 σ ρ G H As->∃G1 As1,Sat G0 H0 S0 σ (Mi.frzAt vs ρ) G1 H As1
 |[],_,_,_,a=>⟨_,_,a⟩
 |i::r,_,_,_,a=>by
  obtain⟨G1,As1,b⟩:=a.frz1 i;exact Sat.frzAt r b
theorem Sat.frz(a:Sat G0 H0 S0 σ ρ G H As):View G σ (Mi.frz ρ):=by
 refine⟨by simp[Mi.frz,a.len],fun i d e=>?_,a.tab.trans a.ext.g⟩;unfold Mi.frz at e;rw[qAg]at e;cases e1:ρ[i]? with
 |none=>rw[e1]at e;cases e
 |some o=>
  rw[e1]at e;cases o with
  |none=>cases e
  |some sl=>
   obtain⟨d',n⟩:=sl;obtain⟨v,h1,h2⟩:=a.at i d' n e1;simp only[Option.map_some,qFt]at e
   split at e
   ·rename_i hz
    cases e
    rcases hz with hz|hz
    ·subst hz;exact⟨v,h1,h2⟩
    ·exact⟨v,h1,Own.scalar (k:=0) (G2:=G) (H2:=H) (S2:=fun _=>False) h2 hz⟩
   ·cases e
theorem Sat.store(a:Sat G0 H0 S0 σ ρ G H As){i n:Nat}{d:Dt}{v:V}{p:Addr}{o:HO}{S:Addr->Prop}(hp:As i p)(hv:σ[i]?=some (some v))(w:Own G (upd H p o) n S d v)
  (hS:∀b,S b->As i b\/(H0 b=none/\G b=none/\H b≠none/\∀j,¬As j b)):Sat G0 H0 S0 σ (ρ.set i (some (d,n))) G (upd H p o) (fun j=>if j=i then S else As j):=by
 obtain⟨p1,p2,p3⟩:=a.new i p hp;have hn:∀b,H b≠none->upd H p o b≠none:=fun b hb=>by
  by_cases z:b=p
  ·subst z;rw[zAH];simp
  ·rw[zA9 z];exact hb
 refine⟨⟨a.ext.g,L2.Same.upd a.ext.h p1 o,L2.Same.upd a.ext.in' p2 o,a.ext.old⟩,a.stb,a.tab,by simp[a.len],fun j e k h=>?_,fun j l b h1 h2=>?_,fun j b h=>?_⟩
 ·have hj:j<ρ.length:=by
   have:=(qA2.mp h).1
   simpa using this
  by_cases z:i=j
  ·subst z;rw[qAc hj]at h;cases h;exact⟨v,hv,by rw[if_pos rfl];exact w⟩
  ·rw[qAd z]at h;obtain⟨u,h1,h2⟩:=a.at j e k h;exact⟨u,h1,by rw[if_neg (fun q=>z q.symm)];exact h2.upd fun q=>z (a.dis i j p hp q)⟩
 ·have key:∀j b,j≠i->As j b->S b->False:=fun j b hj h1 h2=>by
   rcases hS b h2 with q|⟨_,_,_,q⟩
   ·exact hj (a.dis j i b h1 q)
   ·exact q j h1
  try dsimp only at h1 h2
  by_cases z1:j=i
  ·by_cases z2:l=i
   ·rw[z1,z2]
   ·rw[if_pos z1]at h1;rw[if_neg z2]at h2;exact(key l b z2 h2 h1).elim
  ·by_cases z2:l=i
   ·rw[if_neg z1]at h1;rw[if_pos z2]at h2;exact(key j b z1 h1 h2).elim
   ·rw[if_neg z1]at h1;rw[if_neg z2]at h2;exact a.dis j l b h1 h2
 ·try dsimp only at h
  by_cases z1:j=i
  ·rw[if_pos z1]at h
   rcases hS b h with q|⟨q1,q2,q3,_⟩
   ·obtain⟨n1,n2,n3⟩:=a.new i b q;exact⟨n1,n2,hn b n3⟩
   ·exact⟨q1,q2,hn b q3⟩
  ·rw[if_neg z1]at h;obtain⟨n1,n2,n3⟩:=a.new j b h;exact⟨n1,n2,hn b n3⟩
end
def zDP(mg:Str->Option Value)(E:XK)(G0 H0 S0:Hp)(L:Nat)(r:R Out)(D:Ends):Prop:=match r with
 |none=>False
 |some (.error x)=>∀c da G' H',Ext G0 H0 G' H'->XRep mg x c da G' H'->E c da H'
 |some (.ok (.nx ρ))=>∀σ G H As,Sat G0 H0 S0 σ ρ G H As->D.nx σ H
 |some (.ok (.bk ρ))=>∀σ G H As,Sat G0 H0 S0 σ ρ G H As->D.bk σ H
 |some (.ok (.ct ρ))=>∀σ G H As,Sat G0 H0 S0 σ ρ G H As->D.ct σ H
 |some (.ok (.rt d))=>∀v G H S,Fr G0 H0 G H S->Own G H L S d v->D.rt v H
def DS(mg:Str->Option Value)(E:XK)(L:Nat)(t:TS)(m:SM):Prop:=∀(G0 H0 S0:Hp)(σ:St)(ρ:Ro)(G H:Hp)(As:Nat->Addr->Prop)(D:Ends),Sat G0 H0 S0 σ ρ G H As->zDP mg E G0 H0 S0 L (m ρ) D->t D σ H
section
variable{mg:Str->Option Value}{E:XK}{L n k l:Nat}{te ta tb:TE}{e ea eb:EM}{t u:TS}{m m':SM}
theorem errS{G0 H0 S0:Hp}{D:Ends}:Err mg E G0 H0 (fun r=>zDP mg E G0 H0 S0 L r D):=⟨fun h=>h,fun _ h=>h⟩
theorem zBZ:DS mg E L zR8 Mi.sNil:=fun G0 H0 S0 σ ρ G H As D a p=>p σ G H As a
theorem zAK(A:DS mg E L t m)(B:DS mg E L u m'):DS mg E L (tSeq t u) (Mi.sSeq m m'):=by
 intro G0 H0 S0 σ ρ G H As D a p;refine A G0 H0 S0 σ ρ G H As _ a ?_;unfold Mi.sSeq at p;cases e:m ρ with
 |none=>rw[e]at p;exact p
 |some r=>
  rw[e]at p;cases r with
  |error x=>exact p
  |ok o=>
   cases o with
   |nx ρ'=>exact fun σ' G' H' As' a'=>B G0 H0 S0 σ' ρ' G' H' As' D a' p
   |rt d=>exact p
   |bk ρ'=>exact p
   |ct ρ'=>exact p
theorem zDA{tc:TT}{c:TM}(C:DT mg E tc c)(A:DS mg E L t m)(B:DS mg E L u m'):DS mg E L (tIfS tc t u) (Mi.sIf c m m'):=by
 intro G0 H0 S0 σ ρ G H As D a p;obtain⟨J,x,s,w⟩:=a.full;refine C.step (errS.from x) x.in' w p fun b H' _ sH p1=>?_
 cases b with
 |true=>exact A G0 H0 S0 σ ρ G H' As D (a.grow sH) p1
 |false=>exact B G0 H0 S0 σ ρ G H' As D (a.grow sH) p1
theorem whole{G0 H0 S0:Hp}{σ:St}{ρ:Ro}{G H J G1 H1:Hp}{As:Nat->Addr->Prop}{S:Addr->Prop}{d:Dt}{v:V}(a:Sat G0 H0 S0 σ ρ G H As)(s:Same G J)(fr:Fr J H G1 H1 S)(o:Own G1 H1 n S d v)(hn:n<1000)(hd:d.dep<=n)(hk:d.dep<=k) :
  Own G H1 k S d v/\∀b,S b->H b=none/\G b=none/\H1 b≠none:=
 ⟨o.at hd hk hn,fun b hb=>let⟨n1,n2,n3⟩:=fr.new b hb;⟨n1,a.ext.in'.free n1,n3⟩⟩
theorem zAW{i:Nat}(vs:List Nat)(A:DE mg E te e n)(hn:n<1000:=by decide):DS mg E L (tAsg te (zFR i)) (Mi.sSet i n vs e):=by
 intro G0 H0 S0 σ ρ G H As D a p;obtain⟨J,x,s,w⟩:=a.full;unfold Mi.sSet at p;cases ee:e (full ρ)with
 |none=>rw[ee]at p;exact p.elim
 |some r=>
  cases r with
  |error y=>exact A.step (errS.from x) x.in' w p fun d v G1 H1 S e1 fr o p1=>by rw[ee]at e1;cases e1
  |ok d=>
   by_cases hd:d.dep<=n
   ·refine A.step (errS.from x) x.in' w p fun d' v G1 H1 S e1 fr o p1=>?_
    rw[ee]at e1;cases e1;rw[if_pos hd]at p1;obtain⟨q1,q2⟩:=whole (k:=n) a s fr o hn hd hd;exact p1 _ G H1 _ (a.set fr.ext.h q1 q2)
   ·rw[ee]at p;have p':zDP mg E G0 H0 S0 L (zA3 (e (frz (frzAt vs ρ))) fun d'=>okR (.nx ((frzAt vs ρ).set i (some (d',n))))) D:=by
     have p2:zDP mg E G0 H0 S0 L (if d.dep<=n then okR (.nx (ρ.set i (some (d,n))))else zA3 (e (frz (frzAt vs ρ))) fun d'=>okR (.nx ((frzAt vs ρ).set i (some (d',n))))) D:=p;rw[if_neg hd]at p2;exact p2
    obtain⟨G1,As1,a1⟩:=Sat.frzAt vs a;refine A.step (errS.from a1.ext) a1.ext.in' a1.frz p' fun d' v G2 H2 S _ fr o p1=>?_
    exact p1 _ G2 H2 _ ((a1.wider fr.ext).put o (fun b hb=>let⟨n1,n2,n3⟩:=fr.new b hb;⟨a1.ext.h.free n1,n2,n3⟩) fun j b _ h1 h2=>(a1.new j b h1).2.2 (fr.new b h2).1)
theorem zB7(vs:List Nat)(A:DE mg E te e n)(hn:n<1000:=by decide):DS mg E L (tRet te) (Mi.sRet L n vs e):=by
 intro G0 H0 S0 σ ρ G H As D a p;obtain⟨J,x,s,w⟩:=a.full;unfold Mi.sRet at p;cases ee:e (full ρ)with
 |none=>rw[ee]at p;exact p.elim
 |some r=>
  cases r with
  |error y=>exact A.step (errS.from x) x.in' w p fun d v G1 H1 S e1 fr o p1=>by rw[ee]at e1;cases e1
  |ok d=>
   by_cases hd:d.dep<=n/\d.dep<=L
   ·refine A.step (errS.from x) x.in' w p fun d' v G1 H1 S e1 fr o p1=>?_
    rw[ee]at e1;cases e1;rw[if_pos hd]at p1;exact p1 v G1 H1 S (Fr.from x fr) (o.at hd.1 hd.2 hn)
   ·rw[ee]at p;have p2:zDP mg E G0 H0 S0 L (if d.dep<=n/\d.dep<=L then okR (.rt d)else if n=L then zA3 (e (frz (frzAt vs ρ))) fun d'=>okR (.rt d')else none) D:=p;rw[if_neg hd]at p2
    by_cases hl:n=L
    ·rw[if_pos hl]at p2;subst hl;obtain⟨G1,As1,a1⟩:=Sat.frzAt vs a;refine A.step (errS.from a1.ext) a1.ext.in' a1.frz p2 fun d' v G2 H2 S _ fr o p1=>?_
     exact p1 v G2 H2 S (Fr.from a1.ext fr) o
    ·rw[if_neg hl]at p2;exact p2.elim
theorem zH3(i:Nat):DS mg E L (tRet (vM i)) (Mi.sRetV L i):=by
 intro G0 H0 S0 σ ρ G H As D a p;unfold Mi.sRetV at p;cases e1:ρ[i]? with
 |none=>rw[e1]at p;exact p.elim
 |some o=>
  rw[e1]at p;cases o with
  |none=>exact p.elim
  |some sl=>
   obtain⟨d,k⟩:=sl;obtain⟨v,h1,h2⟩:=a.at i d k e1;show vM i σ H D.rt;unfold vM;rw[h1];dsimp only at p
   split at p
   ·rename_i hz
    rcases hz with hz|hz|hz
    ·subst hz;exact p v G H (As i) ⟨a.ext,fun b hb=>a.new i b hb⟩ h2
    ·subst hz;obtain⟨s1,s2⟩:=zDX (S:=As i) a.ext.in';refine p v (over G H (As i)) H (fun _=>False) ⟨⟨a.ext.g.trans s1,a.ext.h,s2,fun b hb=>?_⟩,fun _ z=>z.elim⟩ (h2.rep s1 fun b o hb e=>by rw[zEA hb];exact e);have z:¬As i b:=fun z=>hb (a.new i b z).1
     rw[zCI z];exact a.ext.old b hb
    ·exact p v G H (As i) ⟨a.ext,fun b hb=>a.new i b hb⟩ (h2.at hz.1 hz.2.1 hz.2.2)
   ·exact p.elim
theorem Sat.puts{G0 H0 S0 G H:Hp}{bs:List (Nat×Dt)}{ws:List (Nat×V)}(h:BsRep G bs ws):∀{σ:St}{ρ:Ro}{As:Nat->Addr->Prop},Sat G0 H0 S0 σ ρ G H As->∃As',Sat G0 H0 S0 (zF9 σ ws) (zAV ρ bs) G H As':=by
 induction h with
 |nil=>exact fun a=>⟨_,a⟩
 |cons r _ ih=>exact fun a=>ih (a.put (n:=0) (S:=fun _=>False) r (fun _ z=>z.elim) fun _ _ _ _ z=>z.elim)
theorem zTH(i:Nat)(A:DE mg E te e n)(hn:n<1000:=by decide):DS mg E L (zHL (tML appM (vM i) (zDH te tNil))) (Mi.sApp i n e):=by
 intro G0 H0 S0 σ ρ G H As D a p;obtain⟨J,x,s,w⟩:=a.full;unfold Mi.sApp at p;cases e1:ρ[i]? with
 |none=>rw[e1]at p;exact p.elim
 |some o=>
  rw[e1]at p
  match o,e1,p with
  |none,_,p=>exact p.elim
  |some (.lst ds,k+1),e1,p=>
   obtain⟨v,h1,q,xs,T,rfl,hq,kd⟩:=a.at i _ _ e1;unfold zHL tML vM;rw[h1];refine⟨xs,hq,?_⟩;refine A.step (errS.from x) x.in' w p fun d y G1 H1 S _ fr o p1=>?_
   split at p1
   ·rename_i hz
    obtain⟨q1,q2⟩:=whole (k:=k) a s fr o hn hz.2.1 hz.2.2;refine⟨xs,fr.ext.h _ _ hq,by rw[kd.len];exact L2.big (by lia),?_⟩;have hp:=kd.top;have a1:=a.grow fr.ext.h;have nS:¬S q:=fun z=>(a.new i q hp).2.2 (q2 q z).1
    have ap:∀r b,T r b->S b->False:=fun r b h1 h2=>(a.new i b (kd.sub r b h1)).2.2 (q2 b h2).1
    refine p1 σ G _ _ (a1.store (S:=fun b=>As i b\/S b) hp h1 ⟨q,_,fun r b=>(r<ds.length/\T r b)\/(r=ds.length/\S b),rfl,zAH,⟨by simp[kd.len],fun r d' z g1 g2=>?_,.inl hp,fun r z=>?_,fun r r' b z1 z2=>?_,fun r b z=>?_⟩⟩ fun b z=>?_)
    ·by_cases hr:r<ds.length
     ·rw[qAa hr]at g1;rw[qAa (by rw[kd.len];exact hr)]at g2;exact(((kd.own r d' z g1 g2).mono (Same.refl _) fr.ext.h).upd (kd.out r)).sub fun b z=>.inl ⟨hr,z⟩
     ·rw[qA8 (by lia)]at g1;rw[qA8 (by rw[kd.len];lia),kd.len]at g2;have hq0:r-ds.length=0:=by
       have:=(qA2.mp g1).1
       simp at this;lia
      rw[hq0]at g1 g2;simp at g1 g2;subst g1;subst g2;exact(q1.upd nS).sub fun b z=>.inr ⟨by lia,z⟩
    ·rcases z with⟨_,z⟩|⟨_,z⟩
     ·exact kd.out r z
     ·exact nS z
    ·rcases z1 with⟨c1,t1⟩|⟨c1,t1⟩<;>rcases z2 with⟨c2,t2⟩|⟨c2,t2⟩
     ·exact kd.dis r r' b t1 t2
     ·exact(ap r b t1 t2).elim
     ·exact(ap r' b t2 t1).elim
     ·lia
    ·rcases z with⟨_,z⟩|⟨_,z⟩
     ·exact .inl (kd.sub r b z)
     ·exact .inr z
    ·rcases z with z|z
     ·exact .inl z
     ·obtain⟨n1,n2,n3⟩:=q2 b z;exact .inr ⟨a.ext.h.free n1,n2,n3,fun j y=>(a.new j b y).2.2 n1⟩
   ·exact p1.elim
  |some (.lst ds,0),_,p=>exact p.elim
  |some (.non,_),_,p=>exact p.elim
  |some (.bl _,_),_,p=>exact p.elim
  |some (.int _,_),_,p=>exact p.elim
  |some (.str _,_),_,p=>exact p.elim
  |some (.tup _,_),_,p=>exact p.elim
  |some (.scr _,_),_,p=>exact p.elim
  |some (.exc _ _ _,_),_,p=>exact p.elim
  |some (.fn _ _,_),_,p=>exact p.elim
  |some (.ins _ _,_),_,p=>exact p.elim
  |some (.dct _,_),_,p=>exact p.elim
end
end L3
namespace L3
open PySem PySem.Spec
open L2 hiding Rep RepL
open Mi (Dt Xn R okR zA3 optR zA0 zA8 zAF zAD zAE Rh Sl Ro EM TM AM FM IM SM Tg Out zAQ zAP zAV full frz frz1 frzAt)
section
variable[Kc]{mg:Str->Option Value}{E:XK}{L n k l:Nat}{te ta tb:TE}{e ea eb:EM}{t u:TS}{m m':SM}
theorem Kids.set{G H:Hp}{S:Addr->Prop}{a p:Addr}{ds:List Dt}{xs:List V}{T:Nat->Addr->Prop}{S':Addr->Prop}{d:Dt}{v:V}{o:HO}(k:Kids (Own G H n) S a ds xs T)(q:Nat)(w:Own G (upd H p o) n S' d v)(hp:∀r,r≠q->¬T r p)(ha:¬S' a)
  (hd:∀r b,r≠q->T r b->S' b->False):Kids (Own G (upd H p o) n) (fun b=>S b\/S' b) a (ds.set q d) (xs.set q v) (fun r b=>if r=q then S' b else T r b):=by
 refine⟨by simp[k.len],fun r d' x h1 h2=>?_,.inl k.top,fun r=>?_,fun r r' b z1 z2=>?_,fun r b z=>?_⟩
 ·by_cases z:q=r
  ·subst z;have h:q<ds.length:=by
    have:=(qA2.mp h1).1
    simpa using this
   rw[qAc h]at h1;rw[qAc (by rw[k.len];exact h)]at h2;cases h1;cases h2;exact w.sub fun b hb=>by rw[if_pos rfl];exact hb
  ·rw[qAd z]at h1 h2;exact((k.own r d' x h1 h2).upd (hp r fun y=>z y.symm)).sub fun b hb=>by rw[if_neg (fun y=>z y.symm)];exact hb
 ·try dsimp only
  split
  ·exact ha
  ·exact k.out _
 ·try dsimp only at z1 z2
  by_cases h1:r=q<;>by_cases h2:r'=q
  ·rw[h1,h2]
  ·rw[if_pos h1]at z1;rw[if_neg h2]at z2;exact(hd r' b h2 z2 z1).elim
  ·rw[if_neg h1]at z1;rw[if_pos h2]at z2;exact(hd r b h1 z1 z2).elim
  ·rw[if_neg h1]at z1;rw[if_neg h2]at z2;exact k.dis _ _ b z1 z2
 ·try dsimp only at z
  by_cases h1:r=q
  ·rw[if_pos h1]at z;exact .inr z
  ·rw[if_neg h1]at z;exact .inl (k.sub _ b z)
theorem zH4(i:Nat){n1:Nat}{t1 t2:TE}{e1 e2:EM}(A:DE mg E t1 e1 n1)(B:DE mg E t2 e2 n)(hn:n<1000:=by decide):DS mg E L (tAsg t2 (gSub (vM i) t1 setM)) (Mi.sItem i n e1 e2):=by
 intro G0 H0 S0 σ ρ G H As D a p;obtain⟨J,x,s,w⟩:=a.full;refine B.step (errS.from x) x.in' w p fun d y G1 H1 S _ fr o p1=>?_
 cases er:ρ[i]? with
 |none=>rw[er]at p1;exact p1.elim
 |some sl=>
  rw[er]at p1
  match sl,er,p1 with
  |none,_,p=>exact p.elim
  |some (.lst ds,k+1),er,p1=>
   obtain⟨v,h1,q,xs,T,rfl,hq,kd⟩:=a.at i _ _ er;unfold gSub vM;rw[h1];have x1:Ext J H J H1:=Ext.same x.in' fr.ext.h;refine(zAT A).step (errS.from (x.trans x1)) x1.in' w p1 fun z u G2 H2 S2 _ fr2 o2 p2=>?_
   cases z with
   |int z=>
    cases(show u=.int z from o2)
    try dsimp only at p2
    cases ei:Mi.ixA ds.length z with
    |none=>rw[ei]at p2;exact p2.elim
    |some c=>
     rw[ei]at p2
     try dsimp only at p2
     split at p2
     ·rename_i hz
      rw[zM4]at ei;obtain⟨q1,q2⟩:=whole (k:=k) a s fr o hn hz.1 hz.2;have sH:=fr.ext.h.trans fr2.ext.h;refine⟨xs,c,sH _ _ hq,by rw[kd.len];exact ei,?_⟩;have a1:=a.grow sH;have nS:¬S q:=fun z=>(a.new i q kd.top).2.2 (q2 q z).1
      have kd1:Kids (Own G H2 k) (As i) q ds xs T:=kd.imp (fun _ _ _ _ w=>w.mono (Same.refl _) sH) fun _ z=>z
      refine p2 σ G _ _ (a1.store (S:=fun b=>As i b\/S b) kd.top h1 ⟨q,_,_,rfl,zAH,kd1.set c ((q1.mono (Same.refl _) fr2.ext.h).upd nS) (fun r _=>kd.out r) nS fun r b _ z1 z2=>(a.new i b (kd.sub r b z1)).2.2 (q2 b z2).1⟩ fun b z=>?_)
      rcases z with z|z
      ·exact .inl z
      ·obtain⟨n1,n2,n3⟩:=q2 b z;exact .inr ⟨a.ext.h.free n1,n2,fr2.ext.h.some n3,fun j y=>(a.new j b y).2.2 n1⟩
     ·exact p2.elim
   |_=>exact p2.elim
  |some (.lst ds,0),_,p=>exact p.elim
  |some (.non,_),_,p=>exact p.elim
  |some (.bl _,_),_,p=>exact p.elim
  |some (.int _,_),_,p=>exact p.elim
  |some (.str _,_),_,p=>exact p.elim
  |some (.tup _,_),_,p=>exact p.elim
  |some (.scr _,_),_,p=>exact p.elim
  |some (.exc _ _ _,_),_,p=>exact p.elim
  |some (.fn _ _,_),_,p=>exact p.elim
  |some (.ins _ _,_),_,p=>exact p.elim
  |some (.dct _,_),_,p=>exact p.elim
theorem zP4{G0 H0 S0:Hp}{D:Ends}{g:TG}{tg:Tg}{J:It}{ds:List Dt}{GJ:Hp}(hT:TgOk g tg)(B:DS mg E L t m)(io:ItOk J GJ ds){σ:St}{ρ:Ro}{G H:Hp}{As:Nat->Addr->Prop}(a:Sat G0 H0 S0 σ ρ G H As)(sJ:Same GJ G)
  (p:zDP mg E G0 H0 S0 L (Mi.forGo tg m ds ρ) D):zL6 g t D σ J H:=by
 refine⟨fun i c σ H=>c=ds.length-i/\i<=ds.length/\∃ρ G As,Sat G0 H0 S0 σ ρ G H As/\Same GJ G/\zDP mg E G0 H0 S0 L (Mi.forGo tg m (ds.drop i) ρ) D,
  ⟨_,rfl,qAx _,ρ,G,As,a,sJ,by rw[qCu];exact p⟩,?_⟩
 rintro i c σ H ⟨rfl,hi,ρ,G,As,a,sJ,p⟩
 obtain⟨j1,j2,j3⟩:=io i G H sJ a.ext.in'
 by_cases hlt:i<ds.length
 ·refine .inr ⟨j1 hlt,fun σ' H'=>i+1<=ds.length/\∃ρ G As,Sat G0 H0 S0 σ' ρ G H' As/\Same GJ G/\zDP mg E G0 H0 S0 L (Mi.forGo tg m (ds.drop (i+1)) ρ) D,fun σ' H' q=>⟨ds.length-(i+1),by lia,rfl,q⟩,fun x H2 hy=>?_⟩;have hd:ds[i]?=some ds[i]:=qAe hlt;obtain⟨G2,x2,r2⟩:=j3 x H2 ds[i] hd hy;rw[qBg hlt,Mi.forGo]at p;cases eb:zAQ tg ds[i]with
  |none=>rw[eb]at p;exact p.elim
  |some bs=>
   rw[eb]at p
   try dsimp only at p
   refine hT G2 H2 _ _ x bs _ x2.in' r2 eb fun ws hb=>?_
   obtain⟨As2,a2⟩:=Sat.puts hb (a.wider x2);have a3:Sat G0 H0 GJ (zF9 σ ws) (zAV ρ bs) G2 H2 As2:=⟨a2.ext,sJ.trans x2.g,a2.tab,a2.len,a2.at,a2.dis,a2.new⟩
   have key:∀(S1:Hp),Same S0 S1->Same GJ S1->Sat G0 H0 S1 (zF9 σ ws) (zAV ρ bs) G2 H2 As2->t { D with nx:=fun σ' H'=>i+1<=ds.length/\∃ρ G As,Sat G0 H0 S0 σ' ρ G H' As/\Same GJ G/\zDP mg E G0 H0 S0 L (Mi.forGo tg m (ds.drop (i+1)) ρ) D,ct:=fun σ' H'=>i+1<=ds.length/\∃ρ G As,Sat G0 H0 S0 σ' ρ G H' As/\Same GJ G/\zDP mg E G0 H0 S0 L (Mi.forGo tg m (ds.drop (i+1)) ρ) D,bk:=D.nx } (zF9 σ ws) H2:=by
    intro S1 s1 s2 a4;refine B G0 H0 S1 _ _ G2 H2 As2 _ a4 ?_;have back:∀{σ':St}{ρ':Ro}{G' H':Hp}{As':Nat->Addr->Prop},Sat G0 H0 S1 σ' ρ' G' H' As'->Sat G0 H0 S0 σ' ρ' G' H' As'/\Same GJ G':=fun a5=>⟨⟨a5.ext,s1.trans a5.stb,a5.tab,a5.len,a5.at,a5.dis,a5.new⟩,s2.trans a5.stb⟩
    cases em:m (zAV ρ bs)with
    |none=>rw[em]at p;exact p
    |some r=>
     rw[em]at p;cases r with
     |error y=>exact p
     |ok o=>
      cases o with
      |nx ρ'=>exact fun σ' G' H' As' a5=>⟨hlt,ρ',G',As',(back a5).1,(back a5).2,p⟩
      |ct ρ'=>exact fun σ' G' H' As' a5=>⟨hlt,ρ',G',As',(back a5).1,(back a5).2,p⟩
      |bk ρ'=>exact fun σ' G' H' As' a5=>p σ' G' H' As' (back a5).1
      |rt d=>exact p
   exact key G2 a2.stb (sJ.trans x2.g) ⟨a2.ext,Same.refl _,a2.tab,a2.len,a2.at,a2.dis,a2.new⟩
 ·have e:i=ds.length:=by lia
  subst e;rw[qD9,Mi.forGo]at p;exact .inl ⟨j2 (qA4 _),p σ G H As a⟩
theorem zIE{wi:TI}{it:IM}{g:TG}{tg:Tg}(vs:List Nat){ind:Bool}(I:DI mg E wi it ind)(hT:TgOk g tg)(B:DS mg E L t m):DS mg E L (fun D σ H=>wi σ H (zL6 g t D σ)) (Mi.sFor vs it tg m):=by
 intro G0 H0 S0 σ ρ G H As D a p;obtain⟨G1,As1,a1⟩:=Sat.frzAt vs a;refine I.step (errS.from a1.ext) a1.ext.in' a1.frz p fun ds J G2 H2 _ x2 io p1=>?_
 refine zP4 hT B io (a1.wider x2) ?_ p1;unfold zMS
 split
 ·exact fun b o e=>by cases e
 ·exact Same.refl _
theorem zEE{wi:TI}{it:IM}{i:Nat}(I:DI mg E wi it true)(B:DS mg E L t m):DS mg E L (fun D σ H=>wi σ H (zL6 (zFR i) t D σ)) (Mi.sForR it i m):=by
 intro G0 H0 S0 σ ρ G H As D a p;obtain⟨J,x,s,w⟩:=a.full;refine I.step (errS.from x) x.in' w p fun ds J G2 H2 _ x2 io p1=>?_
 exact zP4 (zB0 i) B io (a.grow x2.h) (fun b o e=>by cases e) p1
theorem dz(A:DE mg E te e 0):DE mg E te e 0:=A
theorem zF8{P N:Nat}{vs:List V}{H:Hp}{Q:VK}{E:XK}(h:spM mg L (Mi.runF P N m) vs H Q E):vs.length=P:=by
 obtain⟨G,ds,_,s,r,p⟩:=h;rw[r.length];unfold Mi.runF at p
 split at p
 ·rename_i h;exact h
 ·exact p.elim
theorem zBT{P:Nat}{N:List Str}{vs:List V}{H:Hp}{Q:VK}(B:DS mg E L t m)(h:spM mg L (Mi.runF P N.length m) vs H Q E):t { nx:=fun _ H'=>Q .non H',rt:=Q } (L2.start N vs) H:=by
 obtain⟨G,ds,tb,s,r,p⟩:=h;unfold Mi.runF at p
 split at p
 ·refine B G H G _ (Mi.startO N.length ds) G H (fun _ _=>False) _ ⟨Ext.refl s,Same.refl _,tb,?_,fun i d n e=>?_,fun _ _ _ z=>z.elim,fun _ _ z=>z.elim⟩ ?_
  ·unfold Mi.startO L2.start;simp[r.length]
  ·unfold Mi.startO at e
   by_cases hi:i<ds.length
   ·rw[qAa (by simpa using hi),qAg]at e;cases e1:ds[i]? with
    |none=>rw[e1]at e;cases e
    |some d'=>
     rw[e1]at e;cases e;have hv:vs[i]?=some (vs[i]'(by rw[r.length];exact hi)):=by simp
     refine⟨vs[i]'(by rw[r.length];exact hi),?_,zBO r e1 hv⟩;unfold L2.start;rw[qAa (by simpa[r.length]using hi),qAg,hv];rfl
   ·rw[qA8 (by simpa using hi),qBa]at e
    split at e<;>cases e
  ·cases em:m (Mi.startO N.length ds)with
   |none=>rw[em]at p;exact p
   |some r=>
    rw[em]at p;cases r with
    |error y=>exact p
    |ok o=>
     cases o with
     |nx ρ'=>exact fun σ' G' H' As' a=>PostE.val (d:=.non) p a.ext rfl rfl
     |rt d=>exact p
     |bk ρ'=>exact p.elim
     |ct ρ'=>exact p.elim
 ·exact p.elim
end
end L3
namespace L3
open PySem PySem.Spec
open L2 hiding Rep RepL
open Mi (Dt FM okR)
def sp0(K:qA0)(mg:Str->Option Value)(L:Nat)(f:FM):Sp:=fun vs H Q _=>@spM ⟨K⟩ mg L f vs H Q E0
end L3
namespace L3
open PySem PySem.Spec
open L2 hiding Rep RepL
open Mi (Dt Xn R okR zA3 optR zA0 zA8 zAF zAD zAE Rh Sl Ro EM TM AM FM IM SM OM Tg Out zAQ zAP zAV full frz frz1 frzAt)
section
variable[Kc]{mg:Str->Option Value}{E:XK}{L n k l:Nat}{te ta tb:TE}{e ea eb:EM}{t u:TS}{m m':SM}
theorem zPB{f:List Dt->Option Dt}{g:Int->Int->Int}{r:List V->Hp->VK->Prop}(hr:∀i j H Q,Q (.int (g i j)) H->r [.int i,.int j] H Q)(hf:∀i j,f [.int i,.int j]=some (.int (g i j)))(hn:∀ds,(∀i j,ds≠[.int i,.int j])->f ds=none):CBi r f n:=by
 intro mg E G H ds vs Q s h p
 by_cases hd:∃i j,ds=[.int i,.int j]
 ·obtain⟨i,j,rfl⟩:=hd;obtain⟨x,y,rfl,hx,hy⟩:=zND h
  cases(show x=.int i from hx)
  cases(show y=.int j from hy)
  rw[hf]at p;exact hr i j H Q (PostE.val p (Ext.refl s) rfl rfl)
 ·rw[hn ds fun i j e=>hd ⟨i,j,e⟩]at p;exact p.elim
theorem zJS{f:List Dt->Option Dt}(h1:f []=none)(h2:∀x,f [x]=none)(h3:∀x y z r,f (x::y::z::r)=none)(h4:∀x y,(∀i j,[x,y]≠[.int i,.int j])->f [x,y]=none):∀ds,(∀i j,ds≠[.int i,.int j])->f ds=none:=by
 intro ds h
 match ds,h with
 |[],_=>exact h1
 |[x],_=>exact h2 x
 |[x,y],h=>exact h4 x y h
 |x::y::z::r,_=>exact h3 x y z r
theorem zTQ:CBi (fun xs H Q=>∃i j,xs=[.int i,.int j]/\Q (.int (if j>i then j else i)) H) Mi.maxD n:=
 zPB (g:=fun i j=>if j>i then j else i) (fun i j H Q q=>⟨i,j,rfl,q⟩) (fun _ _=>rfl) (zJS rfl (fun x=>by cases x<;>rfl) (fun x y z r=>by cases x<;>cases y<;>rfl) (fun x y h=>by cases x<;>cases y<;>first|rfl|exact absurd rfl (h _ _)))
theorem zTP:CBi (fun xs H Q=>∃i j,xs=[.int i,.int j]/\Q (.int (if j<i then j else i)) H) Mi.minD n:=
 zPB (g:=fun i j=>if j<i then j else i) (fun i j H Q q=>⟨i,j,rfl,q⟩) (fun _ _=>rfl) (zJS rfl (fun x=>by cases x<;>rfl) (fun x y z r=>by cases x<;>cases y<;>rfl) (fun x y h=>by cases x<;>cases y<;>first|rfl|exact absurd rfl (h _ _)))
theorem zJG{G:Hp}{d:Dt}{v:V}(h:Rep G d v)(hd:d.dep=0):zED v=true:=(zCP (by lia) h).flat (qEr.mp (qAh (zD5 (by lia)) (qDj hd)))
theorem zMD{G:Hp}{d e:Dt}{v u:V}(h:Rep G d v)(h':Rep G e u)(hd:d.dep=0)(he:e.dep=0):eqV v u=Dt.eq d e:=by
 rw[<- zH6 (by lia) (by lia)];exact(zCP (by lia) h).flatEq (zCP (by lia) h') (qEr.mp (qAh (zD5 (by lia)) (qDj hd))) (qEr.mp (qAh (zD5 (by lia)) (qDj he)))
theorem zQI{G:Hp}{d:Dt}{v:V}(h:Rep G d v)(hd:d.dep=0):∀{ds:List Dt}{vs:List V},RepL G ds vs->Dt.depL ds=0->vs.all zED=true/\inV v vs=ds.any fun y=>Dt.eq y d
 |[],vs,r,_=>by cases(show vs=[] from r);exact⟨rfl,rfl⟩
 |e::ds,vs,r,hz=>by
  obtain⟨x,q,rfl,a,b⟩:=r;rw[Dt.depL]at hz;obtain⟨h1,h2⟩:=zQI h hd b (by lia);have he:e.dep=0:=by lia
  refine⟨by simp[zJG a he,h1],?_⟩;unfold inV at h2 ⊢;rw[qBt,qBt,h2,zMD a h he hd]
theorem zKJ{ng:Bool}:ROp (rInU Kc.K ng) (Mi.inD ng) n:=by
 intro mg E G H d e x y Q s h1 h2 p;cases e with
 |lst ys=>
  obtain⟨a,vs,rfl,ha,r⟩:=h2;unfold Mi.inD Mi.hasD at p;dsimp only at p
  by_cases hz:d.dep=0/\Dt.depL ys=0
  ·rw[if_pos hz]at p;obtain⟨g1,g2⟩:=zQI h1 hz.1 r hz.2;refine⟨vs,.inl (SqL.of (s _ _ ha)),zJG h1 hz.1,g1,?_⟩;rw[g2];exact PostE.val p (Ext.refl s) rfl rfl
  ·rw[if_neg hz]at p;exact p.elim
 |tup ys=>
  obtain⟨a,vs,rfl,ha,r⟩:=h2;unfold Mi.inD Mi.hasD at p;dsimp only at p
  by_cases hz:d.dep=0/\Dt.depL ys=0
  ·rw[if_pos hz]at p;obtain⟨g1,g2⟩:=zQI h1 hz.1 r hz.2;refine⟨vs,.inr (SqT.of (s _ _ ha)),zJG h1 hz.1,g1,?_⟩;rw[g2];exact PostE.val p (Ext.refl s) rfl rfl
  ·rw[if_neg hz]at p;exact p.elim
 |str z=>
  cases(show y=.str z from h2)
  cases d with
  |str w=>
   cases(show x=.str w from h1)
   obtain⟨⟨wl⟩⟩:=w;cases wl with
   |nil=>exact qA3 p
   |cons c tl1=>
    cases tl1 with
    |nil=>
     have p':PostE mg E G H n (okR (.bl (if ng=true then !decide (c∈z.cps.toList)else decide (c∈z.cps.toList)))) Q:=p;have q:=PostE.val (v:=.bl (if ng=true then !decide (c∈z.cps.toList)else decide (c∈z.cps.toList))) p' (Ext.refl s) rfl rfl;rw[<- StrLaws.found_one z c]at q;exact q
    |cons _ _=>exact qA3 p
  |_=>exact p.elim
 |_=>exact p.elim
def DO(mg:Str->Option Value)(E:XK)(t:TO)(m:OM):Prop:=∀(G H:Hp)(σ:St)(ρ:Rh)(Q:Option Int->Hp->Prop),Same G H->View G σ ρ ->
 (match m ρ with
  |none=>False
  |some (.error x)=>∀c da G' H',Ext G H G' H'->XRep mg x c da G' H'->E c da H'
  |some (.ok o)=>∀H',Same H H'->Q o H')->t σ H Q
theorem DO.step{β:Type}{t:TO}{m:OM}(D:DO mg E t m){G H:Hp}{σ:St}{ρ:Rh}{Q:Option Int->Hp->Prop}{P:R β->Prop}{f:Option Int->R β}(hE:Err mg E G H P)(s:Same G H)(w:View G σ ρ)(p:P (zA3 (m ρ) f))
  (h:∀b H',m ρ=okR b->Same H H'->P (f b)->Q b H'):t σ H Q:=by
 refine D G H σ ρ Q s w ?_;cases e:m ρ with
 |none=>rw[e]at p;exact hE.no p
 |some r=>
  rw[e]at p;cases r with
  |error x=>exact hE.er x p
  |ok b=>exact fun H' sH=>h b H' e sH p
theorem zV0:DO mg E zL5 Mi.oNo:=fun G H σ ρ Q s w p=>p H (Same.refl _)
theorem do_e(A:DE mg E te e k):DO mg E (zR7 te) (Mi.oE e):=by
 intro G H σ ρ Q s w p;unfold Mi.oE at p;refine(zAT A).step (P:=fun r=>match r with
  |none=>False
  |some (.error x)=>∀c da G' H',Ext G H G' H'->XRep mg x c da G' H'->E c da H'
  |some (.ok o)=>∀H',Same H H'->Q o H') ⟨fun h=>h,fun _ h=>h⟩ s w p fun d v G1 H1 S _ fr o p1=>?_
 cases d with
 |int i=>exact⟨i,o,p1 H1 fr.ext.h⟩
 |_=>exact p1.elim
theorem zK9(n d:Nat)(o:Option Int):Mi.cutIx n d o=HT.sIx n d o:=by cases o<;>rfl
theorem zHU{G:Hp}:∀{ds:List Dt}{xs:List V}(i:Nat),RepL G ds xs->RepL G (ds.drop i) (xs.drop i)
 |ds,xs,0,r=>by simpa using r
 |[],xs,i+1,r=>by cases(show xs=[] from r);exact rfl
 |d::ds,xs,i+1,r=>by
  obtain⟨x,q,rfl,a,b⟩:=r;exact zHU i b
theorem zHS{G:Hp}:∀{ds:List Dt}{xs:List V}(i:Nat),RepL G ds xs->RepL G (ds.take i) (xs.take i)
 |ds,xs,0,r=>by simp;exact rfl
 |[],xs,i+1,r=>by cases(show xs=[] from r);exact rfl
 |d::ds,xs,i+1,r=>by
  obtain⟨x,q,rfl,a,b⟩:=r;exact⟨x,_,rfl,a,zHS i b⟩
theorem zNB{G:Hp}{ds:List Dt}{xs:List V}(r:RepL G ds xs)(lo hi:Option Int):RepL G (Mi.cutA ds lo hi) (cutV xs lo hi):=by
 unfold Mi.cutA cutV;rw[zK9,zK9,r.length];exact zHS _ (zHU _ r)
def RSl(r:V->Option Int->Option Int->Hp->VK->Prop)(n:Nat):Prop:=∀(mg:Str->Option Value)(E:XK)(G H:Hp)(d:Dt)(x:V)(lo hi:Option Int)(Q:VK),Same G H->Rep G d x->PostE mg E G H n (optR (Mi.slD d lo hi)) Q->r x lo hi H Q
theorem zTL{r:V->Option Int->Option Int->Hp->VK->Prop}{tl th:TO}{ml mh:OM}(hr:RSl r n)(A:DE mg E te e k)(B:DO mg E tl ml)(C:DO mg E th mh):DE mg E (tSl r te tl th) (Mi.eSl e ml mh) n:=by
 intro G H σ ρ Q s w p;refine(zAT A).step errE s w p fun d v G1 H1 S _ fr o p1=>?_
 refine B.step (errE.from fr.ext) fr.ext.in' (w.mono fr.ext.g) p1 fun lo H2 _ s2 p2=>?_
 have x2:=fr.ext.trans (Ext.same fr.ext.in' s2);refine C.step (errE.from x2) x2.in' (w.mono fr.ext.g) p2 fun hi H3 _ s3 p3=>?_
 have x3:=x2.trans (Ext.same x2.in' s3);exact hr mg E G1 H3 d v lo hi Q x3.in' o (PostE.from p3 x3)
theorem zC9(i:Nat){n0 n1:Nat}{t0 t1 t2:TE}{e0 e1 e2:EM}(Z:DE mg E t0 e0 n0)(A:DE mg E t1 e1 n1)(B:DE mg E t2 e2 n)(hn:n<1000:=by decide):DS mg E L (tAsg t2 (gSub (tOp (rIxU Kc.K) (vM i) t0) t1 setM)) (Mi.sItem2 i n e0 e1 e2):=by
 intro G0 H0 S0 σ ρ G H As D a p;obtain⟨J,x,s,w⟩:=a.full;refine B.step (errS.from x) x.in' w p fun d y G1 H1 S _ fr o p1=>?_
 cases er:ρ[i]? with
 |none=>rw[er]at p1;exact p1.elim
 |some sl=>
  rw[er]at p1
  match sl,er,p1 with
  |none,_,p=>exact p.elim
  |some (.lst rs,k+2),er,p1=>
   obtain⟨v,h1,q,xs,T,rfl,hq,kd⟩:=a.at i _ _ er;unfold gSub tOp vM;rw[h1];have x1:Ext J H J H1:=Ext.same x.in' fr.ext.h;refine(zAT Z).step (errS.from (x.trans x1)) x1.in' w p1 fun z0 u0 G2 H2 S2 _ fr2 o2 p2=>?_
   cases z0 with
   |int y0=>
    cases(show u0=.int y0 from o2)
    dsimp only at p2;cases ei:Mi.ixA rs.length y0 with
    |none=>rw[ei]at p2;exact p2.elim
    |some c=>
     rw[ei]at p2;dsimp only at p2;cases erow:rs[c]? with
     |none=>rw[erow]at p2;exact p2.elim
     |some row=>
      rw[erow]at p2;cases row with
      |lst ds=>
       have hc:c<xs.length:=by rw[kd.len];exact(qA2.mp erow).1
       have hxc:xs[c]?=some xs[c]:=qAe hc;obtain⟨qr,ys,U,er2,hqr,kr⟩:=kd.own c _ _ erow hxc;have sH2:=fr.ext.h.trans fr2.ext.h;refine⟨xs,xs[c],.inl (SqL.of (sH2 _ _ hq)),?_,?_⟩
       ·unfold atI;rw[kd.len,<- zM4,ei];exact hxc
       have x2:Ext J H J H2:=Ext.same x.in' sH2;refine(zAT A).step (errS.from (x.trans x2)) x2.in' w p2 fun z u G3 H3 S3 _ fr3 o3 p3=>?_
       cases z with
       |int z=>
        cases(show u=.int z from o3)
        dsimp only at p3;cases ez:Mi.ixA ds.length z with
        |none=>rw[ez]at p3;exact p3.elim
        |some c2=>
         rw[ez]at p3;dsimp only at p3
         split at p3
         ·rename_i hz
          rw[zM4]at ez;obtain⟨q1,q2⟩:=whole (k:=k) a s fr o hn hz.1 hz.2;have sH:=sH2.trans fr3.ext.h;rw[er2];refine⟨ys,c2,sH _ _ hqr,by rw[kr.len];exact ez,?_⟩;have a1:=a.grow sH;have tqr:T c qr:=kr.top;have iqr:As i qr:=kd.sub c qr tqr;have nS:¬S qr:=fun z=>(a.new i qr iqr).2.2 (q2 qr z).1
          have qne:q≠qr:=fun z=>kd.out c (z▸tqr)
          have fresh:∀b,As i b->S b->False:=fun b z1 z2=>(a.new i b z1).2.2 (q2 b z2).1
          have kr1:Kids (Own G H3 k) (T c) qr ds ys U:=kr.imp (fun _ _ _ _ w=>w.mono (Same.refl _) sH) fun _ z=>z
          have rowK:=kr1.set (p:=qr) (o:=.lst (ys.set c2 y)) c2 ((q1.mono (Same.refl _) (fr2.ext.h.trans fr3.ext.h)).upd nS) (fun r _=>kr.out r) nS (fun r b _ z1 z2=>fresh b (kd.sub c b (kr.sub r b z1)) z2);refine p3 σ G _ _ (a1.store (S:=fun b=>As i b\/S b) (d:=.lst (rs.set c (.lst (ds.set c2 d)))) (n:=k+2) (v:=.ref q) iqr h1 ⟨q,xs,fun r b=>if r=c then T c b\/S b else T r b,rfl,(zA9 qne).trans (sH _ _ hq),⟨by simp[kd.len],fun r d' xr g1 g2=>?_,.inl kd.top,fun r=>?_,fun r r' b z1 z2=>?_,fun r b z=>?_⟩⟩ fun b z=>?_)
          ·by_cases hr:c=r
           ·subst hr;rw[qAc (by rw[<- kd.len];exact hc)]at g1;cases g1;rw[hxc]at g2;cases g2;refine⟨qr,_,_,er2,zAH,rowK.imp (fun _ _ _ _ w=>w) fun b z=>?_⟩;rw[if_pos rfl];exact z
           ·rw[qAd hr]at g1;have nr:¬T r qr:=fun z=>hr (kd.dis c r qr tqr z)
            exact(((kd.own r d' xr g1 g2).mono (Same.refl _) sH).upd nr).sub fun b z=>by rw[if_neg (fun z=>hr z.symm)];exact z
          ·try dsimp only
           split
           ·exact fun z=>z.elim (kd.out c) fun z=>fresh q kd.top z
           ·exact kd.out r
          ·try dsimp only at z1 z2
           by_cases g1:r=c<;>by_cases g2:r'=c
           ·rw[g1,g2]
           ·rw[if_pos g1]at z1;rw[if_neg g2]at z2
            rcases z1 with z1|z1
            ·rw[g1];exact kd.dis c r' b z1 z2
            ·exact(fresh b (kd.sub r' b z2) z1).elim
           ·rw[if_neg g1]at z1;rw[if_pos g2]at z2
            rcases z2 with z2|z2
            ·rw[g2];exact kd.dis r c b z1 z2
            ·exact(fresh b (kd.sub r b z1) z2).elim
           ·rw[if_neg g1]at z1;rw[if_neg g2]at z2;exact kd.dis r r' b z1 z2
          ·try dsimp only at z
           by_cases g1:r=c
           ·rw[if_pos g1]at z
            rcases z with z|z
            ·exact .inl (kd.sub c b z)
            ·exact .inr z
           ·rw[if_neg g1]at z;exact .inl (kd.sub r b z)
          ·rcases z with z|z
           ·exact .inl z
           ·obtain⟨n1,n2,n3⟩:=q2 b z;exact .inr ⟨a.ext.h.free n1,n2,(fr2.ext.h.trans fr3.ext.h).some n3,fun j y=>(a.new j b y).2.2 n1⟩
         ·exact p3.elim
       |_=>exact p3.elim
      |_=>exact p2.elim
   |_=>exact p2.elim
  |some (.lst ds,0),_,p=>exact p.elim
  |some (.lst ds,1),_,p=>exact p.elim
  |some (.non,_),_,p=>exact p.elim
  |some (.bl _,_),_,p=>exact p.elim
  |some (.int _,_),_,p=>exact p.elim
  |some (.str _,_),_,p=>exact p.elim
  |some (.tup _,_),_,p=>exact p.elim
  |some (.scr _,_),_,p=>exact p.elim
  |some (.exc _ _ _,_),_,p=>exact p.elim
  |some (.fn _ _,_),_,p=>exact p.elim
  |some (.ins _ _,_),_,p=>exact p.elim
  |some (.dct _,_),_,p=>exact p.elim
end
end L3
namespace L3
open PySem PySem.Spec
open L2 hiding Rep RepL
open Mi (Dt Xn R okR zA3 optR zA0 zA8 zAF zAD zAE Rh Sl Ro EM TM AM FM IM SM OM Tg Out zAQ zAP zAV full frz frz1 frzAt)
section
variable[Kc]{mg:Str->Option Value}{E:XK}{L n k l:Nat}{te ta tb:TE}{e ea eb ma:EM}{t:TA}{m:AM}
theorem rs_u:RSl (rSlU Kc.K) 1:=by
 intro mg E G H d x lo hi Q s h p;cases d with
 |lst ds=>
  obtain⟨a,xs,rfl,ha,r⟩:=h;exact⟨xs,SqL.of (s _ _ ha),fun q hq=>PostE.lst p (Ext.refl s) (zNB r lo hi) hq⟩
 |str z=>
  cases(show x=.str z from h)
  rw[Mi.slD]at p
  by_cases hz:z.length<=100000
  ·rw[if_pos hz]at p;exact⟨big' hz,PostE.val p (Ext.refl s) rfl rfl⟩
  ·rw[if_neg hz]at p;exact p.elim
 |_=>exact p.elim
theorem zV1{tl th:TO}{ml mh:OM}(A:DE mg E te e k)(B:DO mg E tl ml)(C:DO mg E th mh):DE mg E (tSl (rSlU Kc.K) te tl th) (Mi.eSl e ml mh) 1:=zTL rs_u A B C
theorem zT6{G:Hp}(z:Str):ItOk (Its z) G (Mi.signsD z):=by
 intro i G1 H1 s1 s2;have hl:(Mi.signsD z).length=z.cps.size:=by simp[Mi.signsD]
 refine⟨fun hi=>by rw[hl]at hi;exact hi,fun hi=>by rw[hl]at hi;exact hi,fun x H2 d hd hy=>?_⟩;obtain⟨rfl,c,hc,rfl⟩:=hy;refine⟨G1,Ext.refl s2,?_⟩;unfold Mi.signsD at hd;rw[qAg]at hd;have hc':z.cps.toList[i]?=some c:=by simpa using hc
 rw[hc']at hd;cases hd;rfl
theorem zD1(A:DE mg E ta ma k):DI mg E (iAny Kc.K ta) (Mi.iSq ma) false:=by
 intro G H σ ρ Q s w p;refine(zAT A).step errI s w p fun d v G1 H1 S _ fr o p1=>?_
 cases d with
 |lst ds=>
  obtain⟨a,xs,rfl,ha,r⟩:=o;exact .inl ⟨⟨xs,SqL.of (fr.ext.in' _ _ ha)⟩,p1 _ G1 H1 fr.ext (zP1 (SqL.of ha) r)⟩
 |tup ds=>
  obtain⟨a,xs,rfl,ha,r⟩:=o;exact .inr ⟨⟨xs,SqT.of (fr.ext.in' _ _ ha)⟩,p1 _ G1 H1 fr.ext (zP0 (SqT.of ha) r)⟩
 |scr ns=>
  obtain⟨a,rfl,ha⟩:=o
  rcases ha with ha|ha
  ·exact .inl ⟨⟨_,fr.ext.in'.seq ha⟩,p1 _ G1 H1 fr.ext (zP1 ha (zCC ns))⟩
  ·exact .inr ⟨⟨_,zFA fr.ext.in' ha⟩,p1 _ G1 H1 fr.ext (zP0 ha (zCC ns))⟩
 |str z=>
  cases(show v=.str z from o)
  exact p1 _ G1 H1 fr.ext (zT6 z)
 |_=>exact p1.elim
theorem zJP:∀(xs ys:List Dt),(Mi.zipD xs ys).length=min xs.length ys.length
 |[],ys=>by simp[Mi.zipD]
 |_::_,[]=>by simp[Mi.zipD]
 |x::r,y::q=>by rw[Mi.zipD,qAz,zJP r q,qAz,qAz];lia
theorem zJQ:∀(xs ys:List Dt)(i:Nat)(d:Dt),(Mi.zipD xs ys)[i]?=some d->∃x y,xs[i]?=some x/\ys[i]?=some y/\d=.tup [x,y]
 |[],ys,_,_,h=>by simp[Mi.zipD]at h
 |_::_,[],_,_,h=>by simp[Mi.zipD]at h
 |x::r,y::q,0,d,h=>by simp[Mi.zipD]at h;exact⟨x,y,by simp,by simp,h.symm⟩
 |x::r,y::q,i+1,d,h=>by
  rw[Mi.zipD]at h;obtain⟨a,b,h1,h2,h3⟩:=zJQ r q i d (by simpa using h);exact⟨a,b,by simpa using h1,by simpa using h2,h3⟩
theorem zT5{K:qA0}{G:Hp}{a b:Addr}{xs ys:List V}{ds es:List Dt}(ha:G a=some (.lst xs))(r:RepL G ds xs)(hb:G b=some (.lst ys))(r':RepL G es ys):ItOk (Itz K a b) G (Mi.zipD ds es):=by
 intro i G1 H1 s1 s2;have hS:SqL K H1 a xs:=SqL.of (s2 _ _ (s1 _ _ ha));have hS':SqL K H1 b ys:=SqL.of (s2 _ _ (s1 _ _ hb));have l1:=r.length;have l2:=r'.length;rw[zJP];refine⟨fun hi=>⟨xs,ys,xs[i]'(by lia),ys[i]'(by lia),hS,hS',by simp,by simp⟩,fun hi=>⟨xs,ys,hS,hS',by lia⟩,fun x H2 d hd hy=>?_⟩;obtain⟨T,u,v,rfl,hT,rfl,h1,h2⟩:=hy;obtain⟨p,q,g1,g2,rfl⟩:=zJQ ds es i d hd;have x1:=Ext.new s2 hT (.tup [u,v]);exact⟨_,x1,T,_,rfl,zAH,_,_,rfl,Rep.mono (s1.trans x1.g) (zBO r g1 (h1 xs hS)),_,_,rfl,Rep.mono (s1.trans x1.g) (zBO r' g2 (h2 ys hS')),rfl⟩
theorem zTJ(A:DA mg E t m 0):DI mg E (iZip Kc.K t) (Mi.iZi m) false:=by
 intro G H σ ρ Q s w p;refine A.step errI s w p fun ds vs G1 H1 S T _ fr o p1=>?_
 have r:=o.repL;cases ds with
 |nil=>exact p1.elim
 |cons a0 r0=>
  cases a0 with
  |lst xs=>
   cases r0 with
   |nil=>exact p1.elim
   |cons b0 r1=>
    cases r1 with
    |cons _ _=>cases b0<;>exact p1.elim
    |nil=>
     cases b0 with
     |lst ys=>
      obtain⟨x,y,rfl,⟨a,us,rfl,ha,ra⟩,⟨b,ws,rfl,hb,rb⟩⟩:=zND r;exact⟨⟨us,SqL.of (fr.ext.in' _ _ ha)⟩,⟨ws,SqL.of (fr.ext.in' _ _ hb)⟩,p1 _ G1 H1 fr.ext (zT5 ha ra hb rb)⟩
     |_=>exact p1.elim
  |_=>rcases r0 with _|⟨_,_|_⟩<;>exact p1.elim
end
end L3
namespace Mi
open PySem
noncomputable section
def noE{α:Type}(r:R α):R α:=match r with
 |some (.ok a)=>okR a
 |_=>none
def eCallN(f:FM)(am:AM):EM:=fun ρ=>zA3 (am ρ) fun ds=>noE (f ds)
def eMkX(c f:Str)(am:AM):EM:=fun ρ=>zA3 (am ρ) fun ds=>match ds with
 |[d]=>okR (.exc c f d)
 |_=>none
def zRD(c f:Str)(am:AM):SM:=fun r=>zA3 (am (full r)) fun ds=>match ds with
 |[d]=>some (.error ⟨c,f,d⟩)
 |_=>none
def sRaise0(c:Str)(am:AM):SM:=fun r=>zA3 (am (full r)) fun ds=>@ite _ (ds.length<=1000) (qA1 _) (some (.error ⟨c,"",.non⟩)) none
def eAtX(hs:List Str)(f:Str)(a:EM):EM:=fun ρ=>zA3 (a ρ) fun d=>match d with
 |.exc c g x=>if c∈hs/\g=f then okR x else none
 |_=>none
def eIsX(ys ns:List Str)(a:EM):EM:=fun ρ=>zA3 (a ρ) fun d=>match d with
 |.exc c _ _=>if c∈ys then okR (.bl true)else if c∈ns then okR (.bl false)else none
 |_=>none
noncomputable def goneO(i:Nat):Out->Out
 |.nx r=>.nx (r.set i none)
 |.rt d=>.rt d
 |.bk r=>.bk (r.set i none)
 |.ct r=>.ct (r.set i none)
def sTry(vs:List Nat)(j:Option Nat)(e:EM)(hs:List Str)(i:Nat)(s:SM):SM:=fun r=>match e (frz (frzAt vs r))with
 |none=>none
 |some (.ok d)=>okR (.nx (match j with|none=>frzAt vs r|some j=>(frzAt vs r).set j (some (d,0))))
 |some (.error x)=>if x.cls∈hs then zA3 (s ((frzAt vs r).set i (some (.exc x.cls x.f x.d,0)))) fun o=>okR (goneO i o)else none
end
end Mi
namespace L3
open PySem PySem.Spec
open L2 hiding Rep RepL
open Mi (Dt Xn R okR zA3 optR zA0 zA8 zAF zAD zAE Rh Sl Ro EM TM AM FM IM SM OM Tg Out zAQ zAP zAV full frz frz1 frzAt)
section
variable[Kc]{mg:Str->Option Value}{E:XK}{L n k l:Nat}{te ta tb:TE}{e ea eb ma:EM}{t:TA}{m:AM}
theorem zOB{f:FM}(A:DA mg E t m 0):DE mg E (zG1 (spM mg n f) [] E0 t) (Mi.eCallN f m) n:=by
 intro G H σ ρ Q s w p;refine A.step errE s w p fun ds vs G1 H1 S T _ fr o p1=>?_
 refine⟨G1,ds,w.tab.trans fr.ext.g,fr.ext.in',by rw[qBp];exact o.repL,?_⟩;have p2:=PostE.from p1 fr.ext;cases e:f ds with
 |none=>rw[e]at p2;exact p2
 |some r=>
  rw[e]at p2;cases r with
  |error x=>exact p2.elim
  |ok d=>exact p2
def zRB(K:qA0)(f:Str):Sp:=fun vs H Q _=>∃e C y,vs=[.ref e,y]/\H e=some (xn e (.ref C) none)/\PySem.W.xcIn K C=true/\XSet K C f/\∀d,H d=none->d≠e->Q .non (upd (upd H d (.xd [(f,y)])) e (xn e (.ref C) (some d)))
theorem Sat.del{G0 H0 S0:Hp}{σ:St}{ρ:Ro}{G H:Hp}{As:Nat->Addr->Prop}(a:Sat G0 H0 S0 σ ρ G H As)(i:Nat):Sat G0 H0 S0 (σ.set i none) (ρ.set i none) G H As:=by
 refine⟨a.ext,a.stb,a.tab,by simp[a.len],fun j d n e=>?_,a.dis,a.new⟩
 by_cases z:i=j
 ·subst z;have hj:i<ρ.length:=by
   have:=(qA2.mp e).1
   simpa using this
  rw[qAc hj]at e;cases e
 ·rw[qAd z]at e;rw[qAd z];exact a.at j d n e
theorem zMB{G0 H0 S0:Hp}{i:Nat}{r:R Out}{D:Ends}(p:zDP mg E G0 H0 S0 L (zA3 r fun o=>okR (Mi.goneO i o)) D):zDP mg E G0 H0 S0 L r (zO5 i D):=by
 cases r with
 |none=>exact p
 |some r=>
  cases r with
  |error x=>exact p
  |ok o=>
   cases o with
   |nx ρ=>exact fun σ G H As a=>p _ G H As (a.del i)
   |rt d=>exact p
   |bk ρ=>exact fun σ G H As a=>p _ G H As (a.del i)
   |ct ρ=>exact fun σ G H As a=>p _ G H As (a.del i)
theorem zTF{te:XK->TE}{hs:List Str}{c:Value}{i:Nat}{ts:TS}{sm:SM}(j:Option Nat)(vs:List Nat)(hh:∀c'∈hs,∃C,clK Kc.K c'=some C/\qBw Kc.K (.ref C) c=some true)(A:∀E',DE mg E' (te E') e 0)(B:DS mg E L ts sm) :
  DS mg E L (zOL Kc.K c i (fun D E' σ H=>te (E' σ) σ H (fun v H1=>match j with|none=>D.nx σ H1|some j=>D.nx (σ.set j (some v)) H1)) ts) (Mi.sTry vs j e hs i sm):=by
 intro G0 H0 S0 σ ρ G H As D a p;obtain⟨G1,As1,a1⟩:=Sat.frzAt vs a;unfold Mi.sTry at p;refine(A _) G1 H σ (frz (frzAt vs ρ)) _ a1.ext.in' a1.frz ?_;cases ee:e (frz (frzAt vs ρ))with
 |none=>rw[ee]at p;exact p
 |some r=>
  rw[ee]at p;cases r with
  |ok d=>
   intro v G2 H2 S fr o;cases j with
   |none=>exact p σ G1 H2 As1 (a1.grow fr.ext.h)
   |some j=>exact p _ G2 H2 _ ((a1.wider fr.ext).put (i:=j) (S:=fun _=>False) (n:=0) (d:=d) (v:=v) o (fun _ z=>z.elim) (fun _ _ _ _ z=>z.elim))
  |error x=>
   by_cases hm:x.cls∈hs
   ·have p':zDP mg E G0 H0 S0 L (zA3 (sm ((frzAt vs ρ).set i (some (.exc x.cls x.f x.d,0)))) fun o=>okR (Mi.goneO i o)) D:=by
     have p2:zDP mg E G0 H0 S0 L (if x.cls∈hs then zA3 (sm ((frzAt vs ρ).set i (some (.exc x.cls x.f x.d,0)))) fun o=>okR (Mi.goneO i o)else none) D:=p;rw[if_pos hm]at p2;exact p2
    intro c' da G2 H2 x2 hX;obtain⟨e',C,rfl,h1,h2,h3⟩:=hX;obtain⟨C',hc1,hc2⟩:=hh _ hm;rw[h2]at hc1;cases hc1;refine⟨e',.ref C,rfl,x2.in' _ _ h1,hc2,?_⟩;exact B G0 H0 S0 _ _ G2 H2 _ (zO5 i D) ((a1.wider x2).put (i:=i) (S:=fun _=>False) (n:=0) (d:=.exc x.cls x.f x.d) (v:=.ref e') ⟨e',C,da,rfl,.inr h1,h2,h3⟩ (fun _ z=>z.elim) (fun _ _ _ _ z=>z.elim)) (zMB p')
   ·have p2:zDP mg E G0 H0 S0 L (if x.cls∈hs then zA3 (sm ((frzAt vs ρ).set i (some (.exc x.cls x.f x.d,0)))) fun o=>okR (Mi.goneO i o)else none) D:=p;rw[if_neg hm]at p2;exact p2.elim
noncomputable def kitV(K:qA0)(C:Addr):V->Option Bool
 |.ref c=>qAy K (.ref C) (.ref c)
 |.ty n=>qAy K (.ref C) (.type n)
 |_=>none
theorem zT8{ys ns:List Str}{ρ:Rh}{P:V->Hp->(V->Hp->Prop)->Prop}{b0:Addr->Bool->Prop}{G H:Hp}{σ:St}{Q:VK}(hy:∀c∈ys,∃C,clK Kc.K c=some C/\Xc.XIs Kc.K C/\b0 C true)(hn:∀c∈ns,∃C,clK Kc.K c=some C/\Xc.XIs Kc.K C/\b0 C false)(A:DE mg E ta ma k)(s:Same G H)(w:View G σ ρ)
  (p:PostE mg E G H 0 (Mi.eIsX ys ns ma ρ) Q) (h:∀e C d G1 H1 b,Ext G H G1 H1->isX H1 e C d->(∀a,d=some a->∃fs,H1 a=some (.xd fs))->Xc.XIs Kc.K C->b0 C b->(∀G2 H2,Ext G1 H1 G2 H2->Q (.bl b) H2)->P (.ref e) H1 Q):ta σ H fun x H1=>P x H1 Q:=by
 refine(zAT A).step errE s w p fun d v G1 H1 S _ fr o p1=>?_
 cases d with
 |exc c g x=>
  obtain⟨e,C,da,rfl,hx,hc,r⟩:=o;have hx':isX H1 e C da:=hx.imp (fun z=>fr.ext.in' _ _ z) fun z=>fr.ext.in' _ _ z
  have hd:∀a,da=some a->∃fs,H1 a=some (.xd fs):=fun a ea=>by
   rcases r with⟨z,_⟩|⟨a',gs,y,z,h1,_⟩
   ·rw[z]at ea;cases ea
   ·rw[z]at ea;cases ea;exact⟨gs,fr.ext.in' _ _ h1⟩
  dsimp only at p1
  split at p1
  ·rename_i hm
   obtain⟨C',hc',c1,c2⟩:=hy c hm;rw[hc]at hc';cases hc';exact h e C da G1 H1 true fr.ext hx' hd c1 c2 fun G2 H2 x2=>PostE.val p1 (fr.ext.trans x2) rfl rfl
  ·split at p1
   ·rename_i hm
    obtain⟨C',hc',c1,c2⟩:=hn c hm;rw[hc]at hc';cases hc';exact h e C da G1 H1 false fr.ext hx' hd c1 c2 fun G2 H2 x2=>PostE.val p1 (fr.ext.trans x2) rfl rfl
   ·exact p1.elim
 |_=>exact p1.elim
theorem zMK{ys ns:List Str}{y:V}(hy:∀c∈ys,∃C,clK Kc.K c=some C/\Xc.XIs Kc.K C/\kitV Kc.K C y=some true)(hn:∀c∈ns,∃C,clK Kc.K c=some C/\Xc.XIs Kc.K C/\kitV Kc.K C y=some false)(A:DE mg E ta ma k) :
  DE mg E (tCB (zPS Kc.K) (zDH ta (zDH (tC y) tNil))) (Mi.eIsX ys ns ma) 0:=by
 intro G H σ ρ Q s w p;refine zT8 (P:=fun x H1 Q=>zPS Kc.K [x,y] H1 Q) (b0:=fun C b=>kitV Kc.K C y=some b) hy hn A s w p fun e C d G1 H1 b x1 hx hd c1 c2 q=>?_
 refine⟨e,C,d,y,b,rfl,hx,hd,c1,q G1 H1 (Ext.refl x1.in'),?_⟩;cases y with
 |ref c=>exact .inl ⟨c,rfl,c2⟩
 |ty n=>exact .inr (.inl ⟨n,rfl,c2⟩)
 |_=>cases c2
end
end L3
namespace L3
open PySem PySem.Spec
open L2 hiding Rep RepL
open Mi (Dt Xn R okR zA3 optR zA0 zA8 zAF zAD zAE Rh Sl Ro EM TM AM FM IM SM OM Tg Out zAQ zAP zAV full frz frz1 frzAt)
section
variable{K:qA0}{C D:Addr}{dd:Option Addr}{cd:ClassData}{sl:Array (Option Value)}{b:Bool}
def xcD(C:Addr)(cd:ClassData)(sl:Array (Option Value)):Bool:=match cd.mro,sl.toList with
 |.ref C'::bm,[_,_,_,_,some (.builtin n),_]=>C'==C && !cd.hasDel&&PySem.W.excTail bm&&n == "ValueError.__new__" && cd.hasDict
 |_,_=>false
theorem zJ0(h:K.lookup C=some ⟨.type "type",dd,.cls cd,sl⟩)(h':xcD C cd sl=true):PySem.W.xcIn K C=true:=by
 unfold PySem.W.xcIn;rw[h];exact h'
theorem zFM(h1:qBf K D=some cd)(h2:qBh K (.ref D)=some (.type "type"))(h3:qAm K (.ref C) (.ref D)=some b):PySem.W.kitCls K (.ref C) (.ref D)=some b:=by
 show(if((qBf K D).isSome&&qBh K (.ref D)==some (.type "type"))=true then qAm K (.ref C) (.ref D)else none)=some b
 rw[h1,h2,if_pos (by rw[qDx,qE2];exact beq_self_eq_true _)];exact h3
theorem zK0(h1:qBf K D=some cd)(h2:qBh K (.ref D)=some (.type "type"))(h3:qAm K (.ref C) (.ref D)=some true):qAy K (.ref C) (.ref D)=some true:=by
 unfold qAy
 split
 ·rfl
 ·exact zFM h1 h2 h3
theorem zEY(h1:qBf K D=some cd)(h2:qBh K (.ref D)=some (.type "type"))(h3:qAm K (.ref C) (.ref D)=some false)(ne:(C==D)=false):qAy K (.ref C) (.ref D)=some false:=by
 unfold qAy
 split
 ·rename_i z
  have:C=D:=Value.ref.inj (beq_iff_eq.mp z)
  rw[this,beq_self_eq_true]at ne;cases ne
 ·exact zFM h1 h2 h3
theorem zFL(h3:qAm K (.ref C) (.type "ValueError")=some true):qAy K (.ref C) (.type "ValueError")=some true:=by
 unfold qAy
 split
 ·rfl
 ·show(if PySem.W.kitMeta "ValueError" = true then qAm K (.ref C) (.type "ValueError")else none)=some true
  rw[if_pos (by decide +kernel)];exact h3
theorem zFT(h0:qAm K (.ref D) (.type "BaseException")=some true)(h1:qBf K D=some cd)(h2:qBh K (.ref D)=some (.type "type"))(h3:qAm K (.ref C) (.ref D)=some true):qBw K (.ref C) (.ref D)=some true:=by
 unfold qBw;rw[h0,if_pos (beq_self_eq_true _)];exact zFM h1 h2 h3
end
structure XCls(K:qA0)(mg:Str->Option Value)(c:Str)(C:Addr):Prop where
 cl:clK K c=some C
 gm:mg c=some (.ref C)
 is:Xc.XIs K C
structure XIni(P:Program)(w:World)(K:qA0)(mg:Str->Option Value)(base:Heap)(c f:Str)(C:Addr):Prop extends XCls K mg c C where
 kp:qAp K (.ref C)=true
 st:XSet K C f
 fa:qAi K (.ref C) f=some none
 ini:∃fI fd ps,qAi K (.ref C) "__init__" = some (some (.ref fI))/\qEd K (.ref fI)=true/\FnOk P w K mg base (CXe P w) 1 fI fd ps (zRB K f)/\Binds K fd ps []
theorem zDO{K:qA0}{c:Str}{C:Addr}(h:qBb K mainGlobals c=some (some (.ref C))):clK K c=some C:=by unfold clK;rw[h]
theorem zFW:bootBuiltins "ValueError" = some (.type "ValueError"):=by decide +kernel
theorem zQ0{P:Program}{w:World}{K:qA0}{mg:Str->Option Value}{base:Heap}{N:List Str}{qual:Str}{scope:Scope}{f:Addr}{cd:Value}{A:Around}{outer:List Env}{s:Shared}{H:Hp}{E:XK} :
  PassesOwn (model P w) (A.deeper (qDt qual scope s.heap.objs.size f cd)) (qDt qual scope s.heap.objs.size f cd) (cxOf (CXe P w) P w K mg base N qual scope f cd A outer s H E).xe:=PassesOwn.leaving
def spE(K:qA0)(mg:Str->Option Value)(L:Nat)(f:Mi.FM):Sp:=fun vs H Q E=>@spM ⟨K⟩ mg L f vs H Q E
section
variable[Kc]{mg:Str->Option Value}{E:XK}{L n k l:Nat}{te ta tb:TE}{e ea eb ma:EM}{t:TA}{m:AM}
theorem zCA{f:FM}{E':XK}(A:DA mg E t m 0):DE mg E (zG1 (sp0 Kc.K mg n f) [] E' t) (Mi.eCallN f m) n:=zOB A
theorem zF0{f:FM}(A:DA mg E t m 0):DE mg E (zG1 (spE Kc.K mg n f) [] E t) (Mi.eCall f m) n:=zD3 A
end
def zG5(K:qA0):Sp:=fun vs H Q _=>∃(a:Addr)(ns:List Int),vs=[.ref a]/\Same (tabK K) H/\SqL K H a (ns.map V.int)/\ns.length<=63/\(∀i∈ns,i.natAbs.log2<2 ^ 20)/\∀H',Same (tabK K) H'->Q (.bl true) H'
theorem zNZ{K:qA0}{mg:Str->Option Value}{L:Nat}{f:FM}(hf:∀ns:List Int,ns.length<=63->(∀i∈ns,i.natAbs.log2<2 ^ 20)->f [.scr ns]=okR (.bl true)):∀vs H Q E,zG5 K vs H Q E->sp0 K mg L f vs H Q E:=by
 letI:Kc:=⟨K⟩
 rintro vs H Q E ⟨a,ns,rfl,tb,hS,hl,hw,q⟩
 refine⟨H,[.scr ns],tb,Same.refl _,⟨_,_,rfl,⟨a,rfl,.inl hS⟩,rfl⟩,?_⟩;rw[hf ns hl hw];intro v G' H' S fr o
 cases(show v=.bl true by cases L<;>exact o)
 exact q H' (tb.trans fr.ext.h)
end L3
namespace Mi
open PySem
section
variable(ρ:Rh)(r:Ro)(a b c:EM)(s t:SM)(q q':TM)(am:AM)
@[simp] theorem x_eC(d:Dt):eC d ρ=okR d:=rfl
@[simp] theorem x_eV(i:Nat):eV i ρ=match ρ[i]? with|some (some d)=>okR d|_=>none:=rfl
@[simp] theorem x_eB(f:Dt->Dt->Option Dt):eB f a b ρ=zA3 (a ρ) fun x=>zA3 (b ρ) fun y=>optR (f x y):=rfl
@[simp] theorem x_eU(f:Dt->Option Dt):eU f a ρ=zA3 (a ρ) fun x=>optR (f x):=rfl
@[simp] theorem zEJ:aNil ρ=okR []:=rfl
@[simp] theorem zBJ:aCons a am ρ=zA3 (a ρ) fun x=>zA3 (am ρ) fun xs=>okR (x::xs):=rfl
@[simp] theorem zGJ(f:FM):eCall f am ρ=zA3 (am ρ) f:=rfl
@[simp] theorem zTZ(f:List Dt->Option Dt):eBi f am ρ=zA3 (am ρ) fun xs=>optR (f xs):=rfl
@[simp] theorem x_eLst:eLst am ρ=zA3 (am ρ) fun xs=>@ite _ (xs.length<=100000) (qA1 _) (okR (.lst xs)) none:=rfl
@[simp] theorem x_eTup:eTup am ρ=zA3 (am ρ) fun xs=>@ite _ (xs.length<=100000) (qA1 _) (okR (.tup xs)) none:=rfl
@[simp] theorem x_eIsi(n:String):eIsi n a ρ=zA3 (a ρ) fun x=>optR (isiD n x):=rfl
@[simp] theorem x_eAnd:eAnd a b ρ=zA3 (a ρ) fun x=>match x with | .bl k=>if k=true then b ρ else okR (.bl false)|_=>none:=rfl
@[simp] theorem x_eOr:eOr a b ρ=zA3 (a ρ) fun x=>match x with | .bl k=>if k=true then okR (.bl true)else b ρ|_=>none:=rfl
@[simp] theorem x_eNot:eNot a ρ=zA3 (a ρ) fun x=>match x with | .bl k=>okR (.bl (!k))|_=>none:=rfl
@[simp] theorem x_eChain(f g:Dt->Dt->Option Dt):eChain f g a b c ρ=zA3 (a ρ) fun x=>zA3 (b ρ) fun y=>zA3 (optR (f x y)) fun z=>match z with | .bl k=>if k=true then zA3 (c ρ) fun w=>optR (g y w)else okR (.bl false)|_=>none:=rfl
@[simp] theorem x_eIf:eIf q a b ρ=zA3 (q ρ) fun k=>if k=true then a ρ else b ρ:=rfl
@[simp] theorem x_tB:tB a ρ=zA3 (a ρ) fun x=>match x with | .bl k=>okR k|_=>none:=rfl
@[simp] theorem x_tM:tM a ρ=zA3 (a ρ) fun x=>match x with | .bl k=>okR k | .int i=>okR (i != 0) | .non=>okR false|_=>none:=rfl
@[simp] theorem zQY:tAn q q' ρ=zA3 (q ρ) fun k=>if k=true then q' ρ else okR false:=rfl
@[simp] theorem zQX:tOr q q' ρ=zA3 (q ρ) fun k=>if k=true then okR true else q' ρ:=rfl
@[simp] theorem zTW:tNo q ρ=zA3 (q ρ) fun k=>okR (!k):=rfl
@[simp] theorem zQW:tYes ρ=okR true:=rfl
@[simp] theorem zHF:sNil r=okR (.nx r):=rfl
@[simp] theorem zEI:sSeq s t r=zA3 (s r) fun o=>match o with | .nx ρ'=>t ρ'|o=>okR o:=rfl
@[simp] theorem zJ1:sIf q s t r=zA3 (q (full r)) fun k=>if k=true then s r else t r:=rfl
@[simp] theorem x_sDrop:zUB a r=zA3 (a (full r)) fun _=>okR (.nx r):=rfl
@[simp] theorem x_sBreak:zRF r=okR (.bk r):=rfl
@[simp] theorem x_sCont:zUD r=okR (.ct r):=rfl
@[simp] theorem x_sNever:zRE r=none:=rfl
@[simp] theorem x_sRetN:zU9 r=okR (.rt .non):=rfl
@[simp] theorem zJR(i n:Nat)(vs:List Nat):sSet i n vs a r=zA3 (a (full r)) fun d=>if d.dep<=n then okR (.nx (r.set i (some (d,n))))else zA3 (a (frz (frzAt vs r))) fun d'=>okR (.nx ((frzAt vs r).set i (some (d',n)))):=rfl
@[simp] theorem zQZ(L n:Nat)(vs:List Nat):sRet L n vs a r=zA3 (a (full r)) fun d=>if d.dep<=n/\d.dep<=L then okR (.rt d)else if n=L then zA3 (a (frz (frzAt vs r))) fun d'=>okR (.rt d')else none:=rfl
@[simp] theorem x_sRetV(L i:Nat):sRetV L i r=match r[i]? with|some (some (d,k))=>if k=L\/L=0\/(d.dep<=k/\d.dep<=L/\k<1000)then okR (.rt d)else none|_=>none:=rfl
@[simp] theorem x_full_nil:full []=[]:=rfl
@[simp] theorem x_full_cons(o:Option Sl)(r:Ro):full (o::r)=o.map qFs::full r:=rfl
@[simp] theorem x_frz_nil:frz []=[]:=rfl
@[simp] theorem x_frz_none(r:Ro):frz (none::r)=none::frz r:=rfl
@[simp] theorem x_frz_some(d:Dt)(n:Nat)(r:Ro):frz (some (d,n)::r)=(if n=0\/d.dep=0 then some d else none)::frz r:=rfl
@[simp] theorem x_frzAt_nil(r:Ro):frzAt [] r=r:=rfl
@[simp] theorem x_frzAt_cons(i:Nat)(v:List Nat)(r:Ro):frzAt (i::v) r=frzAt v (frz1 i r):=rfl
@[simp] theorem x_frz1(i:Nat)(r:Ro):frz1 i r=match r[i]? with|some (some (d,_))=>r.set i (some (d,0))|_=>r:=rfl
@[simp] theorem x_startO(n:Nat)(ds:List Dt):startO n ds=ds.map (fun d=>some (d,0))++qA5 (n-ds.length) none:=rfl
@[simp] theorem x_runF(P n:Nat)(ds:List Dt):runF P n s ds=if ds.length=P then zA3 (s (startO n ds)) endF else none:=rfl
@[simp] theorem x_end1(r:Ro):endF (.nx r)=okR .non:=rfl
@[simp] theorem x_end2(d:Dt):endF (.rt d)=okR d:=rfl
end
@[simp] theorem v_add(i j:Int):addD (.int i) (.int j)=some (.int (i+j)):=rfl
@[simp] theorem zR0(i j:Str):addD (.str i) (.str j)=@ite _ (i.length+j.length<=100000) (qA1 _) (some (.str (i++j))) none:=rfl
@[simp] theorem v_addL(i j:List Dt):addD (.lst i) (.lst j)=@ite _ (i.length+j.length<=100000) (qA1 _) (some (.lst (i++j))) none:=rfl
@[simp] theorem v_sub(i j:Int):subD (.int i) (.int j)=some (.int (i-j)):=rfl
@[simp] theorem zN2(i j:Int):mulD (.int i) (.int j)=@ite _ (((-18446744073709551616<i/\i<18446744073709551616)\/(-18446744073709551616<j/\j<18446744073709551616))\/i.natAbs.log2+j.natAbs.log2<=67108864) (qA1 _) (some (.int (i*j))) none:=rfl
@[simp] theorem v_div(i j:Int):divD (.int i) (.int j)=@ite _ (0<j/\j<1000000000000000000000000) (qA1 _) (some (.int (i/j))) none:=rfl
@[simp] theorem v_mod(i j:Int):modD (.int i) (.int j)=if 0<j then some (.int (i%j))else none:=rfl
@[simp] theorem v_pow(i j:Int):powD (.int i) (.int j)=@ite _ (0<=j/\j<=1000000/\i.natAbs<18446744073709551616) (qA1 _) (some (.int (i ^ j.toNat))) none:=rfl
@[simp] theorem v_neg(i:Int):negD (.int i)=some (.int (-i)):=rfl
@[simp] theorem v_cmp(p:Int->Int->Bool)(i j:Int):cmpD p (.int i) (.int j)=some (.bl (p i j)):=rfl
@[simp] theorem v_eq(x y:Dt):eqD x y=if x.dep<=40/\y.dep<=40 then some (.bl (Dt.eq x y))else none:=rfl
@[simp] theorem v_ne(x y:Dt):neD x y=if x.dep<=40/\y.dep<=40 then some (.bl (!Dt.eq x y))else none:=rfl
@[simp] theorem v_is(x:Dt):isD x .non=some (.bl (isNonD x)):=rfl
@[simp] theorem v_isnt(x:Dt):zUT x .non=some (.bl (!isNonD x)):=rfl
@[simp] theorem v_isN1:isNonD .non=true:=rfl
@[simp] theorem v_isN2(i:Int):isNonD (.int i)=false:=rfl
@[simp] theorem v_isN3(i:List Dt):isNonD (.lst i)=false:=rfl
@[simp] theorem v_isN4(i:List Dt):isNonD (.tup i)=false:=rfl
@[simp] theorem v_isN5(i:Str):isNonD (.str i)=false:=rfl
@[simp] theorem v_isN6(i:Bool):isNonD (.bl i)=false:=rfl
@[simp] theorem v_ixL(xs:List Dt)(i:Int):ixD (.lst xs) (.int i)=itA xs i:=rfl
@[simp] theorem v_ixT(xs:List Dt)(i:Int):ixD (.tup xs) (.int i)=itA xs i:=rfl
@[simp] theorem v_ixS(ns:List Int)(i:Int):ixD (.scr ns) (.int i)=(itA ns i).map .int:=rfl
@[simp] theorem v_lenL(xs:List Dt):lenD [.lst xs]=some (.int xs.length):=rfl
@[simp] theorem v_lenT(xs:List Dt):lenD [.tup xs]=some (.int xs.length):=rfl
@[simp] theorem v_lenS(ns:List Int):lenD [.scr ns]=some (.int ns.length):=rfl
@[simp] theorem v_listL(xs:List Dt):listD [.lst xs]=some (.lst xs):=rfl
@[simp] theorem v_listT(xs:List Dt):listD [.tup xs]=some (.lst xs):=rfl
@[simp] theorem v_listS(ns:List Int):listD [.scr ns]=some (.lst (ns.map .int)):=rfl
theorem zPK{j:Int}(h0:0<=j)(h1:j<=100000):rangeD [.int j]=some (.lst (nums 0 j.toNat)):=by
 show(@ite _ ((-4611686018427387904<=j/\j<4611686018427387904)/\j<=100000) (qA1 _) (some (Dt.lst (nums 0 j.toNat))) none)=_
 rw[if_pos ⟨⟨by lia,by lia⟩,h1⟩]
@[simp] theorem v_dn:Dt.non.dep=0:=rfl
@[simp] theorem v_db(b:Bool):(Dt.bl b).dep=0:=rfl
@[simp] theorem v_di(b:Int):(Dt.int b).dep=0:=rfl
@[simp] theorem v_ds(b:Str):(Dt.str b).dep=0:=rfl
@[simp] theorem v_dS(b:List Int):(Dt.scr b).dep=1000:=by rw[Dt.dep]
@[simp] theorem v_dl(xs:List Dt):(Dt.lst xs).dep=Dt.depL xs+1:=by rw[Dt.dep]
@[simp] theorem v_dt(xs:List Dt):(Dt.tup xs).dep=Dt.depL xs+1:=by rw[Dt.dep]
@[simp] theorem v_dnil:Dt.depL []=0:=by rw[Dt.depL]
@[simp] theorem zDG(x:Dt)(r:List Dt):Dt.depL (x::r)=max x.dep (Dt.depL r):=by rw[Dt.depL]
@[simp] theorem v_e1(i j:Int):Dt.eq (.int i) (.int j)=decide (i=j):=by rw[Dt.eq];by_cases h:i=j<;>simp[h]
@[simp] theorem v_e2(i j:Str):Dt.eq (.str i) (.str j)=decide (i=j):=by rw[Dt.eq];by_cases h:i=j<;>simp[h]
@[simp] theorem v_e3(i j:Bool):Dt.eq (.bl i) (.bl j)=decide (i=j):=by rw[Dt.eq];by_cases h:i=j<;>simp[h]
@[simp] theorem v_e4(i j:List Dt):Dt.eq (.lst i) (.lst j)=Dt.eqL i j:=by rw[Dt.eq]
@[simp] theorem v_e5(i j:List Dt):Dt.eq (.tup i) (.tup j)=Dt.eqL i j:=by rw[Dt.eq]
@[simp] theorem v_e6:Dt.eq .non .non=true:=by rw[Dt.eq]
@[simp] theorem zD2:∀(ns:List Int),Dt.depL (ns.map Dt.int)=0
 |[]=>by simp
 |n::r=>by rw[qAl,zDG,zD2 r];rfl
@[simp] theorem zOA:∀(xs ys:List Dt),Dt.depL (xs++ys)=max (Dt.depL xs) (Dt.depL ys)
 |[],ys=>by simp
 |x::r,ys=>by rw[qD7,zDG,zDG,zOA r ys];exact(Nat.max_assoc _ _ _).symm
@[simp] theorem zE1:∀(ns ms:List Int),Dt.eqL (ns.map Dt.int) (ms.map Dt.int)=decide (ns=ms)
 |[],[]=>by simp[Dt.eqL]
 |[],_::_=>by simp[Dt.eqL]
 |_::_,[]=>by simp[Dt.eqL]
 |n::r,m::q=>by rw[qAl,qAl,Dt.eqL,zE1 r q,v_e1];simp
theorem zI9{α:Type}{xs:List α}{i:Int}{j:Nat}{v:α}(e:i=(j:Int))(h:xs[j]?=some v):itA xs i=some v:=by
 have hj:j<xs.length:=(qA2.mp h).1;subst e;unfold itA ixA;rw[if_pos (by lia),if_pos (by lia)]
 simpa using h
theorem zK1{n:Nat}{i:Int}(h0:0<=i)(h1:i<n):ixA n i=some i.toNat:=by
 unfold ixA;rw[if_pos h0,if_pos h1]
theorem zK2{ns:List Int}{i:Int}(h0:0<=i)(h1:i<ns.length):itA (ns.map Dt.int) i=some (.int (ns.getD i.toNat 0)):=by
 refine zI9 (j:=i.toNat) (by lia) ?_;rw[qAg,qA6,qAe (by lia)];rfl
theorem zQF{ns:List Int}{i:Int}(h0:0<=i)(h1:i<ns.length):itA ns i=some (ns.getD i.toNat 0):=by
 refine zI9 (j:=i.toNat) (by lia) ?_;rw[qA6,qAe (by lia)];rfl
@[simp] theorem set_int(ns:List Int)(i:Nat)(x:Int):(ns.map Dt.int).set i (.int x)=(ns.set i x).map Dt.int:=by rw[qDk]
theorem zKA{ρ:Rh}{k:Nat}{tg:Tg}{c:TM}{e:EM}(f:Dt->Dt):∀(ds acc:List Dt),(∀d∈ds,∃bs,zAQ tg d=some bs/\c (zAP (ρ++qA5 k none) bs)=okR true/\e (zAP (ρ++qA5 k none) bs)=okR (f d))->compGo ρ k tg c e ds acc=okR (acc++ds.map f)
 |[],acc,_=>by simp[compGo]
 |d::ds,acc,h=>by
  obtain⟨bs,h1,h2,h3⟩:=h d (by simp);rw[compGo,h1];simp only;rw[h2,zA0,if_pos rfl,h3,zA0,zKA f ds (acc++[f d]) fun d hd=>h d (by simp[hd])];simp
theorem zC4{ρ:Rh}{k:Nat}{tg:Tg}{c:TM}{e:EM}(p:Dt->Bool)(f:Dt->Dt):∀(ds acc:List Dt),(∀d∈ds,∃bs,zAQ tg d=some bs/\c (zAP (ρ++qA5 k none) bs)=okR (p d)/\(p d=true->e (zAP (ρ++qA5 k none) bs)=okR (f d)))->compGo ρ k tg c e ds acc=okR (acc++(ds.filter p).map f)
 |[],acc,_=>by simp[compGo]
 |d::ds,acc,h=>by
  obtain⟨bs,h1,h2,h3⟩:=h d (by simp);rw[compGo,h1];simp only;rw[h2,zA0];cases hp:p d with
  |true=>
   rw[if_pos rfl,h3 hp,zA0,zC4 p f ds (acc++[f d]) fun d hd=>h d (by simp[hd])];simp[hp]
  |false=>
   rw[if_neg (by decide),zC4 p f ds acc fun d hd=>h d (by simp[hd])];simp[hp]
theorem zFS{tg:Tg}{b:SM}(Pv:Nat->Ro->Prop):∀(ds:List Dt)(i:Nat)(r:Ro),Pv i r->(∀(j:Nat)(d:Dt)(r:Ro),ds[j]?=some d->Pv (i+j) r->∃bs r',zAQ tg d=some bs/\b (zAV r bs)=okR (.nx r')/\Pv (i+j+1) r') ->
  ∃r',forGo tg b ds r=okR (.nx r')/\Pv (i+ds.length) r'
 |[],i,r,h,_=>⟨r,by simp[forGo],by simpa using h⟩
 |d::ds,i,r,h,hs=>by
  obtain⟨bs,r1,h1,h2,h3⟩:=hs 0 d r (by simp) (by simpa using h);obtain⟨r2,h4,h5⟩:=zFS Pv ds (i+1) r1 (by simpa using h3) fun j e r he hp=>by
   have:=hs (j+1) e r (by simpa using he) (by rw[show i+(j+1)=i+1+j by lia];exact hp)
   rw[show i+1+j+1=i+(j+1)+1 by lia];exact this
  refine⟨r2,?_,by rw[qAz,show i+(ds.length+1)=i+1+ds.length by lia];exact h5⟩;rw[forGo,h1];simp only;rw[h2,zA0];exact h4
end Mi
namespace Mi
open PySem
section
variable(ρ:Rh)(r:Ro)(a:EM)(am:AM)(s:SM)
@[simp] theorem x_noE_ok{α:Type}(x:α):noE (okR x)=okR x:=rfl
@[simp] theorem x_noE_none{α:Type}:noE (none:R α)=none:=rfl
@[simp] theorem x_noE_err{α:Type}(e:Xn):noE (some (.error e):R α)=none:=rfl
@[simp] theorem x_eCallN(f:FM):eCallN f am ρ=zA3 (am ρ) fun ds=>noE (f ds):=rfl
@[simp] theorem x_eMkX(c f:Str):eMkX c f am ρ=zA3 (am ρ) fun ds=>match ds with|[d]=>okR (.exc c f d)|_=>none:=rfl
@[simp] theorem x_sRaise(c f:Str):zRD c f am r=zA3 (am (full r)) fun ds=>match ds with|[d]=>some (.error ⟨c,f,d⟩)|_=>none:=rfl
@[simp] theorem x_eAtX(hs:List Str)(f:Str):eAtX hs f a ρ=zA3 (a ρ) fun d=>match d with | .exc c g x=>if c∈hs/\g=f then okR x else none|_=>none:=rfl
@[simp] theorem x_eIsX(ys ns:List Str):eIsX ys ns a ρ=zA3 (a ρ) fun d=>match d with | .exc c _ _=>if c∈ys then okR (.bl true)else if c∈ns then okR (.bl false)else none|_=>none:=rfl
@[simp] theorem x_gone_nx(i:Nat):goneO i (.nx r)=.nx (r.set i none):=rfl
@[simp] theorem x_gone_rt(i:Nat)(d:Dt):goneO i (.rt d)=.rt d:=rfl
end
example (d:Dt):True:=trivial
end Mi
namespace L2
open PySem PySem.Spec PyProof.Rows
section
variable{X:Cx}
noncomputable def zRN:R2:=fun x y H Q=>match x,y with
 |.int i,.int j=>Q (.int (Builtin.bitXor i j)) H
 |_,_=>False
theorem zU2:OpR X (binaryOp .BitXor) zRN:=by
 intro pins s σ H x y v u Q I rx ry h;cases x<;>cases y<;>first
  |exact zSG pins s σ H _ _ v u Q I rx ry ⟨_,_,rfl,rfl,h⟩
  |exact qA3 h
def zRP:R2:=fun x y H Q=>match x,y with
 |.ref l,.int k=>∃xs,H l=some (.lst xs)/\(-(2 ^ 63)<=k/\k<2 ^ 63)/\xs.length*k.toNat<=sizeLine/\∀p,H p=none->Q (.ref p) (upd H p (.lst (qA5 k.toNat xs).flatten))
 |_,_=>False
theorem zU3:OpR X (binaryOp .Mult) zRP:=by
 intro pins s σ H x y v u Q I rx ry h;cases x<;>cases y<;>first
  |(obtain⟨xs,h1,h2,h3,h4⟩:=h;exact zSI pins s σ H _ _ v u Q I rx ry ⟨_,_,xs,rfl,rfl,h1,h2.1,h2.2,h3,h4⟩)
  |exact qA3 h
def extM:V->List V->Hp->VK->Prop:=fun x vs H Q=>match x,vs with
 |.ref l,[.ref b]=>∃xs zs,H l=some (.lst xs)/\H b=some (.lst zs)/\xs.length+zs.length<=sizeLine/\Q .non (upd H l (.lst (xs++zs)))
 |_,_=>False
def clrM:V->List V->Hp->VK->Prop:=fun x vs H Q=>match x,vs with
 |.ref l,[]=>∃xs,H l=some (.lst xs)/\Q .non (upd H l (.lst []))
 |_,_=>False
theorem zQ8:MtR X "list.clear" clrM:=by
 intro pins s σ H x vs v us Q I rx rv h;cases x with
 |ref l=>
  cases vs with
  |nil=>
   obtain⟨xs,h1,h4⟩:=h;exact zNV pins s σ H _ _ v us Q I rx rv ⟨l,xs,rfl,rfl,h1,h4⟩
  |cons _ _=>exact qA3 h
 |_=>exact qA3 h
end
section
variable{X:Cx}{K:qA0}
end
end L2
namespace Mi
open PySem
noncomputable section
noncomputable def xorD:Dt->Dt->Option Dt
 |.int i,.int j=>some (.int (Builtin.bitXor i j))
 |_,_=>none
noncomputable def repD:Dt->Dt->Option Dt
 |.lst xs,.int k=>@ite _ ((-4611686018427387904<=k/\k<4611686018427387904)/\xs.length*k.toNat<=100000) (qA1 _) (some (.lst (qA5 k.toNat xs).flatten)) none
 |_,_=>none
def tL(a:EM):TM:=fun ρ=>zA3 (a ρ) fun x=>match x with
 |.bl k=>okR k
 |.int i=>okR (i != 0)
 |.non=>okR false
 |.lst xs=>okR (!xs.isEmpty)
 |.tup xs=>okR (!xs.isEmpty)
 |_=>none
def iRv(e:AM):IM:=fun ρ=>zA3 (e ρ) fun vs=>match vs with
 |[.lst xs]=>okR xs.reverse
 |_=>none
noncomputable def intsD:List Dt->Option (List Int)
 |[]=>some []
 |.int i::r=>(intsD r).map (i::·)
 |_::_=>none
def eMl(f:List Dt->List Dt->Option Dt)(a:EM)(am:AM):EM:=fun ρ=>zA3 (a ρ) fun x=>match x with
 |.lst xs=>zA3 (am ρ) fun ds=>optR (f xs ds)
 |_=>none
def sExt(i n:Nat)(e:EM):SM:=fun ρ=>match ρ[i]? with
 |some (some (.lst ds,k+1))=>zA3 (e (full ρ)) fun d=>match d with
  |.lst es=>@ite _ (ds.length+es.length<=100000/\Dt.depL es<=n/\Dt.depL es<=k) (qA1 _) (okR (.nx (ρ.set i (some (.lst (ds++es),k+1))))) none
  |_=>none
 |_=>none
noncomputable def low(i:Nat)(ρ:Ro):Ro:=match ρ[i]? with
 |some (some (.lst ds,_+1))=>ρ.set i (some (.lst ds,1))
 |_=>ρ
def zRG(i:Nat)(vs:List Nat)(e:EM):SM:=fun ρ=>match(frzAt vs (low i ρ))[i]? with
 |some (some (.lst ds,1))=>zA3 (e (frz (frzAt vs (low i ρ)))) fun d=>@ite _ (ds.length<=100000) (qA1 _) (okR (.nx ((frzAt vs (low i ρ)).set i (some (.lst (ds++[d]),1))))) none
 |_=>none
end
end Mi
namespace L3
open PySem PySem.Spec
open L2 hiding Rep RepL
open Mi (Dt Xn R okR zA3 optR zA0 zA8 zAF zAD zAE Rh Sl Ro EM TM AM FM IM SM Tg Out zAQ zAP zAV full frz frz1 frzAt)
section
variable[Kc]{mg:Str->Option Value}{E:XK}{L n k l:Nat}{te ta tb:TE}{e ea eb ma:EM}{t:TA}{m:AM}
theorem zRJ:ROp zRN Mi.xorD n:=by
 intro mg E G H d e x y Q s h1 h2 p;cases d with
 |int i=>
  cases e with
  |int j=>cases(show x=.int i from h1);cases(show y=.int j from h2);exact zLB s p rfl rfl rfl
  |_=>exact p.elim
 |_=>exact p.elim
theorem zNC{G:Hp}{ds es:List Dt}{xs ys:List V}(ra:RepL G ds xs)(rb:RepL G es ys):RepL G (ds++es) (xs++ys):=by
 refine zDI (by simp[ra.length,rb.length]) fun j d' x' e1 e2=>?_
 by_cases hj:j<ds.length
 ·rw[qAa hj]at e1;rw[qAa (by rw[ra.length];exact hj)]at e2;exact zBO ra e1 e2
 ·rw[qA8 (by lia)]at e1;rw[qA8 (by rw[ra.length];lia),ra.length]at e2;exact zBO rb e1 e2
theorem zJW{G:Hp}{ds:List Dt}{xs:List V}(r:RepL G ds xs):∀k:Nat,RepL G (qA5 k ds).flatten (qA5 k xs).flatten
 |0=>rfl
 |k+1=>by rw[qB6,qB6,qBk,qBk];exact zNC r (zJW r k)
theorem zRK:ROp zRP Mi.repD 1:=by
 intro mg E G H d e x y Q s h1 h2 p;cases d with
 |lst ds=>
  cases e with
  |int j=>
   obtain⟨a,xs,rfl,ha,ra⟩:=h1
   cases(show y=.int j from h2)
   rw[Mi.repD]at p
   split at p
   ·rename_i hz
    exact⟨xs,s _ _ ha,⟨by lia,by lia⟩,by rw[ra.length];exact big' hz.2,fun q hq=>PostE.lst p (Ext.refl s) (zJW ra _) hq⟩
   ·exact p.elim
  |_=>exact p.elim
 |_=>exact p.elim
theorem zFQ{G:Hp}:∀{ds:List Dt}{ns:List Int}{xs:List V},Mi.intsD ds=some ns->RepL G ds xs->xs=ns.map V.int
 |[],ns,xs,h,r=>by cases h;exact r
 |d::q,ns,xs,h,r=>by
  cases d with
  |int i=>
   rw[Mi.intsD]at h;cases e:Mi.intsD q with
   |none=>rw[e]at h;cases h
   |some ms=>
    rw[e]at h;cases h;obtain⟨x,t,rfl,a,b⟩:=r
    cases(show x=.int i from a)
    rw[zFQ e b];rfl
  |_=>cases h
end
end L3
namespace L3
open PySem PySem.Spec
open L2 hiding Rep RepL
open Mi (Dt Xn R okR zA3 optR zA0 zA8 zAF zAD zAE Rh Sl Ro EM TM AM FM IM SM Tg Out zAQ zAP zAV full frz frz1 frzAt)
section
variable[Kc]{G0 H0 S0:Hp}{σ:St}{ρ:Ro}{G H:Hp}{As:Nat->Addr->Prop}
end
section
variable[Kc]{mg:Str->Option Value}{E:XK}{L n k l:Nat}{te ta tb:TE}{e ea eb ma:EM}{t:TA}{m:AM}
end
end L3
namespace L3
open PySem PySem.Spec
open L2 hiding Rep RepL
open Mi (Dt Xn R okR zA3 optR zA0 zA8 zAF zAD zAE Rh Sl Ro EM TM AM FM IM SM Tg Out zAQ zAP zAV full frz frz1 frzAt)
structure XNo(K:qA0)(mg:Str->Option Value)(c:Str)(C:Addr):Prop extends XCls K mg c C where
 kp:qAp K (.ref C)=true
 ini:qAi K (.ref C) "__init__" = some (some (.builtin "ValueError.__init__"))
theorem zOU{X:Cx}{c:Str}{C:Addr}{e:Expr}{es:List Expr}{t:TA}{p pos:Pos}(h:XNo X.K X.mg c C)(hg:Gl X c)(ha:PA X (e::es) t)(hdb:(c==("__debug__":Str))=false:=by decide)
  (he:starEach (e::es) X.env=(false,eval e X.env)::starEach es X.env:=by rfl) (hpl:(backTo pos (starEach es X.env)).any (·.1)=false:=by rfl):PE X (.Call (.Name c p) (e::es) [] pos) (zJ3 C t):=
 zLL h.is.xc h.ini hg h.gm h.kp ha hdb he hpl
section
variable[Kc]{mg:Str->Option Value}{E:XK}{L n k l:Nat}{te ta tb:TE}{e ea eb ma:EM}{t:TA}{m:AM}
theorem zID{c:Str}{C:Addr}(h:XNo Kc.K mg c C)(A:DA mg E t m 0):DS mg E L (zOM Kc.K E (zJ3 C t)) (Mi.sRaise0 c m):=by
 intro G0 H0 S0 σ ρ G H As D a p;obtain⟨J,x,s,w⟩:=a.full;refine A.step (errS.from x) x.in' w p fun ds vs G1 H1 S T _ fr o p1=>?_
 split at p1
 ·rename_i hz
  refine⟨by rw[o.len];exact big' (by lia),fun e he=>⟨e,C,none,rfl,zAH,h.is.xc,?_⟩⟩;have hu:upd (upd H1 e (xn e (.ref C) none)) e (xo e (.ref C) none)=upd H1 e (xo e (.ref C) none):=by
   funext z
   by_cases h1:z=e
   ·rw[h1,zAH,zAH]
   ·rw[zA9 h1,zA9 h1,zA9 h1]
  rw[hu];exact p1 (.ref e) none _ _ ((x.trans fr.ext).trans (Ext.new fr.ext.in' he _)) ⟨e,C,rfl,zAH,h.cl,.inl ⟨rfl,rfl⟩⟩
 ·exact p1.elim
end
end L3
namespace L2
open PySem PySem.Spec PyProof.Rows
section
variable{X:Cx}
noncomputable def zRC(z:Str):List V:=z.cps.toList.map fun c=>.str ⟨#[c]⟩
def rListX(K:qA0):List V->Hp->VK->Prop:=fun vs H Q=>match vs with
 |[.str z]=>z.length<=sizeLine/\∀l,H l=none->Q (.ref l) (upd H l (.lst (zRC z)))
 |_=>zG6 K vs H Q
def rStrU:List V->Hp->VK->Prop:=fun vs H Q=>match vs with
 |[.int i]=>i.natAbs.log2<1920/\Q (.str (toString i)) H
 |_=>False
def zRW:List V->Hp->VK->Prop:=fun vs H Q=>match vs with
 |[.int i,.int j]=>Q (.int (if j>i then j else i)) H
 |[.ref a]=>∃ns:List Int,H a=some (.lst (ns.map V.int))/\0<ns.length/\∀M,M∈ns->(∀a,a∈ns->a<=M)->Q (.int M) H
 |_=>False
theorem zSZ(hc:X.calm=true):zC5 X (.builtin "max") zRW:=by
 intro pins s σ H vs us Q I r h
 match vs,r,h with
 |[.int i,.int j],r,h=>exact zIK hc pins s σ H _ us Q I r ⟨i,j,rfl,h⟩
 |[.ref a],r,h=>
  obtain⟨ns,ha,hz,q⟩:=h;obtain⟨u,rfl,rx⟩:=zHI r;cases rx;obtain⟨its,rv,hl⟩:=zAS I.hok ha;have hi:IntsAre its ns:=zFO rv;obtain⟨xs,e⟩:=hi.allInts.items;have en2:numsOf (intItems xs).toList=ns:=by rw[<- e];exact hi.numsOf
  rw[nums_intItems]at en2;have hl':s.heap.IsList a (intItems xs):=by rw[<- e];exact hl
  have hxl:xs.size=ns.length:=by rw[<- en2];simp
  refine max_intList (I.ok.hd hc) hl' (by lia) fun v h' tk hv hk=>?_
  obtain⟨t,rfl⟩:=intItems_at hv;obtain⟨h1,h2⟩:=argBest_gt (numAt xs) (xs.size-1);refine⟨.int _,H,I.kept (t':=tk) hk,⟨_,rfl⟩,q _ ?_ fun b hb=>?_⟩
  ·rw[numAt_eq,en2];exact getD_mem (by lia)
  ·rw[<- en2]at hb;obtain⟨j,hj,rfl⟩:=mem_getD hb;rw[qAn,qBy]at hj;rw[<- numAt_eq];exact h2 j (by lia)
end
section
variable{X:Cx}{K:qA0}
end
end L2
namespace Mi
open PySem
noncomputable section
def listXD(ds:List Dt):Option Dt:=match ds with
 |[.str z]=>@ite _ (z.length<=100000) (qA1 _) (some (.lst (signsD z))) none
 |ds=>listD ds
noncomputable def strD:List Dt->Option Dt
 |[.int i]=>@ite _ (i.natAbs.log2<1920) (qA1 _) (some (.str (toString i:String))) none
 |_=>none
def sumD:List Dt->Option Dt
 |[.lst ds]=>match intsD ds with
  |some ns=>@ite _ (ns.length<=100000/\∀n∈ns,-1000000<=n/\n<=1000000) (qA1 _) (some (.int ns.sum)) none
  |none=>none
 |_=>none
noncomputable def topI:List Int->Int
 |[]=>0
 |[x]=>x
 |x::y::r=>max x (topI (y::r))
def maxL:List Dt->Option Dt
 |[.int i,.int j]=>some (.int (if j>i then j else i))
 |[.lst ds]=>match intsD ds with
  |some (n::ns)=>some (.int (topI (n::ns)))
  |_=>none
 |_=>none
def sPopD(i:Nat)(e:EM):SM:=fun ρ=>match ρ[i]? with
 |some (some (.lst ds,k+1))=>zA3 (e (full ρ)) fun d=>match d with
  |.int z=>match ixA ds.length z with
   |some q=>@ite _ (ds.length<=1000000) (qA1 _) (okR (.nx (ρ.set i (some (.lst (ds.eraseIdx q),k+1))))) none
   |none=>none
  |_=>none
 |_=>none
def sApp2(i n:Nat)(e0 e:EM):SM:=fun ρ=>match ρ[i]? with
 |some (some (.lst rs,k+2))=>zA3 (e0 (full ρ)) fun y=>match y with
  |.int y=>match ixA rs.length y with
   |some p=>match rs[p]? with
    |some (.lst ds)=>zA3 (e (full ρ)) fun d=>@ite _ (ds.length<=100000/\d.dep<=n/\d.dep<=k) (qA1 _) (okR (.nx (ρ.set i (some (.lst (rs.set p (.lst (ds++[d]))),k+2))))) none
    |_=>none
   |none=>none
  |_=>none
 |_=>none
noncomputable def addAll(c:Int):List Dt->Option (List Dt)
 |[]=>some []
 |.lst ds::r=>@ite _ (ds.length<=100000) (qA1 _) ((addAll c r).map (.lst (ds++[.int c])::·)) none
 |_::_=>none
def sForApp(i r:Nat)(c:Int):SM:=fun ρ=>match ρ[i]? with
 |some (some (.lst rs,k+2))=>match addAll c rs with
  |some rs'=>if i≠r/\r<ρ.length then okR (.nx ((ρ.set i (some (.lst rs',k+2))).set r none))else none
  |none=>none
 |_=>none
end
end Mi
namespace L3
open PySem PySem.Spec
open L2 hiding Rep RepL
open Mi (Dt Xn R okR zA3 optR zA0 zA8 zAF zAD zAE Rh Sl Ro EM TM AM FM IM SM Tg Out zAQ zAP zAV full frz frz1 frzAt)
section
variable[Kc]{mg:Str->Option Value}{E:XK}{L n k l:Nat}{te ta tb:TE}{e ea eb ma:EM}{t:TA}{m:AM}
theorem zNS{r:List V->Hp->VK->Prop}{f:List Dt->Option Dt}(h0:∀ds,(∀es,ds≠[.lst es])->f ds=none)(h1:∀es,Mi.intsD es=none->f [.lst es]=none)
  (h2:∀(mg:Str->Option Value)(E:XK)(G H:Hp)(a:Addr)(es:List Dt)(ns:List Int)(Q:VK),Same G H->Mi.intsD es=some ns->H a=some (.lst (ns.map V.int))->PostE mg E G H n (optR (f [.lst es])) Q->r [.ref a] H Q):CBi r f n:=by
 intro mg E G H ds vs Q s h p
 by_cases hd:∃es,ds=[.lst es]
 ·obtain⟨es,rfl⟩:=hd;obtain⟨x,rfl,a,xs,rfl,ha,ra⟩:=zE9 h;cases ei:Mi.intsD es with
  |none=>rw[h1 es ei]at p;exact p.elim
  |some ns=>exact h2 mg E G H a es ns Q s ei (by rw[s _ _ ha,zFQ ei ra]) p
 ·rw[h0 ds fun es z=>hd ⟨es,z⟩]at p;exact p.elim
theorem zQ3{f:List Dt->Option Dt}(h1:f []=none)(h2:∀d,(∀es,d≠.lst es)->f [d]=none)(h3:∀a b r,f (a::b::r)=none):∀ds,(∀es,ds≠[.lst es])->f ds=none:=by
 intro ds h
 match ds,h with
 |[],_=>exact h1
 |[d],h=>exact h2 d fun es z=>h es (by rw[z])
 |a::b::r,_=>exact h3 a b r
theorem zHJ:∀(ns:List Int)(M:Int),M∈ns->(∀a,a∈ns->a<=M)->Mi.topI ns=M
 |[],M,h,_=>by cases h
 |[x],M,h,_=>by simp at h;rw[h];rfl
 |x::y::r,M,h,hb=>by
  have hx:=hb x (by simp);show max x (Mi.topI (y::r))=M
  rcases qAk.mp h with rfl|h
  ·have key:∀(l:List Int),l≠[]->(∀a,a∈l->a<=M)->Mi.topI l<=M:=by
    intro l
    induction l with
    |nil=>intro h;exact absurd rfl h
    |cons a q ih=>
     intro _ hb;cases q with
     |nil=>exact hb a (by simp)
     |cons b q=>
      have h1:=ih (by simp) fun c hc=>hb c (by simp[hc])
      have h2:=hb a (by simp);show max a (Mi.topI (b::q))<=M
      lia
   have:=key (y::r) (by simp) fun a ha=>hb a (by simp[ha])
   lia
  ·rw[zHJ (y::r) M h fun a ha=>hb a (by simp[ha])]
   lia
theorem zQQ:CBi zRW Mi.maxL n:=by
 intro mg E G H ds vs Q s h p;cases ds with
 |nil=>exact p.elim
 |cons a0 r0=>
  cases a0 with
  |int i=>
   cases r0 with
   |nil=>exact p.elim
   |cons b0 r1=>
    cases b0 with
    |int j=>
     cases r1 with
     |nil=>
      obtain⟨x,y,rfl,hx,hy⟩:=zND h
      cases(show x=.int i from hx)
      cases(show y=.int j from hy)
      exact PostE.val p (Ext.refl s) rfl rfl
     |cons _ _=>exact p.elim
    |_=>cases r1<;>exact p.elim
  |lst es=>
   cases r0 with
   |nil=>
    obtain⟨x,rfl,a,xs,rfl,ha,ra⟩:=zE9 h;rw[Mi.maxL]at p;cases ei:Mi.intsD es with
    |none=>rw[ei]at p;exact p.elim
    |some ns=>
     rw[ei]at p;cases ns with
     |nil=>exact p.elim
     |cons q ns=>
      refine⟨q::ns,by rw[s _ _ ha,zFQ ei ra],by simp,fun M h1 h2=>?_⟩;rw[<- zHJ _ M h1 h2];exact PostE.val p (Ext.refl s) rfl rfl
   |cons _ r1=>cases r1<;>exact p.elim
  |_=>rcases r0 with _|⟨_,_|_⟩<;>exact p.elim
end
end L3
namespace L3
open PySem PySem.Spec
open L2 hiding Rep RepL
open Mi (Dt Xn R okR zA3 optR zA0 zA8 zAF zAD zAE Rh Sl Ro EM TM AM FM IM SM Tg Out zAQ zAP zAV full frz frz1 frzAt)
section
variable[Kc]{G0 H0 S0:Hp}{σ:St}{ρ:Ro}{G H:Hp}{As:Nat->Addr->Prop}
theorem Sat.forget(a:Sat G0 H0 S0 σ ρ G H As)(r:Nat)(v:V):Sat G0 H0 S0 (σ.set r (some v)) (ρ.set r none) G H As:=by
 refine⟨a.ext,a.stb,a.tab,by simp[a.len],fun j e k h=>?_,a.dis,a.new⟩
 by_cases z:r=j
 ·subst z;have hj:r<ρ.length:=by
   have:=(qA2.mp h).1
   simpa using this
  rw[qAc hj]at h;cases h
 ·rw[qAd z]at h;obtain⟨u,h1,h2⟩:=a.at j e k h;exact⟨u,by rw[qAd z];exact h1,h2⟩
theorem Sat.row(a:Sat G0 H0 S0 σ ρ G H As){i k c:Nat}{rs ds:List Dt}{q:Addr}(er:ρ[i]?=some (some (.lst rs,k+2)))(hv:σ[i]?=some (some (.ref q)))(ec:rs[c]?=some (.lst ds)) :
  ∃(xs:List V)(qr:Addr)(ys:List V),H q=some (.lst xs)/\xs.length=rs.length/\xs[c]?=some (.ref qr)/\H qr=some (.lst ys)/\ys.length=ds.length /\
   ∀(ds':List Dt)(ys':List V),ys'.length=ds'.length->(∀(r:Nat)(d:Dt)(z:V),ds'[r]?=some d->ys'[r]?=some z->(ds[r]?=some d/\ys[r]?=some z)\/(d.dep=0/\Rep G d z)) ->
    Sat G0 H0 S0 σ (ρ.set i (some (.lst (rs.set c (.lst ds')),k+2))) G (upd H qr (.lst ys')) As:=by
 obtain⟨v,h1,q',xs,T,rfl,hq,kd⟩:=a.at i _ _ er;rw[hv]at h1;cases h1;have hc:c<xs.length:=by rw[kd.len];exact(qA2.mp ec).1
 have hxc:xs[c]?=some xs[c]:=qAe hc;obtain⟨qr,ys,U,er2,hqr,kr⟩:=kd.own c _ _ ec hxc;refine⟨xs,qr,ys,hq,kd.len,by rw[hxc,er2],hqr,kr.len,fun ds' ys' hl hs=>?_⟩;have tqr:T c qr:=kr.top;have iqr:As i qr:=kd.sub c qr tqr;have qne:q≠qr:=fun z=>kd.out c (z▸tqr)
 have b:=a.store (S:=As i) (p:=qr) (o:=.lst ys') (d:=.lst (rs.set c (.lst ds'))) (n:=k+2) (v:=.ref q) iqr hv ⟨q,xs,T,rfl,(zA9 qne).trans hq,⟨by simp[kd.len],fun r d' xr g1 g2=>?_,kd.top,kd.out,kd.dis,kd.sub⟩⟩ fun b z=>.inl z
 ·refine⟨b.ext,b.stb,b.tab,b.len,fun j d n h=>?_,a.dis,fun j b' h=>?_⟩
  ·obtain⟨v,g1,g2⟩:=b.at j d n h;refine⟨v,g1,?_⟩
   by_cases z:j=i
   ·subst z;rw[if_pos rfl]at g2;exact g2
   ·rw[if_neg z]at g2;exact g2
  ·have:=b.new j b' (by
    by_cases z:j=i
    ·subst z;rw[if_pos rfl];exact h
    ·rw[if_neg z];exact h)
   exact this
 ·by_cases hr:c=r
  ·subst hr;rw[qAc (by rw[<- kd.len];exact hc)]at g1;cases g1;rw[hxc]at g2;cases g2;refine⟨qr,ys',U,er2,zAH,⟨hl,fun r d z e1 e2=>?_,tqr,kr.out,kr.dis,kr.sub⟩⟩
   rcases hs r d z e1 e2 with⟨g3,g4⟩|⟨g3,g4⟩
   ·exact(kr.own r d z g3 g4).upd (kr.out r)
   ·exact zOY g4 g3
  ·rw[qAd hr]at g1;exact(kd.own r d' xr g1 g2).upd fun z=>hr (kd.dis c r qr tqr z)
end
section
variable[Kc]{mg:Str->Option Value}{E:XK}{L n k l:Nat}{te ta tb:TE}{e ea eb ma:EM}{t:TA}{m:AM}
theorem addAll_len{c:Int}:∀{rs rs':List Dt},Mi.addAll c rs=some rs'->rs'.length=rs.length
 |[],rs',h=>by cases h;rfl
 |d::r,rs',h=>by
  cases d with
  |lst ds=>
   rw[Mi.addAll]at h
   split at h
   ·cases e:Mi.addAll c r with
    |none=>rw[e]at h;cases h
    |some q=>rw[e]at h;cases h;simp[addAll_len e]
   ·cases h
  |_=>cases h
theorem zIY{c:Int}:∀{rs rs':List Dt}{p:Nat},Mi.addAll c rs=some rs'->p<rs.length->∃ds,rs[p]?=some (.lst ds)/\rs'[p]?=some (.lst (ds++[.int c]))/\ds.length<=100000
 |[],rs',p,h,hp=>by simp at hp
 |d::r,rs',p,h,hp=>by
  cases d with
  |lst ds=>
   rw[Mi.addAll]at h
   split at h
   ·rename_i hz
    cases e:Mi.addAll c r with
    |none=>rw[e]at h;cases h
    |some q=>
     rw[e]at h;cases h;cases p with
     |zero=>exact⟨ds,rfl,rfl,hz⟩
     |succ p=>exact zIY (p:=p) e (by simpa using hp)
   ·cases h
  |_=>cases h
theorem zMF(i r:Nat)(c:Int):DS mg E L (fun D σ H=>iAny Kc.K (vM i) σ H (zL6 (zFR r) (zHL (tML appM (vM r) (zDH (tC (.int c)) tNil))) D σ)) (Mi.sForApp i r c):=by
 intro G0 H0 S0 σ ρ G H As D a p;unfold Mi.sForApp at p
 split at p
 ·rename_i rs k e1
  split at p
  ·rename_i rs' ea
   split at p
   ·rename_i hir
    obtain⟨v,h1,q,xs0,T0,rfl,hq0,kd0⟩:=a.at i _ _ e1;unfold iAny vM;rw[h1];refine .inl ⟨⟨xs0,SqL.of hq0⟩,?_⟩;have hil:i<ρ.length:=(qA2.mp e1).1;have hal:=addAll_len ea;refine⟨fun j cc σ H=>cc=rs.length-j/\j<=rs.length/\σ[i]?=some (some (.ref q))/\(j=0->σ.length=ρ.length)/\∃As,Sat G0 H0 S0 σ (if j=0 then ρ else(ρ.set i (some (.lst (rs'.take j++rs.drop j),k+2))).set r none) G H As,
     ⟨_,rfl,qAx _,h1,fun _=>a.len.symm,As,by rw[if_pos rfl];exact a⟩,?_⟩
    rintro j cc σ H ⟨rfl,hj,hv,hsl,As,a⟩
    have er:(if j=0 then ρ else(ρ.set i (some (.lst (rs'.take j++rs.drop j),k+2))).set r none)[i]?=some (some (.lst (rs'.take j++rs.drop j),k+2)):=by
     by_cases z:j=0
     ·subst z;rw[if_pos rfl];simpa using e1
     ·rw[if_neg z,qAd (fun y=>hir.1 y.symm),qAc hil]
    obtain⟨v,h2,q',xs,T,e',hq,kd⟩:=a.at i _ _ er;rw[hv]at h2;cases h2;cases e';have hlen:(rs'.take j++rs.drop j).length=rs.length:=by simp[hal];lia
    by_cases hlt:j<rs.length
    ·obtain⟨ds,g1,g2,g3⟩:=zIY ea hlt;have ec:(rs'.take j++rs.drop j)[j]?=some (.lst ds):=by
      rw[qA8 (by simp;lia)];simp[hal,qEs (qBe hlt),g1]
     refine .inr ⟨⟨xs,xs[j]'(by rw[kd.len,hlen];exact hlt),SqL.of hq,by simp⟩,fun σ' H'=>j+1<=rs.length/\σ'[i]?=some (some (.ref q))/\(j+1=0->σ'.length=ρ.length)/\∃As,Sat G0 H0 S0 σ' (if j+1=0 then ρ else(ρ.set i (some (.lst (rs'.take (j+1)++rs.drop (j+1)),k+2))).set r none) G H' As,fun σ' H' y=>⟨rs.length-(j+1),by lia,rfl,y⟩,fun x H2 hy=>?_⟩;obtain⟨rfl,hy⟩:=hy;obtain⟨xs2,qr,ys,w1,w2,w3,w4,w5,w6⟩:=a.row er hv ec;have hx:=hy xs2 (SqL.of w1);rw[w3]at hx;cases hx;have hrl:r<σ.length:=by rw[<- a.len];by_cases z:j=0<;>simp[z,hir.2]
     show zHL (tML appM (vM r) (zDH (tC (.int c)) tNil)) _ (σ.set r (some (.ref qr))) _;unfold zHL tML vM;rw[qAc hrl];refine⟨ys,w4,?_⟩;unfold zDH tC tNil;dsimp only;refine⟨ys,w4,by rw[w5];exact L2.big (by lia),?_⟩;have a2:=(w6 (ds++[.int c]) (ys++[.int c]) (by simp[w5]) fun u d z e3 e4=>by
      by_cases hu:u<ds.length
      ·rw[qAa hu]at e3;rw[qAa (by rw[w5];exact hu)]at e4;exact .inl ⟨e3,e4⟩
      ·rw[qA8 (by lia)]at e3;rw[qA8 (by rw[w5];lia),w5]at e4;have hq0:u-ds.length=0:=by
        have:=(qA2.mp e3).1
        simp at this;lia
       rw[hq0]at e3 e4;simp at e3 e4;subst e3;subst e4;exact .inr ⟨rfl,rfl⟩).forget r (.ref qr)
     refine⟨hlt,by rw[qAd (fun y=>hir.1 y.symm)];exact hv,fun z=>by lia,As,?_⟩;rw[if_neg (by lia)];have eset:(rs'.take j++rs.drop j).set j (.lst (ds++[.int c]))=rs'.take (j+1)++rs.drop (j+1):=by
      have hj2:j<rs'.length:=by lia
      have gj:rs'[j]=.lst (ds++[.int c]):=by
       have:=qAe hj2
       rw[g2]at this;exact(qAv this).symm
      rw[qDh _ _ (by simp;lia),List.take_succ_eq_append_getElem hj2,gj];simp only[qD3,qEs (qBe hj2),Nat.sub_self];rw[qCa]
      congr 1
      rw[qBg hlt];rfl
     rw[eset]at a2
     by_cases z:j=0
     ·subst z;rw[if_pos rfl]at a2;exact a2
     ·rw[if_neg z]at a2;have e5:(((ρ.set i (some (.lst (rs'.take j++rs.drop j),k+2))).set r none).set i (some (.lst (rs'.take (j+1)++rs.drop (j+1)),k+2))).set r none=(ρ.set i (some (.lst (rs'.take (j+1)++rs.drop (j+1)),k+2))).set r none:=by
       rw[List.set_comm _ _ (fun y:r=i=>hir.1 y.symm),qFn,qFn]
      rw[e5]at a2;exact a2
    ·have ej:j=rs.length:=by lia
     subst ej;refine .inl ⟨⟨xs,SqL.of hq,by rw[kd.len,hlen];exact qA4 _⟩,?_⟩;have e6:rs'.take rs.length++rs.drop rs.length=rs':=by rw[<- hal,qEl,hal,qD9,qBp]
     by_cases z:rs.length=0
     ·rw[if_pos z]at a;have hrs:rs=[]:=qCg z;subst hrs
      have:rs'=[]:=qCg hal
      subst this;have e7:ρ.set i (some (.lst [],k+2))=ρ:=by
       have:=(qA2.mp e1).2
       rw[<- this,qDi]
      rw[e7]at p;refine p σ G H As ⟨a.ext,a.stb,a.tab,by simp[a.len],fun j d n h=>?_,a.dis,a.new⟩
      by_cases y:r=j
      ·subst y;rw[qAc hir.2]at h;cases h
      ·rw[qAd y]at h;exact a.at j d n h
     ·rw[if_neg z,e6]at a;exact p σ G H As a
   ·exact p.elim
  ·exact p.elim
 ·exact p.elim
end
end L3
namespace L2
open PySem PySem.Spec PyProof.Rows
section
variable{X:Cx}
end
end L2
namespace Mi
open PySem
noncomputable section
end
end Mi
namespace L3
open PySem PySem.Spec
open L2 hiding Rep RepL
open Mi (Dt Xn R okR zA3 optR zA0 zA8 zAF zAD zAE Rh Sl Ro EM TM AM FM IM SM Tg Out zAQ zAP zAV full frz frz1 frzAt)
section
variable[Kc]{mg:Str->Option Value}{E:XK}{L n k l:Nat}{te ta tb:TE}{e ea eb ma:EM}{t:TA}{m:AM}
end
end L3
namespace L2
open PySem PySem.Spec PyProof.Rows
structure RoomH(k:Nat)(A:Around):Prop where
 dp:A.depth+3*k+5<recursionLimit
 un:A.units+16*k+200<cLine
structure FnOkH(P:Program)(w:World)(K:qA0)(mg:Str->Option Value)(base:Heap)(k:Nat)(f:Addr)(fd:FuncData)(ps:List Str)(sp:Sp):Prop where
 len:∀vs H Q E,sp vs H Q E->vs.length=ps.length
 run:∀(A:Around)(outer:List Env)(s:Shared)(H:Hp)(args:Args)(us:List Value)(vs:List V)(Q:VK)(E:XK),RoomH k A->Env0 P w K mg base A outer s H->BindsTo s fd args (ps.zip us)->Vals vs us->sp vs H Q E ->
  codeAny (model P w) A (.call (.ref f) args) (CR CX0 outer P w H s Q E) s
section
variable{X:Cx}{x:Str}{j k:Nat}{ps:List Str}{sp:Sp}{e:Expr}{es:List Expr}{t:TA}{p pos:Pos}
end
end L2
namespace L2
open PySem PySem.Spec PyProof.Rows
end L2
namespace Mi
end Mi
namespace L3
open PySem PySem.Spec
open L2 hiding Rep RepL
open Mi (Dt Xn R okR zA3 optR zA0 zA8 zAF zAD zAE Rh Sl Ro EM TM AM FM IM SM Tg Out zAQ zAP zAV full frz frz1 frzAt)
section
variable[Kc]{mg:Str->Option Value}{E:XK}{L n n1:Nat}{t1 t2:TE}{e1 e2:EM}
end
end L3
namespace Mi
end Mi
namespace L3
open PySem PySem.Spec
open L2 hiding Rep RepL
open Mi (Dt Xn R okR zA3 optR zA0 zA8 zAF zAD zAE Rh Sl Ro EM TM AM FM IM SM Tg Out zAQ zAP zAV full frz frz1 frzAt)
section
variable[Kc]{mg:Str->Option Value}{E:XK}{L n:Nat}{te:TE}{e:EM}
end
end L3
namespace L2
open PySem PySem.Spec PyProof.Rows
section
variable{X:Cx}{e m1:Expr}{te ts:TE}{pos p2:Pos}
end
end L2
namespace Mi
open PySem
noncomputable section
end
end Mi
namespace L3
open PySem PySem.Spec
open PyProof.Rows (risingS sortedS ltCps_eq)
open L2 hiding Rep RepL
open Mi (Dt Xn R okR zA3 optR zA0 zA8 zAF zAD zAE Rh Sl Ro EM TM AM FM IM SM OM Tg Out zAQ zAP zAV full frz frz1 frzAt)
section
variable[Kc]{mg:Str->Option Value}{E:XK}{L n k l:Nat}{te ta tb:TE}{e ea eb ma:EM}{t:TA}{m:AM}
end
end L3
namespace L2
open PySem PySem.Spec PyProof.Rows
section
variable{X:Cx}{x:Str}{C:Addr}{p pos:Pos}
end
def zU8(K:qA0)(fl:List Str):Sp:=fun vs H Q _=>∃(x C dx:Addr)(ys:List V),vs=.ref x::ys/\ys.length=fl.length/\H x=some (.ins C dx [])/\Cls K C/\(∀f∈fl,zPG K C f)/\Q .non (upd H x (.ins C dx (fl.zip ys)))
section
variable{X:Cx}{m:Str}{k:Nat}{E:XK}{o e:Expr}{es:List Expr}{ta:TE}{t:TA}{apos pos:Pos}{tb:List (Addr×Sp)}
end
structure OIs(K:qA0)(C:Addr):Prop where
 cl:Cls K C
 ha:qAi K (.ref C) "__class__" = some (some (.builtin "object.__class__"))
 hn:qBs K (.builtin "object.__class__") "__get__" = some (some (.builtin "getset_descriptor.__get__"))
 htk:qDe K (.builtin "object.__class__")=some true
 hm:qCi K C (.type "object")=some true
end L2
namespace Mi
open PySem
noncomputable section
noncomputable def svD:Dt->Option Sv
 |.int i=>some (.i i)
 |.str x=>some (.s x)
 |_=>none
def svsD:List Dt->Option (List Sv)
 |[]=>some []
 |d::r=>match svD d,svsD r with
  |some v,some vs=>some (v::vs)
  |_,_=>none
noncomputable def dSv:Sv->Dt
 |.i n=>.int n
 |.s x=>.str x
def eNew(c:Str)(fl:List Str)(am:AM):EM:=fun ρ=>zA3 (am ρ) fun ds=>match svsD ds with
 |some vs=>if vs.length=fl.length then okR (.ins c (fl.zip vs))else none
 |none=>none
def zUY(c:Str):EM:=fun _=>okR (.ins c [])
def eFld(hs:List Str)(f:Str)(e:EM):EM:=fun ρ=>zA3 (e ρ) fun d=>match d with
 |.ins c fs=>if c∈hs then(match fs.lookup f with|some v=>okR (dSv v)|none=>none)else none
 |_=>none
def zUZ(tb:List (Str×FM))(m:Str)(e:EM)(am:AM):EM:=fun ρ=>zA3 (e ρ) fun d=>match d with
 |.ins c fs=>match tb.lookup c with
  |some g=>match fs.lookup m with
   |none=>zA3 (am ρ) fun ds=>g (d::ds)
   |some _=>none
  |none=>none
 |_=>none
def eIsO(ys ns:List Str)(e:EM):EM:=fun ρ=>zA3 (e ρ) fun d=>match d with
 |.ins c _=>if c∈ys then okR (.bl true)else if c∈ns then okR (.bl false)else none
 |_=>none
end
end Mi
namespace L3
open PySem PySem.Spec
open L2 hiding Rep RepL
open Mi (Dt Xn R okR zA3 optR zA0 zA8 zAF zAD zAE Rh Sl Ro EM TM AM FM IM SM OM Tg Out zAQ zAP zAV full frz frz1 frzAt)
structure OCls(K:qA0)(mg:Str->Option Value)(c:Str)(C:Addr):Prop where
 cl:clK K c=some C
 gm:mg c=some (.ref C)
 is:OIs K C
structure ONew(K:qA0)(mg:Str->Option Value)(c:Str)(C:Addr):Prop extends OCls K mg c C where
 mks:qEm K C=true
 ini:qAi K (.ref C) "__init__" = some (some (.builtin "object.__init__"))
 kp:qAp K (.ref C)=true
structure OIni(P:Program)(w:World)(K:qA0)(mg:Str->Option Value)(base:Heap)(c:Str)(fl:List Str)(C:Addr):Prop extends OCls K mg c C where
 na:∀f∈fl,zPG K C f
 ini:∃fI fd ps,Mk K C fI/\FnOk P w K mg base (CXe P w) 1 fI fd ps (zU8 K fl)/\Binds K fd ps []
section
variable{X:Cx}{c:Str}{fl:List Str}{C:Addr}{k:Nat}{E:XK}{e:Expr}{es:List Expr}{t:TA}{p pos:Pos}
end
section
variable[Kc]{mg:Str->Option Value}{E:XK}{L n k l:Nat}{te ta tb:TE}{e ea eb ma:EM}{t:TA}{m:AM}
end
end L3
namespace Mi
open PySem
noncomputable section
def sUnpL(is:List Nat)(vs:List Nat)(e:EM):SM:=fun ρ=>zA3 (e (frz (frzAt vs ρ))) fun d=>match d with
 |.lst ds=>match zAQ (.tup is) (.tup ds)with
  |none=>none
  |some bs=>okR (.nx (zAV (frzAt vs ρ) bs))
 |_=>none
end
end Mi
namespace L2
open PySem PySem.Spec PyProof.Rows
section
variable{X:Cx}{m:Str}{k:Nat}{o e:Expr}{es:List Expr}{ta:TE}{t:TA}{apos pos:Pos}{tb:List (Addr×Sp)}
end
section
variable{prog:Program}{w:World}{A:Around}{E:Value->Shared->Prop}{s:Shared}
theorem zI7{h h':Heap}{it l:Addr}{items:Array Value}(hl:h.IsList l items)(hs:Heap.SameBut it h h')(hne:l≠it):h'.IsList l items:=by
 obtain⟨o,ho,r⟩:=hl;exact⟨o,(hs.2 l hne).trans ho,r⟩
theorem zGF{it t:Addr}{items:Array Value}(hne:t≠it):∀(n i:Nat)(s:Shared)(Q:List Value->Shared->Prop),s.heap.IsListIter it t i->s.heap.IsList t items->i+n<=items.size ->
  (∀h',h'.IsListIter it t (i+n)->Heap.SameBut it s.heap h'->Q ((items.toList.drop i).take n) { s with heap:=h' })->wpAny (model prog w) A (draw (.ref it) n) Q E s
 |0,i,s,Q,hit,_,_,hQ=>by
  show wpAny _ _ (pure []) Q E s;exact wpAny_pure (by simpa using hQ s.heap hit (Heap.SameBut.refl ..))
 |n+1,i,s,Q,hit,ht,hle,hQ=>by
  have hlt:i<items.size:=by lia
  show wpAny _ _ (pyNext (.ref it) >>= _) Q E s;refine wpAny_bind (wpAny_pyNext_list_item hit ht (x:=items[i]) (by simp[hlt]) fun h₁ hit₁ hs₁=>?_);refine wpAny_bind (wpAny_holding (zGF hne n (i+1) _ _ hit₁ (zI7 ht hs₁ hne) (by lia) fun h₂ hit₂ hs₂=>wpAny_pure ?_));have hd:items.toList.drop i=items[i]::items.toList.drop (i+1):=by simp[qBg,hlt]
  have:=hQ h₂ (by rw[show i+(n+1)=i+1+n by lia];exact hit₂) (hs₁.trans hs₂)
  rw[hd,List.take_succ_cons]at this;exact this
theorem zE8{t:Addr}{items:Array Value}{Q:List Value->Shared->Prop}(hh:A.handled=none)(ht:s.heap.IsList t items)
  (hQ:∀h',Heap.ExtBut s.heap.objs.size s.heap h'->Q items.toList { s with heap:=h' }):wpAny (model prog w) A (unpackItems (.ref t) items.size none) Q E s:=by
 have hlt:t≠s.heap.objs.size:=by obtain⟨o,ho,_⟩:=ht;exact qAj (Heap.lt_size ho)
 unfold unpackItems;refine wpAny_bind ?_
 ·unfold notIterableAtAll;refine wpAny_bind (wpAny_specialOf ht.typeIs slot_list_iter.lookup ?_);refine wpAny_pure ?_;simp only[qCq,if_false];refine wpAny_bind (wpAny_holding (wpAny_pyIter_list ht ?_));refine wpAny_bind (wpAny_holding (zGF hlt items.size 0 _ _ ⟨_,Heap.get?_push_size _ rfl,rfl,rfl⟩ (ht.push _) (by lia) fun h₁ hit₁ hs₁=>?_));have hall:List.take items.size (List.drop 0 items.toList)=items.toList:=by
   rw[qCu];exact qDc (by simp)
  rw[hall];rw[if_neg (by simp)];have ht₁:h₁.IsList t items:=zI7 (ht.push _) hs₁ hlt;refine wpAny_bind (wpAny_holding (wpAny_pyNext_list_end hh hit₁ ht₁ (by simp) fun h₂ he₂=>?_));simp only[Option.isSome_none,qCq,if_false];refine wpAny_pure (hQ h₂ fun b o hb e=>he₂ b o hb (hs₁.extBut b o hb (Heap.get?_push_of_some _ e)))
theorem zE6{env:Env}{elts:List Expr}{x1}{pos:Pos}{t:Addr}{items:Array Value}{Q:Unit->Shared->Prop}(hh:A.handled=none)(ht:s.heap.IsList t items)
  (hn:(assignEach elts env).length=items.size) (hstar:(assignEach elts env).findIdx? (·.1)=none)
  (h:∀h',Heap.ExtBut s.heap.objs.size s.heap h'->wpAny (model prog w) A (assignInOrder ((assignEach elts env).map (·.2)) items.toList) Q E { s with heap:=h' }) :
  wpAny (model prog w) A (assign (.Tuple elts x1 pos) env (.ref t)) Q E s:=by
 rw[assign_Tuple];refine wpAny_bind (wpAny_standAt ?_);unfold unpack;rw[hn,hstar];exact wpAny_bind (wpAny_holding (zE8 hh ht h))
end
section
variable{X:Cx}{pos:Pos}
noncomputable def gUnL(K:qA0)(n:Nat)(t:TGs):TG:=fun v σ H Q=>∃a xs,v=.ref a/\SqL K H a xs/\xs.length=n/\t xs σ H Q
theorem zS8{K:qA0}{es:List Expr}{k:Nat}{t:TGs}{n:Nat}(hc:X.calm=true)(h:PGs X es t)
  (hn:(assignEach es X.env).length=n:=by rfl) (hst:(assignEach es X.env).findIdx? (·.1)=none:=by rfl) (hK:X.K=K:=by rfl):PG X (.Tuple es k pos) (gUnL K n t):=by
 subst hK;intro pins s σ H v u Q I r hw;obtain⟨a,xs,e1,hq,hl,hw⟩:=hw;subst e1;cases r;obtain⟨its,rv,ht,hz⟩:=I.list hq;refine zE6 (I.ok.hd hc) ht.isList (by simp[hn,<- hl,rv.length]) hst fun h' hx=>?_
 have I1:Inv X pins σ H { s with heap:=h' }:=I.kept (t':=s.toks) fun b o e=>hx b o (qAj (Heap.lt_size e)) e
 exact h pins _ σ H xs _ Q I1 (by simpa using rv) hw
end
end L2
namespace L3
open PySem PySem.Spec
open L2 hiding Rep RepL
open Mi (Dt Xn R okR zA3 optR zA0 zA8 zAF zAD zAE Rh Sl Ro EM TM AM FM IM SM OM Tg Out zAQ zAP zAV full frz frz1 frzAt)
section
variable[Kc]{mg:Str->Option Value}{E:XK}{L n k l:Nat}{te ta tb:TE}{e ea eb ma:EM}{t:TA}{m:AM}
theorem zQN{K:qA0}{g:TGs}{is:List Nat}{kk:Nat}(vs:List Nat)(hg:zMX g is)(hk:is.length=kk)(A:DE mg E te e n):DS mg E L (tAsg te (gUnL K kk g)) (Mi.sUnpL is vs e):=by
 intro G0 H0 S0 σ ρ G H As D a p;obtain⟨G1,As1,a1⟩:=Sat.frzAt vs a;refine(zAT A).step (errS.from a1.ext) a1.ext.in' a1.frz p fun d v G2 H2 S _ fr o p1=>?_
 cases d with
 |lst ds=>
  dsimp only at p1;obtain⟨b,xs,rfl,hb,rb⟩:=o;cases eb:zAQ (.tup is) (.tup ds)with
  |none=>rw[eb]at p1;exact p1.elim
  |some bs=>
   rw[eb]at p1;rw[zAQ]at eb
   by_cases hz:ds.length=is.length
   ·rw[if_pos hz]at eb;cases eb;refine⟨b,xs,rfl,.inl (.inl (fr.ext.in' _ _ hb)),by rw[rb.length,hz,hk],hg G2 H2 σ ds xs _ rb hz fun ws hw=>?_⟩;obtain⟨As',a2⟩:=Sat.puts hw (a1.wider fr.ext);exact p1 _ G2 H2 As' a2
   ·rw[if_neg hz]at eb;cases eb
 |_=>exact p1.elim
end
end L3
namespace L2
open PySem PySem.Spec PyProof.Rows
section
variable{prog:Program}{w:World}{A:Around}{E:Value->Shared->Prop}{s:Shared}
end
end L2
namespace L2
open PySem PySem.Spec PyProof.Rows
section
variable{prog:Program}{w:World}{A:Around}{R:Result->Shared->Prop}{I:Addr}{fp wr:List Addr}{G:Array GenState->Array GenState->Prop}{n:Nat}{St:Nat->Shared->Prop}{led:Bool}{z:Str}
end
end L2
namespace PySem
open PyProof.Rows
end PySem
namespace L2
open PySem PySem.Spec PyProof.Rows
section
variable{prog:Program}{w:World}{A:Around}{E:Value->Shared->Prop}{s:Shared}
end
end L2
namespace Mi
open PySem
noncomputable section
end
end Mi
namespace L2
open PySem PySem.Spec PyProof.Rows
section
variable{X:Cx}{pins:List (Addr×Obj)}{σ:List (Option V)}{H:Hp}{s:Shared}
end
end L2
namespace L3
open PySem PySem.Spec
open PyProof.Rows (risingS sortedS ltCps_eq)
open L2 hiding Rep RepL
open Mi (Dt Xn R okR zA3 optR zA0 zA8 zAF zAD zAE Rh Sl Ro EM TM AM FM IM SM OM Tg Out zAQ zAP zAV full frz frz1 frzAt)
section
variable[Kc]{mg:Str->Option Value}{E:XK}{L n k l:Nat}{te ta tb:TE}{e ea eb ma:EM}{t:TA}{m:AM}
end
end L3
namespace Mi
open PySem
noncomputable section
end
end Mi
namespace PySem
open Builtin Builtin.Str PySem.Spec
end PySem
namespace L2
open PySem PySem.Spec PyProof.Rows
section
variable{X:Cx}{pins:List (Addr×Obj)}{σ:List (Option V)}{H:Hp}{s:Shared}
end
end L2
namespace L3
open PySem PySem.Spec
open PyProof.Rows (risingS sortedS ltCps_eq)
open L2 hiding Rep RepL
open Mi (Dt Xn R okR zA3 optR zA0 zA8 zAF zAD zAE Rh Sl Ro EM TM AM FM IM SM OM Tg Out zAQ zAP zAV full frz frz1 frzAt)
section
variable[Kc]{mg:Str->Option Value}{E:XK}{L n k l:Nat}{te ta tb:TE}{e ea eb ma:EM}{t:TA}{m:AM}
end
end L3
namespace Mi
open PySem
noncomputable section
end
end Mi
namespace L2
open PySem PySem.Spec PyProof.Rows
section
variable{prog:Program}{w:World}{A:Around}{E:Value->Shared->Prop}{s:Shared}
end
section
variable{X:Cx}{pins:List (Addr×Obj)}{σ:List (Option V)}{H:Hp}{s:Shared}
end
end L2
namespace L3
open PySem PySem.Spec
open L2 hiding Rep RepL
open Mi (Dt Xn R okR zA3 optR zA0 zA8 zAF zAD zAE Rh Sl Ro EM TM AM FM IM SM OM Tg Out zAQ zAP zAV full frz frz1 frzAt)
section
variable[Kc]{mg:Str->Option Value}{E:XK}{L n k l:Nat}{te ta tb:TE}{e ea eb ma:EM}{t:TA}{m:AM}
end
end L3
namespace L2
open PySem PySem.Spec
structure Dr(p:Prop):Prop where
 h:p
section
variable{X:Cx}
theorem zCN{st:Stmt}{rest:List Stmt}{t u:TS}(h1:Dr (PS X st t))(h2:Dr (PSs X rest u)):Dr (PSs X (st::rest) (tSeq t u)):=⟨zAB h1.h h2.h⟩
theorem zQM{st:Stmt}{t:TS}(h1:Dr (PS X st t)):Dr (PSs X [st] t):=⟨zAI h1.h⟩
end
end L2
namespace Mi
open PySem
noncomputable section
end
end Mi
namespace L2
open PySem PySem.Spec PyProof.Rows
structure Walk1(prog:Program)(w:World)(A:Around)(I:Addr)(fp:List Addr)(n:Nat)(P:Nat->Value->Prop)(St:Nat->Heap->Prop):Prop where
 me:I∈fp
 frame:∀i h h',St i h->(∀b∈fp,∀o,h.get? b=some o->h'.get? b=some o)->St i h'
 item:∀i (s:Shared) (Q:Option Value->Shared->Prop) (E:Value->Shared->Prop),i<n->St i s.heap ->
  (∀v h' tk,P i v->St (i+1) h'->(∀b o,b≠I->s.heap.get? b=some o->h'.get? b=some o)->Q (some v) { s with heap:=h',toks:=tk })->wpAny (model prog w) A (pyNext (.ref I)) Q E s
 done:∀(s:Shared)(Q:Option Value->Shared->Prop)(E:Value->Shared->Prop),St n s.heap ->
  (∀h' tk,(∀b o,b≠I->s.heap.get? b=some o->h'.get? b=some o)->(∃u,h'.get? I=some u)->Q none { s with heap:=h',toks:=tk })->wpAny (model prog w) A (pyNext (.ref I)) Q E s
 self:∀i (s:Shared) (Q:Value->Shared->Prop) (E:Value->Shared->Prop),St i s.heap->Q (.ref I) s->wpAny (model prog w) A (pyIter (.ref I)) Q E s
structure Once(prog:Program)(w:World)(T:String)(r:Addr)(fp:List Addr)(n:Nat)(P:Nat->Value->Prop)(St:Nat->Heap->Prop):Prop where
 ty:∀(s:Shared) i,St i s.heap->s.TypeIs (.ref r) T
 nl:(Value.type T==Value.type "list")=false
 nt:(Value.type T==Value.type "tuple")=false
 me:r∈fp
 hint:∀(A:Around)(E:Value->Shared->Prop)(s:Shared)(Q:Bool->Shared->Prop),A.handled=none->St 0 s.heap->(∀b tk,Q b { s with toks:=tk })->wpAny (model prog w) A (Builtin.List.listLengthHint (.ref r)) Q E s
 walk:∀(A:Around),A.handled=none->Walk1 prog w A r fp n P St
section
variable{prog:Program}{w:World}{A:Around}{E:Value->Shared->Prop}{s:Shared}{T:String}{r:Addr}{fp:List Addr}{n:Nat}{P:Nat->Value->Prop}{St:Nat->Heap->Prop}
end
section
variable{prog:Program}{w:World}{A:Around}{E:Value->Shared->Prop}{s:Shared}{x:Str}{t:Tok}
end
end L2
namespace L2
open PySem PySem.Spec PyProof.Rows
section
variable{X:Cx}{pins:List (Addr×Obj)}{σ:List (Option V)}{H:Hp}{s:Shared}
end
end L2
namespace L3
open PySem PySem.Spec
open L2 hiding Rep RepL
open Mi (Dt Xn R okR zA3 optR zA0 zA8 zAF zAD zAE Rh Sl Ro EM TM AM FM IM SM OM Tg Out zAQ zAP zAV full frz frz1 frzAt)
section
variable[Kc]{mg:Str->Option Value}{E:XK}{L n k l:Nat}{te ta tb:TE}{e ea eb ma:EM}{t:TA}{m:AM}
end
end L3
namespace Mi
open PySem
noncomputable section
end
end Mi
namespace L3
open PySem PySem.Spec
open L2 hiding Rep RepL
open Mi (Dt Xn R okR zA3 optR zA0 zA8 zAF zAD zAE Rh Sl Ro EM TM AM FM IM SM OM Tg Out zAQ zAP zAV full frz frz1 frzAt)
section
variable[Kc]{mg:Str->Option Value}{E:XK}{L n k l:Nat}
end
end L3
namespace Mi
open PySem
noncomputable section
end
end Mi
namespace PySem
open Builtin Builtin.Str PySem.Spec
end PySem
namespace L2
open PySem PySem.Spec PyProof.Rows
section
variable{X:Cx}{pins:List (Addr×Obj)}{σ:List (Option V)}{H:Hp}{s:Shared}
end
end L2
namespace L3
open PySem PySem.Spec
open L2 hiding Rep RepL
open Mi (Dt Xn R okR zA3 optR zA0 zA8 zAF zAD zAE Rh Sl Ro EM TM AM FM IM SM OM Tg Out zAQ zAP zAV full frz frz1 frzAt)
section
variable[Kc]{mg:Str->Option Value}{E:XK}{L n k l:Nat}
end
end L3
namespace PySem
open Sem (wp)
section
variable{prog:Program}{w:World}{A:Around}{K:Type}[DecidableEq K]{knd:KeyKind prog w K}
end
end PySem
namespace Mi
open PySem
noncomputable section
noncomputable def kyD:Dt->Option (Sum Int Str)
 |.int i=>some (.inl i)
 |.str x=>some (.inr x)
 |_=>none
noncomputable def swD:Dt->Option Sw
 |.non=>some .non
 |.bl b=>some (.bl b)
 |.int i=>some (.int i)
 |.str x=>some (.str x)
 |_=>none
noncomputable def getW(kvs:List (Sum Int Str×Sw))(k:Sum Int Str):Option Sw:=(kvs.find? fun p=>decide (p.1=k)).map (·.2)
noncomputable def putW(kvs:List (Sum Int Str×Sw))(k:Sum Int Str)(v:Sw):List (Sum Int Str×Sw):=
 if(kvs.any fun p=>decide (p.1=k))=true then kvs.map (fun p=>if p.1=k then(p.1,v)else p)else kvs++[(k,v)]
def zTD:EM:=fun _=>okR (.dct [])
def dinD(ng:Bool)(x y:Dt):Option Dt:=match y with
 |.dct kvs=>match kyD x with
  |some k=>some (.bl (if ng=true then !(getW kvs k).isSome else(getW kvs k).isSome))
  |none=>none
 |_=>none
def zUC(i:Nat)(e1 e2:EM):SM:=fun ρ=>zA3 (e2 (full ρ)) fun v=>match ρ[i]? with
 |some (some (.dct kvs,k+1))=>zA3 (e1 (full ρ)) fun y=>match kyD y,swD v with
  |some q,some u=>@ite _ (kvs.length<=100000) (qA1 _) (okR (.nx (ρ.set i (some (.dct (putW kvs q u),k+1))))) none
  |_,_=>none
 |_=>none
def zOX:List Dt->Option (List (Sum Int Str×Sw))
 |[]=>some []
 |.tup [a,b]::r=>match kyD a,swD b,zOX r with
  |some k,some v,some q=>some ((k,v)::q)
  |_,_,_=>none
 |_::_=>none
def zUA(i:Nat)(e:EM):SM:=fun ρ=>match ρ[i]? with
 |some (some (.dct kvs,k+1))=>zA3 (e (full ρ)) fun d=>match d with
  |.lst ds=>match zOX ds with
   |some ps=>@ite _ (kvs.length+ps.length<=50000) (qA1 _) (okR (.nx (ρ.set i (some (.dct (ps.foldl (fun m p=>putW m p.1 p.2) kvs),k+1))))) none
   |none=>none
  |_=>none
 |_=>none
end
end Mi
namespace L2
open PySem PySem.Spec PyProof.Rows
section
variable{X:Cx}
variable{o e:Expr}{es:List Expr}{to:TE}{t:TA}{name:Str}{apos cpos:Pos}{T id:String}{r:V->List V->Hp->VK->Prop}
end
end L2
namespace L3
open PySem PySem.Spec
open L2 hiding Rep RepL
open Mi (Dt Xn R okR zA3 optR zA0 zA8 zAF zAD zAE Rh Sl Ro EM TM AM FM IM SM OM Tg Out zAQ zAP zAV full frz frz1 frzAt)
section
variable[Kc]{mg:Str->Option Value}{E:XK}{L n k l:Nat}{te ta tb tx td:TE}{e ea eb ex ed ma:EM}{t:TA}{m:AM}
end
end L3
namespace Mi
open PySem
noncomputable section
end
end Mi
namespace L2
open PySem PySem.Spec PyProof.Rows
section
variable{X:Cx}{pins:List (Addr×Obj)}{σ:List (Option V)}{H:Hp}{s:Shared}
end
section
variable{X:Cx}
end
end L2
namespace L3
open PySem PySem.Spec
open L2 hiding Rep RepL
open Mi (Dt Xn R okR zA3 optR zA0 zA8 zAF zAD zAE Rh Sl Ro EM TM AM FM IM SM OM Tg Out zAQ zAP zAV full frz frz1 frzAt)
section
variable[Kc]{mg:Str->Option Value}{E:XK}{L n k l:Nat}{te ta tb:TE}{e ea eb ma:EM}{t:TA}{m:AM}
end
end L3
namespace Mi
open PySem
noncomputable section
end
end Mi
namespace L2
open PySem PySem.Spec PyProof.Rows
section
variable{X:Cx}{e m1:Expr}{te ts:TE}{pos p2:Pos}
theorem zQJ{b:List Stmt}{t:TS}{R:TS->Prop}(h:Dr (PSs X b t))(r:R t):∃t,PSs X b t/\R t:=⟨t,h.h,r⟩
end
end L2
namespace L3
open PySem PySem.Spec
open L2 hiding Rep RepL
open Mi (Dt Xn R okR zA3 optR zA0 zA8 zAF zAD zAE Rh Sl Ro EM TM AM FM IM SM OM Tg Out zAQ zAP zAV full frz frz1 frzAt)
section
variable[Kc]{mg:Str->Option Value}{E:XK}{L n k l:Nat}
end
end L3
namespace Mi
open PySem
noncomputable section
def sRetIx(L i:Nat)(e:EM):SM:=fun ρ=>match ρ[i]? with
 |some (some (.lst ds,k+1))=>zA3 (e (full ρ)) fun z=>match z with
  |.int z=>match itA ds z with
   |some d=>if k=L then okR (.rt d)else none
   |none=>none
  |_=>none
 |_=>none
noncomputable def botI:List Int->Int
 |[]=>0
 |[x]=>x
 |x::y::r=>min x (botI (y::r))
def minL:List Dt->Option Dt
 |[.lst ds]=>match intsD ds with
  |some (n::ns)=>some (.int (botI (n::ns)))
  |_=>none
 |_=>none
end
end Mi
namespace L2
open PySem PySem.Spec PyProof.Rows
section
variable{X:Cx}
def zRV:List V->Hp->VK->Prop:=fun vs H Q=>match vs with
 |[.ref a]=>∃ns:List Int,H a=some (.lst (ns.map V.int))/\0<ns.length/\∀M,M∈ns->(∀a,a∈ns->M<=a)->Q (.int M) H
 |_=>False
theorem zSY(hc:X.calm=true):zC5 X (.builtin "min") zRV:=by
 intro pins s σ H vs us Q I r h;cases vs with
 |nil=>exact qA3 h
 |cons hd1 tl1=>
  cases hd1 with
  |ref a=>
   cases tl1 with
   |nil=>
    obtain⟨ns,ha,hz,q⟩:=h;obtain⟨u,rfl,rx⟩:=zHI r;cases rx;obtain⟨its,rv,hl⟩:=zAS I.hok ha;have hi:IntsAre its ns:=zFO rv;obtain⟨xs,e⟩:=hi.allInts.items;have en2:numsOf (intItems xs).toList=ns:=by rw[<- e];exact hi.numsOf
    rw[nums_intItems]at en2;have hl':s.heap.IsList a (intItems xs):=by rw[<- e];exact hl
    have hxl:xs.size=ns.length:=by rw[<- en2];simp
    refine min_intList (I.ok.hd hc) hl' (by lia) fun v h' tk hv hk=>?_
    obtain⟨t,rfl⟩:=intItems_at hv;obtain⟨h1,h2⟩:=argBest_lt (numAt xs) (xs.size-1);refine⟨.int _,H,I.kept (t':=tk) hk,⟨_,rfl⟩,q _ ?_ fun b hb=>?_⟩
    ·rw[numAt_eq,en2];exact getD_mem (by lia)
    ·rw[<- en2]at hb;obtain⟨j,hj,rfl⟩:=mem_getD hb;rw[qAn,qBy]at hj;rw[<- numAt_eq];exact h2 j (by lia)
   |cons _ _=>exact qA3 h
  |_=>exact qA3 h
end
end L2
namespace L3
open PySem PySem.Spec PyProof.Rows
open L2 hiding Rep RepL
open Mi (Dt R Rh EM TM SM AM IM Xn Sl Ro Out okR zA3 optR full frz frzAt)
section
variable[Kc]{mg:Str->Option Value}{E:XK}{n L:Nat}{te ta tb:TE}{e:EM}{m m':SM}
theorem zIO:∀(ns:List Int)(M:Int),M∈ns->(∀a,a∈ns->M<=a)->Mi.botI ns=M
 |[],M,h,_=>by cases h
 |[x],M,h,_=>by simp at h;rw[h];rfl
 |x::y::r,M,h,hb=>by
  have hx:=hb x (by simp);show min x (Mi.botI (y::r))=M
  rcases qAk.mp h with rfl|h
  ·have key:∀(l:List Int),l≠[]->(∀a,a∈l->M<=a)->M<=Mi.botI l:=by
    intro l
    induction l with
    |nil=>intro h;exact absurd rfl h
    |cons a q ih=>
     intro _ hb;cases q with
     |nil=>exact hb a (by simp)
     |cons b q=>
      have h1:=ih (by simp) fun c hc=>hb c (by simp[hc])
      have h2:=hb a (by simp);show M<=min a (Mi.botI (b::q))
      lia
   have:=key (y::r) (by simp) fun a ha=>hb a (by simp[ha])
   lia
  ·rw[zIO (y::r) M h fun a ha=>hb a (by simp[ha])]
   lia
theorem zQP:CBi zRV Mi.minL n:=by
 refine zNS (zQ3 rfl (fun d h=>by cases d<;>first|rfl|exact absurd rfl (h _)) fun a b r=>by cases a<;>rfl) (fun es h=>by rw[Mi.minL,h]) fun mg E G H a es ns Q s ei ha p=>?_
 rw[Mi.minL,ei]at p;cases ns with
 |nil=>exact p.elim
 |cons q ns=>
  refine⟨q::ns,ha,by simp,fun M h1 h2=>?_⟩;rw[<- zIO _ M h1 h2];exact PostE.val p (Ext.refl s) rfl rfl
end
end L3
namespace Mi
open PySem
noncomputable section
end
end Mi
namespace L2
open PySem PySem.Spec PyProof.Rows
section
variable{X:Cx}{tg:Expr}
end
section
variable{prog:Program}{w:World}{A:Around}{E:Value->Shared->Prop}{s:Shared}
end
section
variable{X:Cx}
end
end L2
namespace L3
open PySem PySem.Spec
open PyProof.Rows (risingS sortedS ltCps_eq)
open L2 hiding Rep RepL
open Mi (Dt Xn R okR zA3 optR zA0 zA8 zAF zAD zAE Rh Sl Ro EM TM AM FM IM SM OM Tg Out zAQ zAP zAV full frz frz1 frzAt)
section
variable[Kc]{mg:Str->Option Value}{E:XK}{L n k l:Nat}{t:TA}{m:AM}
end
end L3
namespace Mi
open PySem
noncomputable section
end
end Mi
namespace L3
open PySem PySem.Spec
open L2 hiding Rep RepL
open Mi (Dt Xn R okR zA3 optR zA0 zA8 zAF zAD zAE Rh Sl Ro EM TM AM FM IM SM OM Tg Out zAQ zAP zAV full frz frz1 frzAt)
section
variable[Kc]{mg:Str->Option Value}{E:XK}{L n k l:Nat}{te:TE}{e:EM}
section
variable{G0 H0 S0:Hp}{σ:St}{ρ:Ro}{G H:Hp}{As:Nat->Addr->Prop}
end
end
end L3
namespace Mi
open PySem
noncomputable section
end
end Mi
namespace L2
open PySem PySem.Spec PyProof.Rows
section
variable{X:Cx}
end
end L2
namespace L3
open PySem PySem.Spec
open L2 hiding Rep RepL
open Mi (Dt Xn R okR zA3 optR zA0 zA8 zAF zAD zAE Rh Sl Ro EM TM AM FM IM SM OM Tg Out zAQ zAP zAV full frz frz1 frzAt)
section
variable[Kc]{mg:Str->Option Value}{E:XK}{L n k l:Nat}{te ta tb tx td:TE}{e ea eb ex ed ma:EM}{t:TA}{m:AM}
end
end L3
namespace Mi
open PySem
noncomputable section
end
end Mi
namespace L2
open PySem PySem.Spec PyProof.Rows
section
variable{prog:Program}{w:World}{A:Around}{E:Value->Shared->Prop}{s:Shared}
end
section
variable{X:Cx}
end
end L2
namespace L3
open PySem PySem.Spec
open L2 hiding Rep RepL
open Mi (Dt Xn R okR zA3 optR zA0 zA8 zAF zAD zAE Rh Sl Ro EM TM AM FM IM SM OM Tg Out zAQ zAP zAV full frz frz1 frzAt)
section
variable[Kc]{mg:Str->Option Value}{E:XK}{L n k l:Nat}
end
end L3
namespace Mi
open PySem
noncomputable section
end
end Mi
namespace L2
open PySem PySem.Spec PyProof.Rows
section
variable{prog:Program}{w:World}{A:Around}{E:Value->Shared->Prop}{s:Shared}
end
section
variable{X:Cx}{o:Expr}{td:TE}{p apos cpos pos:Pos}
end
end L2
namespace L3
open PySem PySem.Spec
open PyProof.Rows (risingS sortedS ltCps_eq)
open L2 hiding Rep RepL
open Mi (Dt Xn R okR zA3 optR zA0 zA8 zAF zAD zAE Rh Sl Ro EM TM AM FM IM SM OM Tg Out zAQ zAP zAV full frz frz1 frzAt)
section
variable[Kc]{mg:Str->Option Value}{E:XK}{L n k l:Nat}{te ta td:TE}{e ea ed:EM}
end
end L3
namespace Mi
open PySem
noncomputable section
end
end Mi
namespace L2
open PySem
end L2
namespace L2
open PySem PySem.Spec PyProof.Rows
section
variable{prog:Program}{w:World}{A:Around}{E:Value->Shared->Prop}{s:Shared}
end
section
variable{prog:Program}{w:World}{A:Around}{R:Result->Shared->Prop}{I:Addr}{fp wr:List Addr}{G:Array GenState->Array GenState->Prop}{n:Nat}{St:Nat->Shared->Prop}{led:Bool}{items:Array Value}{ns:List Int}
end
end L2
namespace PySem
open PyProof.Rows
end PySem
namespace L2
open PySem PySem.Spec PyProof.Rows
section
variable{prog:Program}{w:World}{A:Around}{E:Value->Shared->Prop}{s:Shared}
end
section
variable{X:Cx}{pins:List (Addr×Obj)}{σ:List (Option V)}{H:Hp}{s:Shared}
end
end L2
namespace L3
open PySem PySem.Spec
open L2 hiding Rep RepL
open Mi (Dt Xn R okR zA3 optR zA0 zA8 zAF zAD zAE Rh Sl Ro EM TM AM FM IM SM OM Tg Out zAQ zAP zAV full frz frz1 frzAt)
section
variable[Kc]{mg:Str->Option Value}{E:XK}{L n k l:Nat}{te ta tb:TE}{e ea eb ma:EM}{t:TA}{m:AM}
end
end L3
namespace Mi
open PySem
noncomputable section
end
end Mi
namespace L2
open PySem PySem.Spec PyProof.Rows
section
variable{prog:Program}{w:World}{A:Around}{E:Value->Shared->Prop}{s:Shared}
structure ZipX(z TI TO i1 i2:Addr):Prop where
 TIz:TI≠z
 TOz:TO≠z
 i1z:i1≠z
 i2z:i2≠z
 TITO:TI≠TO
 TIi1:TI≠i1
 TIi2:TI≠i2
 TOi1:TO≠i1
 TOi2:TO≠i2
 i12:i1≠i2
end
section
variable{X:Cx}{K:qA0}
end
section
variable{X:Cx}{e m1:Expr}{te ts:TE}{pos p2:Pos}
end
end L2
namespace L2
open PySem PySem.Spec PyProof.Rows
section
variable{prog:Program}{w:World}{A:Around}{R:Result->Shared->Prop}{I:Addr}{fp wr:List Addr}{G:Array GenState->Array GenState->Prop}{n:Nat}{St:Nat->Shared->Prop}{led:Bool}{items:Array Value}{zs:List Str}
end
end L2
namespace PySem
open PyProof.Rows
end PySem
namespace L2
open PySem PySem.Spec PyProof.Rows
section
variable{X:Cx}{pins:List (Addr×Obj)}{σ:List (Option V)}{H:Hp}{s:Shared}
end
end L2
namespace L3
open PySem PySem.Spec
open L2 hiding Rep RepL
open Mi (Dt Xn R okR zA3 optR zA0 zA8 zAF zAD zAE Rh Sl Ro EM TM AM FM IM SM OM Tg Out zAQ zAP zAV full frz frz1 frzAt)
section
variable[Kc]{mg:Str->Option Value}{E:XK}{L n k l:Nat}{te ta tb:TE}{e ea eb ma:EM}{t:TA}{m:AM}
end
end L3
namespace L2
open PySem
theorem uw1{P:List Value->Prop}(h:∀a,P [a]):∀us:List Value,us.length=1->P us
 |[a],_=>h a
theorem uw2{P:List Value->Prop}(h:∀a b,P [a,b]):∀us:List Value,us.length=2->P us
 |a::us,hl=>uw1 (P:=fun us=>P (a::us)) (h a) us (qFo hl)
theorem uw3{P:List Value->Prop}(h:∀a b c,P [a,b,c]):∀us:List Value,us.length=3->P us
 |a::us,hl=>uw2 (P:=fun us=>P (a::us)) (h a) us (qFo hl)
theorem oi{p q:Prop}(h:p\/q:=by first|exact qEo rfl|exact qDw rfl):p\/q:=h
end L2
namespace L3
open PySem PyProof.Rows
open L2 hiding Rep RepL
theorem fsc{N P:List Str}{sc:Scope}(a:sc.kind=.function:=by rfl)(b:sc.isCoroutine=false:=by rfl)(c:sc.isGenerator=false:=by rfl)(d:N.Nodup:=by decide +kernel)(e:N.take P.length=P:=by rfl)
  (f:∀x∈P,sc.names.lookup x=some .local\/sc.names.lookup x=some .cell:=by decide +kernel) (g:∀y∈sc.names,y.2≠.free:=by decide +kernel):FnScope N P sc:=⟨a,b,c,d,e,f,g⟩
section
variable{P:Program}{w:World}{K:qA0}{mg:Str->Option Value}{base:Heap}{x:Str}{st:Stmt}{N ps:List Str}{k:Nat}{sp:Sp}
theorem dfM{L n:Nat}{m:Mi.SM}(D:Def K mg x st)(S:FnScope N ps (zA5 st))
  (hb:∀(kV doc pm:Value)(an:Option Addr)(cdv ct:Value)(us:List Value),us.length=ps.length->bindArgs (qAw x x (zBL st) (zAR st) (zA5 st) .none kV doc pm an cdv ct) ⟨us,[]⟩=pure (ps.zip us))
  (hbody:∀{f:Addr}{cdv:Value}{A:Around}{outer:List Env}{s:Shared}{H:Hp}{vs:List V}{Q:VK}{E:XK},Room k (A.deeper (envOfC x (zA5 st) s.heap.objs.size f cdv))->(A.deeper (envOfC x (zA5 st) s.heap.objs.size f cdv)).units+64<cLine->sp0 K mg L (Mi.runF ps.length n m) vs H Q E ->
   ∃t,PSs (cxOf CX0 P w K mg base N x (zA5 st) f cdv A outer s H E).nox (zAR st) t/\t { nx:=fun _ H'=>Q .non H',rt:=Q } (start N vs) H):Has P w K mg base x (k+1) ps (sp0 K mg L (Mi.runF ps.length n m)):=
 D.ok S hb (fun _ _ _ _ h=>@zF8 ⟨K⟩ _ _ _ _ _ _ _ _ _ h) fun _ _ _ _ _ _ _ _ _ hr h=>hbody hr hr.units h
theorem dfX{L n:Nat}{m:Mi.SM}(D:Def K mg x st)(S:FnScope N ps (zA5 st))
  (hb:∀(kV doc pm:Value)(an:Option Addr)(cdv ct:Value)(us:List Value),us.length=ps.length->bindArgs (qAw x x (zBL st) (zAR st) (zA5 st) .none kV doc pm an cdv ct) ⟨us,[]⟩=pure (ps.zip us))
  (hbody:∀{f:Addr}{cdv:Value}{A:Around}{outer:List Env}{s:Shared}{H:Hp}{vs:List V}{Q:VK}{E:XK},Room k (A.deeper (envOfC x (zA5 st) s.heap.objs.size f cdv))->(A.deeper (envOfC x (zA5 st) s.heap.objs.size f cdv)).units+64<cLine->spE K mg L (Mi.runF ps.length n m) vs H Q E ->
   ∃t,PSs (cxOf (CXe P w) P w K mg base N x (zA5 st) f cdv A outer s H E) (zAR st) t/\t { nx:=fun _ H'=>Q .non H',rt:=Q } (start N vs) H):HasX P w K mg base x (k+1) ps (spE K mg L (Mi.runF ps.length n m)):=
 D.okX S hb (fun _ _ _ _ h=>@zF8 ⟨K⟩ _ _ _ _ _ _ _ _ _ h) fun _ _ _ _ _ _ _ _ _ hr h=>hbody hr hr.units h
theorem mkD{K:qA0}{h:Heap}{mg:Str->Option Value}{nm:Str}{st:Stmt}{f:Addr}{oc kV dc pm cd ct:Value}{od an:Option Addr}{sl:Array (Option Value)}(X:K.In h)(G:h.Ns mainGlobals mg)(a:qBb K mainGlobals nm=some (some (.ref f)))(l:K.lookup f=some ⟨oc,od,.func (qAw nm nm (zBL st) (zAR st) (zA5 st) .none kV dc pm an cd ct),sl⟩)(c:qBu K cd nm=true)(k:qAp K (.ref f)=true):Def K mg nm st:=⟨f,_,zMC (st:=st) l c k,qC6 X G a⟩
end
section
variable{X:Cx}{pos:Pos}
theorem pgn(i:Nat){x:Str}(hN:decide X.N.Nodup=true:=by kernel_rfl)(hi:X.N[i]?=some x:=by rfl)(hx:Loc X.env.scope x:=by exact oi)(hf:X.fn x=true\/X.env.scope.names.lookup x=some .local:=by first|exact .inl rfl|exact .inr rfl|assumption):PG X (.Name x pos) (zFR i):=zBD (of_decide_eq_true hN) hi hx hf
theorem pst(i:Nat){x:Str}{e:Expr}{te:TE}{pos':Pos}(hN:X.N.Nodup)(he:PE X e te)(hi:X.N[i]?=some x:=by rfl)(hx:Loc X.env.scope x:=by exact oi)(hs:swapsWith e (some (.Name x pos')) pos.line X.env=pure false:=by rfl)(hf:X.fn x=true\/X.env.scope.names.lookup x=some .local:=by first|exact .inl rfl|exact .inr rfl|assumption):PS X (.Assign [.Name x pos'] e pos) (tAsg te (zFR i)):=zS4 hN hi hx he hs hf
end
end L3
namespace Mi
open PySem
noncomputable section
end
end Mi
namespace L3
open PySem PySem.Spec
open L2 hiding Rep RepL
open Mi (Dt Xn R okR zA3 optR zA0 zA8 zAF zAD zAE Rh Sl Ro EM TM AM FM IM SM Tg Out zAQ zAP zAV full frz frz1 frzAt)
section
variable[Kc]
section
variable{G0 H0 S0:Hp}{σ:St}{ρ:Ro}{G H:Hp}{As:Nat->Addr->Prop}
end
variable{mg:Str->Option Value}{E:XK}{L n k l:Nat}{te ta tb:TE}{e ea eb ma:EM}{t:TA}{m:AM}
end
end L3
namespace Mi
open PySem
def eCallL(f:FM)(e:EM)(x:Str)(i:Nat):EM:=fun ρ=>zA3 (e ρ) fun d=>match ρ[i]? with
 |some (some c)=>match f [d,.fn x c]with
  |some (.ok r)=>if r.dep<=40 then okR r else none
  |_=>none
 |_=>none
def eCallF(ls:List (Str×FM))(i:Nat)(a:AM):EM:=fun ρ=>match ρ[i]? with
 |some (some (.fn x c))=>match ls.lookup x with
  |some f=>if c.dep<=40 then zA3 (a ρ) fun ds=>if Dt.depL ds=0 then match f (ds++[c])with
    |some (.ok r)=>if r.dep=0 then okR r else none
    |_=>none else none else none
  |none=>none
 |_=>none
noncomputable def lamF(n:Nat)(e:EM):FM:=fun ds=>if ds.length=n then e (ds.map some)else none
end Mi
namespace L3
open PySem PySem.Spec
open L2 hiding Rep RepL
open Mi (Dt Xn R okR zA3 optR zA0 zA8 zAF zAD zAE Rh Sl Ro EM TM AM FM IM SM Tg Out zAQ zAP zAV full frz frz1 frzAt)
variable[Kc]
section
variable{G H:Hp}{cl:Addr}{co:Obj}
theorem Same.del{H':Hp}(s:Same H H')(cl:Addr):Same (del H cl) (del H' cl):=fun b o e=>by
 obtain⟨z,e⟩:=zK6 e;rw[zB8 z];exact s _ _ e
mutual
theorem Rep.del(hc:G cl=some (cel co)):∀{d:Dt}{v:V},d.dep<=40->Rep G d v->Rep (del G cl) d v
 |.non,_,_,h=>h
 |.bl _,_,_,h=>h
 |.int _,_,_,h=>h
 |.str _,_,_,h=>h
 |.lst ds,_,hd,h=>by
  obtain⟨a,xs,e,e',r⟩:=h;exact⟨a,xs,e,(zB8 (zI1 e' hc (by simp))).trans e',RepL.del hc (by rw[Dt.dep]at hd;lia) r⟩
 |.tup ds,_,hd,h=>by
  obtain⟨a,xs,e,e',r⟩:=h;exact⟨a,xs,e,(zB8 (zI1 e' hc (by simp))).trans e',RepL.del hc (by rw[Dt.dep]at hd;lia) r⟩
 |.scr _,_,h,_=>by rw[Dt.dep]at h;lia
 |.exc _ _ _,_,h,_=>by rw[Dt.dep]at h;lia
 |.ins _ _,_,h,_=>by rw[Dt.dep]at h;lia
 |.dct _,_,h,_=>by rw[Dt.dep]at h;lia
 |.fn _ _,_,h,_=>by rw[Dt.dep]at h;lia
theorem RepL.del(hc:G cl=some (cel co)):∀{ds:List Dt}{xs:List V},Dt.depL ds<=40->RepL G ds xs->RepL (del G cl) ds xs
 |[],_,_,h=>h
 |d::r,_,hd,h=>by
  rw[Dt.depL]at hd;obtain⟨x,q,e,a,b⟩:=h;exact⟨x,q,e,Rep.del hc (by lia) a,RepL.del hc (by lia) b⟩
end
theorem Own.del(hc:G cl=some (cel co)):∀{n:Nat}{S:Addr->Prop}{d:Dt}{v:V},d.dep<=40->¬S cl->Own G H n S d v->Own (del G cl) (del H cl) n S d v
 |0,_,_,_,hd,_,h=>Rep.del hc hd h
 |n+1,S,d,v,hd,hs,h=>by
  cases d with
  |lst ds=>
   rw[Dt.dep]at hd;obtain⟨a,xs,T,e,ha,k⟩:=h;have hac:a≠cl:=fun z=>hs (z▸k.top)
   exact⟨a,xs,T,e,(zB8 hac).trans ha,k.imp (fun q d x h1 p=>Own.del hc (zDN (by lia) h1) (fun z=>hs (k.sub q _ z)) p) fun _ z=>z⟩
  |tup ds=>
   rw[Dt.dep]at hd;obtain⟨a,xs,T,e,ha,k⟩:=h;have hac:a≠cl:=fun z=>hs (z▸k.top)
   exact⟨a,xs,T,e,(zB8 hac).trans ha,k.imp (fun q d x h1 p=>Own.del hc (zDN (by lia) h1) (fun z=>hs (k.sub q _ z)) p) fun _ z=>z⟩
  |dct kvs=>rw[Dt.dep]at hd;lia
  |non=>exact h
  |bl _=>exact h
  |int _=>exact h
  |str _=>exact h
  |scr _=>rw[Dt.dep]at hd;lia
  |exc _ _ _=>rw[Dt.dep]at hd;lia
  |ins _ _=>rw[Dt.dep]at hd;lia
  |fn _ _=>rw[Dt.dep]at hd;lia
theorem zHT:∀{ds:List Dt}{vs:List V}{c:Dt}{w:V},RepL G ds vs->Rep G c w->RepL G (ds++[c]) (vs++[w])
 |[],_,c,w,h,r=>by cases h;exact⟨w,[],rfl,r,rfl⟩
 |d::t,_,c,w,h,r=>by
  obtain⟨x,q,rfl,a,b⟩:=h;exact⟨x,q++[w],rfl,a,zHT b r⟩
end
variable{mg:Str->Option Value}{E:XK}{n:Nat}
theorem zOC{f:FM}{te:TE}{e:EM}{x:Str}{L:Arguments×Expr×Scope×Str}{P cl:Addr}{i:Nat}(hL:lamK Kc.K x=some L)(hP:tabK Kc.K P=some (.lam (lamQ x)))(A:DE mg E te e 0) :
  DE mg E (zJT (sp0 Kc.K mg n f) cl i (zDH te (zDH (tLam P (lamQ x) L.1 L.2.1 L.2.2.1 [(L.2.2.2,cl)]) tNil))) (Mi.eCallL f e x i) n:=by
 intro G H σ ρ Q s w p;refine A.step errE s w p fun d v G1 H1 S _ fr o p1=>?_
 refine⟨fr.ext.in' _ _ (fr.ext.g _ _ (w.tab _ _ hP)),fun g pm cdv ctv H2 hf sm h2=>?_⟩;show ∃v',σ[i]?=some (some v')/\_;cases e1:ρ[i]? with
 |none=>rw[e1]at p1;exact p1.elim
 |some oc=>
  cases oc with
  |none=>rw[e1]at p1;exact p1.elim
  |some c=>
   rw[e1]at p1;obtain⟨wv,hσ,rc⟩:=w.at i c e1;refine⟨wv,hσ,fun co val hcl hco rv=>?_⟩;have hH1:H1 cl=none:=by
    cases z:H1 cl with
    |none=>rfl
    |some u=>rw[sm _ _ z]at hcl;cases hcl
   have hG1:G1 cl=none:=by
    cases z:G1 cl with
    |none=>rfl
    |some u=>rw[fr.ext.in' _ _ z]at hH1;cases hH1
   have hGf:G1 g=none:=by
    cases z:G1 g with
    |none=>rfl
    |some u=>rw[fr.ext.in' _ _ z]at hf;cases hf
   have ncf:cl≠g:=fun z=>by rw[z,h2]at hcl;cases hcl
   generalize hG3:upd (upd G1 g (.fn (lamO (lamQ x) L.1 L.2.1 L.2.2.1 [(L.2.2.2,cl)] pm cdv ctv) (lamQ x))) cl (cel co)=G3
   have s13:Same G1 G3:=fun b u z=>by rw[<- hG3,zA9 (zAG z hG1),zA9 (zAG z hGf)];exact z
   have c3:G3 cl=some (cel co):=by rw[<- hG3,zAH]
   have f3:G3 g=some (.fn (lamO (lamQ x) L.1 L.2.1 L.2.2.1 [(L.2.2.2,cl)] pm cdv ctv) (lamQ x)):=by rw[<- hG3,zA9 ncf.symm,zAH]
   have s3:Same G3 (upd H2 cl (cel co)):=fun b u z=>by
    by_cases z1:b=cl
    ·subst z1;rw[zAH,<- c3,z]
    ·rw[zA9 z1]
     by_cases z2:b=g
     ·subst z2;rw[h2,<- f3,z]
     ·rw[<- hG3,zA9 z1,zA9 z2]at z;exact sm _ _ (fr.ext.in' _ _ z)
   have rc3:Rep G3 c wv:=Rep.mono (fr.ext.g.trans s13) rc;refine⟨G3,[d,.fn x c],(w.tab.trans fr.ext.g).trans s13,s3,⟨v,_,rfl,Rep.mono s13 o,.ref g,[],rfl,⟨g,rfl,L,cl,pm,cdv,ctv,co,val,wv,hL,f3,c3,hco,rv,rc3⟩,rfl⟩,?_⟩;have p2:PostE mg E G H n (match f [d,.fn x c]with
    |some (.ok r)=>if r.dep<=40 then okR r else none
    |_=>none) Q:=p1
   cases er:f [d,.fn x c]with
   |none=>rw[er]at p2;exact p2
   |some r=>
    rw[er]at p2;cases r with
    |error y=>exact p2.elim
    |ok r=>
     have p3:PostE mg E G H n (if r.dep<=40 then okR r else none) Q:=p2
     by_cases hd:r.dep<=40
     ·rw[if_pos hd]at p3;intro u G4 H4 S4 fr4 o4;have c4:G4 cl=some (cel co):=fr4.ext.g _ _ c3;have nS:¬S4 cl:=fun z=>by have:=(fr4.new cl z).1;rw[zAH]at this;cases this
      have neH:∀{b:Addr}{u:HO},H b=some u->b≠cl:=fun z=>zAG (fr.ext.h _ _ z) hH1
      refine p3 u (del G4 cl) (del H4 cl) S4 ⟨⟨fun b u z=>?_,fun b u z=>?_,Same.del fr4.ext.in' cl,fun b hb=>?_⟩,fun a ha=>?_⟩ (Own.del c4 hd nS o4)
      ·have z1:=fr.ext.g _ _ z;rw[zB8 (zAG z1 hG1)];exact fr4.ext.g _ _ (s13 _ _ z1)
      ·rw[zB8 (neH z)];exact fr4.ext.h _ _ (by rw[zA9 (neH z)];exact sm _ _ (fr.ext.h _ _ z))
      ·cases z:H b with
       |none=>exact absurd z hb
       |some u=>
        have z1:=fr.ext.h _ _ z;rw[zB8 (neH z),fr4.ext.old b (by rw[zA9 (neH z),sm _ _ z1];simp),<- hG3,zA9 (neH z),zA9 (zAG z1 hf)];exact fr.ext.old b hb
      ·obtain⟨n1,n2,n3⟩:=fr4.new a ha;have za:a≠cl:=fun z=>nS (z▸ha)
       rw[zA9 za]at n1;refine⟨?_,zCO n2,by rw[zB8 za];exact n3⟩;cases z:H a with
       |none=>rfl
       |some u=>rw[sm _ _ (fr.ext.h _ _ z)]at n1;cases n1
     ·rw[if_neg hd]at p3;exact p3.elim
def rLam(K:qA0)(ls:List (Str×FM)):Addr->List V->Hp->VK->Prop:=fun f vs H Q=>∃x fm c G cl co val w L pm cdv ctv ds r,ls.lookup x=some fm/\lamK K x=some L /\
 H f=some (.fn (lamO (lamQ x) L.1 L.2.1 L.2.2.1 [(L.2.2.2,cl)] pm cdv ctv) (lamQ x))/\H cl=some (cel co)/\co.data=.cell (some val)/\RelV w val/\Same (tabK K) G/\Same G (del H cl)/\@RepL ⟨K⟩ G (ds++[c]) (vs++[w]) /\
 fm (ds++[c])=okR r/\r.dep=0/\∀v H',@Rep ⟨K⟩ (fun _=>none) r v->Same H H'->Q v H'
theorem zOD{ls:List (Str×FM)}{i:Nat}{ta:TA}{a:AM}(A:DA mg E ta a 0):DE mg E (zL7 i (rLam Kc.K ls) ta) (Mi.eCallF ls i a) n:=by
 intro G H σ ρ Q s w p;unfold Mi.eCallF at p
 split at p
 ·rename_i x c e1
  obtain⟨v,hσ,f,rfl,L,cl,pm,cdv,ctv,co,val,wv,h1,h2,h3,h4,h5,h6⟩:=w.at i _ e1
  split at p
  ·rename_i fm hl
   split at p
   ·rename_i hc
    refine⟨f,_,_,hσ,s _ _ h2,?_⟩;refine A.step errE s w p fun ds vs G1 H1 S T _ fr o p1=>?_
    have f1:=fr.ext.h _ _ (s _ _ h2);have c1:G1 cl=some (cel co):=fr.ext.g _ _ h3
    split at p1
    ·rename_i hd
     cases er:fm (ds++[c])with
     |none=>rw[er]at p1;exact p1.elim
     |some r=>
      rw[er]at p1;cases r with
      |error y=>exact p1.elim
      |ok r=>
       have p3:PostE mg E G H n (if r.dep=0 then okR r else none) Q:=p1
       by_cases hd0:r.dep=0
       ·rw[if_pos hd0]at p3;refine⟨f1,x,fm,c,del G1 cl,cl,co,val,wv,L,pm,cdv,ctv,ds,r,hl,h1,f1,fr.ext.in' _ _ c1,h4,h5,fun b u z=>?_,Same.del fr.ext.in' cl,zHT (RepL.del c1 (by lia) o.repL) (Rep.del c1 hc (Rep.mono fr.ext.g h6)),er,hd0,fun v H' rv sm=>?_⟩
        ·have z1:=fr.ext.g _ _ (w.tab _ _ z);refine(zB8 ?_).trans z1
         rintro rfl
         rw[c1]at z1;cases z1;unfold tabK at z;cases y:makers.find? fun x=>codP Kc.K x==some b&&(lamK Kc.K x).isSome with
         |none=>rw[y]at z;cases z
         |some t=>rw[y]at z;cases z
        ·exact PostE.val p3 (fr.ext.trans (Ext.same fr.ext.in' sm)) hd0 (Rep.scalar rv hd0)
       ·rw[if_neg hd0]at p3;exact p3.elim
    ·exact p1.elim
   ·exact p.elim
  ·exact p.elim
 ·exact p.elim
end L3
namespace L3
open PySem PySem.Spec
open L2 hiding Rep RepL
open Mi (Dt EM FM okR)
structure LamOk(K:qA0)(mg:Str->Option Value)(k:Nat)(x:Str)(fm:FM):Prop where
 ex:∃(L:Arguments×Expr×Scope×Str)(ps:List Str)(e:EM),lamK K x=some L/\LamScope ps L.2.2.2 L.2.2.1 /\
  (∀(q:Str)(cl:Addr)(pm cdv ctv:Value)(us:List Value),us.length=ps.length->bindArgs (qBx "<lambda>" q L.1 L.2.1 L.2.2.1 [(L.2.2.2,cl)] pm cdv ctv) ⟨us,[]⟩=pure (ps.zip us)) /\
  fm=Mi.lamF (ps.length+1) e/\∀(X:Cx)(q:Str)(f:Addr)(cdv:Value)(cl:Addr)(s:Shared)(H:Hp),X.K=K->X.mg=mg->Room k (X.A.deeper (qCr q L.2.2.1 s.heap.objs.size f cdv [(L.2.2.2,cl)])) ->
   ∃t,PE (zOE X (ps++[L.2.2.2]) q L.2.2.1 f cdv [(L.2.2.2,cl)] s H) L.2.1 t/\@DE ⟨K⟩ mg E0 t e 0
theorem lamR{K:qA0}{mg:Str->Option Value}{k:Nat}{ls:List (Str×FM)}{X:Cx}(hK:X.K=K)(hm:X.mg=mg)(hr:Room (k+1) X.A)(h:∀x fm,ls.lookup x=some fm->LamOk K mg k x fm):LamR X (rLam K ls):=by
 letI:Kc:=⟨K⟩
 intro pins s σ H f vs us Q I r ⟨x,fm,c,G,cl,co,val,w,L,pm,cdv,ctv,ds,d,h1,h2,h3,h4,h5,h6,h7,h8,h9,h10,h11,h12⟩;obtain⟨L',ps,e,g1,g2,g3,g4,g5⟩:=(h x fm h1).ex;rw[h2]at g1;cases g1;subst g4;obtain⟨t,ht,D⟩:=g5 X (lamQ x) f cdv cl s (del H cl) hK hm (hr.deeper _);unfold Mi.lamF at h10
 split at h10
 ·rename_i hlen
  have hl:vs.length=ps.length:=by
   have:=RepL.length h9
   simp only[qB1,qAz,qEt]at this hlen
   lia
  refine zPO hr I h3 h4 h5 h6 r g2 (fun us hu=>g3 _ _ _ _ _ us hu) hl ⟨t,ht,?_⟩;refine D G (del H cl) _ ((ds++[c]).map some) _ h8 ⟨?_,fun i d' e1=>?_,h7⟩ ?_
  ·have:=RepL.length h9
   simp only[qB1,qAn,qAz,qEt]at this ⊢
   lia
  ·rw[qAg]at e1;cases e2:(ds++[c])[i]? with
   |none=>rw[e2]at e1;cases e1
   |some d2=>
    rw[e2]at e1;cases e1;have hi:i<(vs++[w]).length:=by rw[RepL.length h9];exact(qA2.mp e2).1
    refine⟨(vs++[w])[i],?_,zBO h9 e2 (qAe hi)⟩;rw[show vs.map some++[some w]=(vs++[w]).map some by simp,qAg,qAe hi];rfl
  ·rw[h10];intro v G' H' S fr o;refine h12 v _ (Rep.scalar o h11) fun b u z=>?_
   by_cases zb:b=cl
   ·subst zb;rw[zAH,<- h4,z]
   ·rw[zA9 zb];exact fr.ext.h _ _ (by rw[zB8 zb];exact z)
 ·cases h10
end L3
namespace L3
open PySem PySem.Spec PyProof.Rows
open L2 hiding Rep RepL
structure Tabs(K:qA0)(ts:List Addr):Prop where
 no:∀P∈ts,K.lookup P=none
 «in»:∀x∈makers,∀P,codP K x=some P->(lamK K x).isSome=true->P∈ts/\∃c,qAu K c P=true
theorem zHK{K:qA0}{ts:List Addr}(T:Tabs K ts){P:Addr}{u:HO}(h:tabK K P=some u):P∈ts/\(∃q,u=.lam q)/\∃c,qAu K c P=true:=by
 unfold tabK at h;cases e:makers.find? fun x=>codP K x==some P&&(lamK K x).isSome with
 |none=>rw[e]at h;cases h
 |some x=>
  rw[e]at h;cases h;have h1:=List.mem_of_find?_eq_some e;have h2:=List.find?_some e;simp only[qAs,beq_iff_eq]at h2;obtain⟨a,b⟩:=T.in x h1 P h2.1 h2.2;exact⟨a,⟨_,rfl⟩,b⟩
theorem zM2{P:Program}{w:World}{K:qA0}{mg mb:Str->Option Value}{CX:CXT}{k:Nat}{fa a:Addr}{fd:FuncData}{x:Str}{sp:Sp}{s₁:Shared}{vs:List Value}{ns:List Int}{ts:List Addr}
  (KX:K.In s₁.heap) (hT:∀P∈ts,s₁.heap.get? P=some (qDo #[])) (T:Tabs K ts) (hns:s₁.heap.Ns mainGlobals mg) (hb:s₁.heap.Ns builtinsNs mb) (hbb:∀x:Str,x ≠ "__name__" -> mb x=bootBuiltins x) (hlim:s₁.heap.NoLimit)
  (hbm:∃bm ob,mg "__builtins__" = some (.ref bm)/\bm≠builtinsNs/\s₁.heap.get? bm=some ob/\ob.cls=.type "module" /\ ob.dict=some builtinsNs/\ob.data=.plain) (hg:s₁.gens=#[])
  (ha:s₁.heap.get? a=some { cls:=.type "list",data:=.seq vs.toArray }) (hi:IntsAre vs ns) (hl:ns.length<=sizeLine) (hr:Room k callerA)
  (F:∀base:Heap,K.In base->base.Ns mainGlobals mg->FnOk P w K mg base CX k fa fd [x] sp) (hbind:∀(s:Shared)(u:Value),BindsTo s fd ⟨[u],[]⟩ [(x,u)])
  (hsp:∀H:Hp,Same (tabK K) H->SqL K H a (ns.map V.int)->sp [.ref a] H (fun v H'=>v=.bl true/\Same (tabK K) H') fun _ _ _=>False)
  (hCX:∀H e s',CX [] H s₁ (fun _ _ _=>False) e s'->False) :
  codeAny (model P w) callerA (.call (.ref fa) ⟨[.ref a],[]⟩) (fun r s'=>r=.ok (.ret (.bool true))/\OldK s₁.heap s'.heap/\s'.os=s₁.os/\AllBare s'.gens) s₁:=by
 have rv:=zHH hi;have lenV:=hi.length;have tabO:∀{b:Addr}{u:HO},tabK K b=some u->s₁.heap.get? b=some (qDo #[]):=fun e=>hT _ (zHK T e).1
 have core:∀H:Hp,(∀b u,H b=some u->(b=a/\∃o xs,u=.frz o (.lst xs))\/tabK K b=some u)->Same (tabK K) H->SqL K H a (ns.map V.int)->HOk P w H s₁.heap->(∀b,H b≠none->K.lookup b=none) ->
   codeAny (model P w) callerA (.call (.ref fa) ⟨[.ref a],[]⟩) (fun r s'=>r=.ok (.ret (.bool true))/\OldK s₁.heap s'.heap/\s'.os=s₁.os/\AllBare s'.gens) s₁:=by
  intro H hO hTab hS hok hK;have base_of:∀{b:Addr}{o:Obj},s₁.heap.get? b=some o->H b=none->(hidT s₁.heap H).get? b=some o:=fun e n=>zO2 e n
  have noA:∀{b:Addr}{o:Obj},s₁.heap.get? b=some o->(∀v,o.data≠.fields v)->(∀v n,o.data≠.seq v n)->H b=none:=fun{b o} e d1 d2=>by
   cases q:H b with
   |none=>rfl
   |some u=>
    rcases hO b u q with⟨z,_⟩|z
    ·subst z;rw[ha]at e;cases e;exact absurd rfl (d2 _ _)
    ·rw[tabO z]at e;cases e;exact absurd rfl (d1 _)
  have nsK:∀{b:Addr}{m:Str->Option Value},s₁.heap.Ns b m->(hidT s₁.heap H).Ns b m:=fun{b m} ⟨o,es,ep,e,d,r⟩=>⟨o,es,ep,base_of e (noA e (fun v z=>by rw[d]at z;cases z) fun v n z=>by rw[d]at z;cases z),d,r⟩
  have hKb:K.In (hidT s₁.heap H):=fun b o e=>base_of (KX b o e) (by
   cases q:H b with
   |none=>rfl
   |some u=>rw[hK b (by rw[q];simp)]at e;cases e)
  have hM:Mod K mg (hidT s₁.heap H):=⟨hKb,nsK hns,⟨mb,nsK hb,hbb⟩,let⟨mc,h1,h2⟩:=hlim;⟨mc,nsK h1,h2⟩,let⟨bm,ob,e1,e2,e3,e4,e5,e6⟩:=hbm;⟨bm,ob,e1,e2,base_of e3 (noA e3 (fun v z=>by rw[e6]at z;cases z) fun v n z=>by rw[e6]at z;cases z),e4,e5,e6⟩⟩
  have e0:Env0 P w K mg (hidT s₁.heap H) callerA [] s₁ H:=⟨rfl,hM,fun b o e=>zQ4 e,qDj (zMA _ _),trivial,fun b hb=>absurd (show b∈([]:List Addr) from hb) (by simp),hok,.of_eq hg⟩
  refine codeAny_mono ((F _ hKb (nsK hns)).run callerA [] s₁ H ⟨[.ref a],[]⟩ [.ref a] [.ref a] _ _ hr e0 (hbind s₁ (.ref a)) (.cons rfl .nil) (hsp H hTab hS)) fun r s' h=>?_
  cases r with
  |error e=>exact(hCX H e s' h).elim
  |ok fl=>
   cases fl with
   |next=>exact qA3 h
   |brk=>exact qA3 h
   |cont=>exact qA3 h
   |ret u=>
    obtain⟨v,H',os,bare,un,hok',r',q,qT⟩:=h;subst q;obtain rfl:u=Value.bool true:=r';refine⟨rfl,⟨fun b o e=>?_,fun b o e=>un.there b o e (by simp)⟩,os,bare⟩;cases q:H b with
    |none=>exact .inl (un.keep b o e q (by intro z;exact absurd (show b∈([]:List Addr) from z) (by simp)) (by simp))
    |some u=>
     rcases hO b u q with⟨_,ob,xs,rfl⟩|z
     ·have z2:=un.frzs b ob _ q;obtain⟨e1,_⟩:=hok b _ q;obtain⟨e2,_⟩:=hok' b _ z2;rw[e]at e1;cases e1;exact .inl e2
     ·obtain⟨hts,⟨qq,rfl⟩,c,hc⟩:=zHK T z;obtain⟨ps,e2,_⟩:=hok' b _ (qT _ _ z);have e3:=hT b hts;rw[e3]at e;cases e;exact .inr (.inl ⟨((qDu KX hc).tab e3).isCodeTable,rfl,#[],ps,rfl,by rw[e2];simp⟩)
 have tOk:∀{H:Hp}{b:Addr}{u:HO},tabK K b=some u->ObjOk P w H s₁.heap b u:=fun{H b u} z=>by
  obtain⟨hts,⟨q,rfl⟩,_⟩:=zHK T z;exact⟨#[],hT b hts,trivial,fun pos cv y=>by simp[codeAmong]at y⟩
 have nta:tabK K a=none:=by
  cases z:tabK K a with
  |none=>rfl
  |some u=>have:=tabO z;rw[ha]at this;cases this
 cases hk:K.lookup a with
 |some o=>
  have e:=KX a o hk;rw[ha]at e;cases e;exact core (tabK K) (fun b u z=>.inr z) (Same.refl _) (.inr ⟨_,vs.toArray,_,hk,rfl,rfl,rfl,by rw[qAf,lenV];exact hl,by simpa using rv⟩) (fun b u z=>tOk z) fun b z=>by
   cases y:tabK K b with
   |none=>exact absurd y z
   |some u=>exact T.no b (zHK T y).1
 |none=>
  refine core (upd (tabK K) a (.frz { cls:=.type "list",data:=.seq vs.toArray } (.lst (ns.map V.int)))) (fun b u z=>?_) (fun b u z=>?_) (.inl (.inr ⟨{ cls:=.type "list",data:=.seq vs.toArray },zAH⟩)) (fun b u z=>?_) fun b z=>?_
  ·by_cases hb:b=a
   ·subst hb;rw[zAH]at z;cases z;exact .inl ⟨rfl,_,_,rfl⟩
   ·rw[zA9 hb]at z;exact .inr z
  ·rw[zA9 (zAG z nta)];exact z
  ·by_cases hb:b=a
   ·subst hb;rw[zAH]at z;cases z;exact⟨ha,by rw[qAn];exact hl,vs,_,rv,ha⟩
   ·rw[zA9 hb]at z;exact tOk z
  ·by_cases hb:b=a
   ·subst hb;exact hk
   ·rw[zA9 hb]at z;cases y:tabK K b with
    |none=>exact absurd y z
    |some u=>exact T.no b (zHK T y).1
theorem zN1{l:qCn}{n k:Nat}{q:Program}{loose:List Str}{XP:(Str->Option Value)->Heap->Prop}{YP:World->Heap->Prop}{d:DefRec}{K:Params->qA0}{CX:World->CXT}{sp:World->Sp}{x:Str}{ts:List Addr}
  (hn:l.most=some n) (hn2:n<=sizeLine) (hdf:d.params.defaults=[]) (hr:Room k callerA)
  (hY:∀(w:World)(h:Heap),YP w h->(K w.params).In h/\∀P∈ts,h.get? P=some (qDo #[]))
  (F:∀(w:World)(mg:Str->Option Value)(fa:Addr)(h:Heap),(K w.params).In h->h.Ns mainGlobals mg->mg d.name=some (.ref fa) ->
   Tabs (K w.params) ts/\∃fd:FuncData,(∀(s:Shared)(u:Value),BindsTo s fd ⟨[u],[]⟩ [(x,u)]) /\
    ∀base:Heap,(K w.params).In base->base.Ns mainGlobals mg->FnOk l.prog w (K w.params) mg base (CX w) k fa fd [x] (sp w))
  (hsp:∀(w:World)(H:Hp)(a:Addr)(ns:List Int),ns.length<=n->(∀i∈ns,i.natAbs.log2<2 ^ 20)->Same (tabK (K w.params)) H->SqL (K w.params) H a (ns.map V.int)->sp w [.ref a] H (fun v H'=>v=.bl true/\Same (tabK (K w.params)) H') fun _ _ _=>False)
  (hCX:∀(w:World)(H:Hp)(s:Shared)(e:Value)(s':Shared),CX w [] H s (fun _ _ _=>False) e s'->False) :
  qE3 q loose XP YP l.row.toRowW d [] (fun f vs=>qEb f vs):=by
 refine Att.attach_callW hn hdf fun w s₀ s₁ mg mb fa o pm cd doc a vs ns G Y ho hd hcd hmg hobj hints hlen hw hg=>?_
 obtain⟨KX,hT⟩:=hY w _ Y;obtain⟨T,fd,hb,hF⟩:=F w mg fa _ KX G.T.g hmg;exact zM2 KX hT T G.T.g G.T.b G.T.builtins G.T.nolimit G.T.bmain hg hobj hints (qAh hlen hn2) hr hF hb (fun H hO hS=>hsp w H a ns hlen hw hO hS) fun H e s'=>hCX w H s₁ e s'
end L3
namespace L2
open PySem PySem.Spec PyProof.Rows
section
variable{X:Cx}
theorem zLM{params:Arguments}{body:Expr}{scope:Scope}{pos:Pos}{c P:Addr}{q:Str}{clos:List (Str×Addr)}(hC:qAu X.K c P=true)(hdef:defaultsOf params X.env=([],[]):=by rfl)(hcode:X.env.code=.ref c:=by rfl)
  (hq:X.env.qual ++ "<lambda>" = q:=by rfl) (hcl:closureFor scope X.env=pure clos:=by rfl):PE X (.Lambda params body scope pos) (tLam P q params body scope clos):=fun pins s σ H Q I h=>
 zSE hdef hcode (qDu I.ok.mod.kin hC) hq hcl pins s σ H Q I h
theorem zOV{x nm:Str}{j k:Nat}{ps:List Str}{sp:Sp}{e:Expr}{es:List Expr}{t:TA}{p pos:Pos}{cl:Addr}(i:Nat)(h:Has X.prog X.w X.K X.mg X.base x j ps sp)(hjk:j<=k)(hr:Room k X.A)(hg:Gl X x)(ha:PA X (e::es) t)
  (hN:X.N[i]?=some nm:=by rfl) (hv:X.env.scope.names.lookup nm=some .cell:=by rfl) (hfn:X.fn nm=true:=by rfl) (hc:X.env.cells.lookup nm=some cl:=by rfl) (hdb:(x==("__debug__":Str))=false:=by decide)
  (he:starEach (e::es) X.env=(false,eval e X.env)::starEach es X.env:=by rfl) (hpl:(backTo pos (starEach es X.env)).any (·.1)=false:=by rfl):PE X (.Call (.Name x p) (e::es) [] pos) (zJT sp cl i t):=by
 obtain⟨f,fd,G,m,kp,b⟩:=h;exact zNQ G (hr.mono hjk) hg m kp b ha hN hv hfn hc hdb he hpl
end
end L2
namespace L3
open PySem PyProof.Rows
open L2 hiding Rep RepL
structure Mkr(K:qA0)(mg:Str->Option Value)(x:Str)(st:Stmt)(P:Addr):Prop where
 ex:∃f fd c,Fun K x x st f fd/\mg x=some (.ref f)/\fd.code=.ref c/\qAu K c P=true
 lam:lamK K x=zKQ (zAR st)
 tab:tabK K P=some (.lam (lamQ x))
section
variable{P:Program}{w:World}{K:qA0}{mg:Str->Option Value}{base:Heap}{x:Str}{st:Stmt}{N ps:List Str}{k:Nat}{sp:Sp}{T:Addr}
theorem dfL{L n:Nat}{m:Mi.SM}(D:Mkr K mg x st T)(S:FnScope N ps (zA5 st))
  (hb:∀(kV doc pm:Value)(an:Option Addr)(cdv ct:Value)(us:List Value),us.length=ps.length->bindArgs (qAw x x (zBL st) (zAR st) (zA5 st) .none kV doc pm an cdv ct) ⟨us,[]⟩=pure (ps.zip us))
  (hbody:∀{f c:Addr}{A:Around}{outer:List Env}{s:Shared}{H:Hp}{vs:List V}{Q:VK}{E:XK},qAu K c T=true->Room k (A.deeper (envOfC x (zA5 st) s.heap.objs.size f (.ref c)))->(A.deeper (envOfC x (zA5 st) s.heap.objs.size f (.ref c))).units+64<cLine->sp0 K mg L (Mi.runF ps.length n m) vs H Q E ->
   ∃t,PSs (cxOf CX0 P w K mg base N x (zA5 st) f (.ref c) A outer s H E).nox (zAR st) t/\t { nx:=fun _ H'=>Q .non H',rt:=Q } (start N vs) H):Has P w K mg base x (k+1) ps (sp0 K mg L (Mi.runF ps.length n m)):=by
 obtain⟨f,fd,c,F,hm,hc,hC⟩:=D.ex;refine⟨f,fd,?_,hm,F.kp,F.binds hb⟩;obtain⟨oc,od,kV,doc,pm,an,cdv,ct,osl,rfl,lk,hcd⟩:=F.ex;have hc':cdv=.ref c:=hc;subst hc';refine zO7 lk hcd S (fun _ _ _ _ h=>@zF8 ⟨K⟩ _ _ _ _ _ _ _ _ _ h) fun A outer s H vs Q E hr hsp=>?_
 obtain⟨t,h,q⟩:=hbody hC hr hr.units hsp;exact⟨t,h.nox,q⟩
theorem dfLX{L n:Nat}{m:Mi.SM}(D:Mkr K mg x st T)(S:FnScope N ps (zA5 st))
  (hb:∀(kV doc pm:Value)(an:Option Addr)(cdv ct:Value)(us:List Value),us.length=ps.length->bindArgs (qAw x x (zBL st) (zAR st) (zA5 st) .none kV doc pm an cdv ct) ⟨us,[]⟩=pure (ps.zip us))
  (hbody:∀{f c:Addr}{A:Around}{outer:List Env}{s:Shared}{H:Hp}{vs:List V}{Q:VK}{E:XK},qAu K c T=true->Room k (A.deeper (envOfC x (zA5 st) s.heap.objs.size f (.ref c)))->(A.deeper (envOfC x (zA5 st) s.heap.objs.size f (.ref c))).units+64<cLine->spE K mg L (Mi.runF ps.length n m) vs H Q E ->
   ∃t,PSs (cxOf (CXe P w) P w K mg base N x (zA5 st) f (.ref c) A outer s H E) (zAR st) t/\t { nx:=fun _ H'=>Q .non H',rt:=Q } (start N vs) H):HasX P w K mg base x (k+1) ps (spE K mg L (Mi.runF ps.length n m)):=by
 obtain⟨f,fd,c,F,hm,hc,hC⟩:=D.ex;refine⟨f,fd,?_,hm,F.kp,F.binds hb⟩;obtain⟨oc,od,kV,doc,pm,an,cdv,ct,osl,rfl,lk,hcd⟩:=F.ex;have hc':cdv=.ref c:=hc;subst hc';exact zO7 lk hcd S (fun _ _ _ _ h=>@zF8 ⟨K⟩ _ _ _ _ _ _ _ _ _ h) fun A outer s H vs Q E hr hsp=>hbody hC hr hr.units hsp
end
theorem lsc{ps:List Str}{nm:Str}{sc:Scope}(a:sc.kind=.function:=by rfl)(b:sc.isCoroutine=false:=by rfl)(c:sc.isGenerator=false:=by rfl)(d:(ps++[nm]).Nodup:=by decide +kernel)
  (f:∀x∈ps,sc.names.lookup x=some .local:=by decide +kernel) (g:sc.names.lookup nm=some .free:=by rfl) (h:∀y∈sc.names,y.2≠.cell:=by decide +kernel) (i:∀y∈sc.names,y.2=.free->y.1=nm:=by decide +kernel):LamScope ps nm sc:=
 ⟨a,b,c,d,f,g,h,fun x hx=>i (x,.free) (qB5 hx) rfl⟩
theorem lam1{K:qA0}{mg:Str->Option Value}{k:Nat}{x:Str}{fm:Mi.FM}(h:LamOk K mg k x fm):∀y gm,([(x,fm)]:List (Str×Mi.FM)).lookup y=some gm->LamOk K mg k y gm:=fun y gm e=>by
 simp only[qCl]at e
 split at e
 ·rename_i z
  cases e;rw[beq_iff_eq.mp z];exact h
 ·cases e
theorem lam2{K:qA0}{mg:Str->Option Value}{k:Nat}{x:Str}{fm:Mi.FM}{r:List (Str×Mi.FM)}(h:LamOk K mg k x fm)(h2:∀y gm,r.lookup y=some gm->LamOk K mg k y gm):∀y gm,((x,fm)::r).lookup y=some gm->LamOk K mg k y gm:=fun y gm e=>by
 simp only[qCl]at e
 split at e
 ·rename_i z
  cases e;rw[beq_iff_eq.mp z];exact h
 ·exact h2 y gm e
end L3
namespace L3
open PySem PyProof.Rows
open L2 hiding Rep RepL
structure Mk1(K:qA0)(ts:List Addr)(x:Str)(r:Option Addr):Prop where
 cod:codP K x=r
 lam:(lamK K x).isSome=r.isSome
 hd:∀P,r=some P->P∈ts/\∃c,qAu K c P=true
theorem mk1_none{K:qA0}{ts:List Addr}{x:Str}(a:qBb K mainGlobals x=some none):Mk1 K ts x none:=
 ⟨by unfold codP;rw[a],by unfold lamK;rw[a];rfl,fun _ z=>by cases z⟩
structure Tb(K:qA0)(ts:List Addr)(r1 r2 r3:Option Addr):Prop where
 m1:Mk1 K ts "turned_at" r1
 m2:Mk1 K ts "exchanged_at" r2
 m3:Mk1 K ts "pivoted" r3
section
variable{K:qA0}{ts:List Addr}{r1 r2 r3:Option Addr}
theorem Tb.eq(T:Tb K ts r1 r2 r3)(P:Addr):tabK K P=if(r1==some P&&r1.isSome)=true then some (.lam (lamQ "turned_at"))else if(r2==some P&&r2.isSome)=true then some (.lam (lamQ "exchanged_at"))else if(r3==some P&&r3.isSome)=true then some (.lam (lamQ "pivoted"))else none:=by
 unfold tabK makers;simp only[List.find?,T.m1.cod,T.m1.lam,T.m2.cod,T.m2.lam,T.m3.cod,T.m3.lam]
 split
 ·rename_i h;rw[if_pos h];rfl
 ·rename_i h
  rw[if_neg (by rw[h];simp)]
  split
  ·rename_i h;rw[if_pos h];rfl
  ·rename_i h
   rw[if_neg (by rw[h];simp)]
   split
   ·rename_i h;rw[if_pos h];rfl
   ·rename_i h;rw[if_neg (by rw[h];simp)];rfl
theorem Tb.tabs(T:Tb K ts r1 r2 r3)(no:∀P∈ts,K.lookup P=none):Tabs K ts:=⟨no,fun x hx P h _=>by
 unfold makers at hx;simp only[qAk,qB0,or_false]at hx
 rcases hx with rfl|rfl|rfl
 ·exact T.m1.hd P (T.m1.cod.symm.trans h)
 ·exact T.m2.hd P (T.m2.cod.symm.trans h)
 ·exact T.m3.hd P (T.m3.cod.symm.trans h)⟩
end
def TbE(K:qA0)(ts:List Addr):Prop:=∃r1 r2 r3,Tb K ts r1 r2 r3
theorem zUU{K:qA0}{c P:Addr}{d:Option Addr}{vs:Array Value}{s:Array (Option Value)}(lc:K.lookup c=some ⟨.type "code",d,.fields vs,s⟩)(h:qAu [(c,⟨.type "code",d,.fields vs,s⟩)] c P=true):qAu K c P=true:=by
 unfold qAu at h ⊢;rw[lc]
 simpa using h
structure MkS(K:qA0)(mg:Str->Option Value)(ts:List Addr)(x:Str)(st:Stmt)(P:Addr):Prop where
 ex:∃f fd c,Fun K x x st f fd/\mg x=some (.ref f)/\fd.code=.ref c/\qAu K c P=true
 lam:lamK K x=zKQ (zAR st)
 mk1:Mk1 K ts x (some P)
theorem mkS{K:qA0}{h:Heap}{mg:Str->Option Value}{ts:List Addr}{nm:Str}{st:Stmt}{f c P:Addr}{oc kV dc pm ct:Value}{od an d:Option Addr}{sl s:Array (Option Value)}{vs:Array Value}(X:K.In h)(G:h.Ns mainGlobals mg)(a:qBb K mainGlobals nm=some (some (.ref f)))
  (l:K.lookup f=some ⟨oc,od,.func (qAw nm nm (zBL st) (zAR st) (zA5 st) .none kV dc pm an (.ref c) ct),sl⟩) (e:qBu K (.ref c) nm=true) (k:qAp K (.ref f)=true)
  (lc:K.lookup c=some ⟨.type "code",d,.fields vs,s⟩) (h11:vs[11]?=some (.ref P)) (hh:qAu [(c,⟨.type "code",d,.fields vs,s⟩)] c P=true) (hl:(zKQ (zAR st)).isSome=true) (hP:P∈ts):MkS K mg ts nm st P:=by
 have hC:=zUU lc hh;have hlam:lamK K nm=zKQ (zAR st):=by unfold lamK;rw[a];dsimp only;rw[l]
 refine⟨⟨f,_,c,zMC (st:=st) l e k,qC6 X G a,rfl,hC⟩,hlam,⟨?_,by rw[hlam,hl];rfl,fun P' z=>by cases z;exact⟨hP,c,hC⟩⟩⟩;unfold codP;rw[a];dsimp only;rw[l];dsimp only;rw[lc];dsimp only;rw[h11]
theorem with1{K:qA0}{mg:Str->Option Value}{ts:List Addr}{x:Str}{st:Stmt}{P:Addr}{C:Prop}(M:MkS K mg ts x st P)(r:MkS K mg ts x st P->TbE K ts/\C):TbE K ts/\C:=r M
def MkrE(K:qA0)(mg:Str->Option Value)(x:Str)(st:Stmt):Prop:=∃P,Mkr K mg x st P
theorem MkS.mkr{K:qA0}{mg:Str->Option Value}{ts:List Addr}{x:Str}{st:Stmt}{P:Addr}(S:MkS K mg ts x st P)(h:tabK K P=some (.lam (lamQ x))):MkrE K mg x st:=⟨P,S.ex,S.lam,h⟩
theorem zUQ{K:Params->qA0}{as ts:List Addr}(e:∀P,as=(K P).map (·.1))(h:∀P∈ts,P∉as)(q:Params):∀P∈ts,(K q).lookup P=none:=fun P hP=>by
 rw[qD2];intro p hp
 have:p.1∈as:=by rw[e q];exact qDs hp
 have ne:P≠p.1:=fun z=>h P hP (z▸this)
 simpa using ne
theorem walk_ofM{l:qCn}{n k:Nat}{q:Program}{loose:List Str}{XP:(Str->Option Value)->Heap->Prop}{d:DefRec}{K:Params->qA0}{x:Str}{as ts:List Addr}{e:∀P,as=(K P).map (·.1)}
  (hn:l.most=some n) (h63:n<=63) (hdf:d.params.defaults=[]) (hr:Room k callerA) (hts:∀P∈ts,P∉as)
  (F:∀(w:World)(mg:Str->Option Value)(fa:Addr)(h:Heap),(K w.params).In h->h.Ns mainGlobals mg->mg d.name=some (.ref fa) ->
   TbE (K w.params) ts/\∃fd:FuncData,(∀(s:Shared)(u:Value),BindsTo s fd ⟨[u],[]⟩ [(x,u)]) /\
    ∀base:Heap,(K w.params).In base->base.Ns mainGlobals mg->FnOk l.prog w (K w.params) mg base CX0 k fa fd [x] (zG5 (K w.params))) :
  qE3 q loose XP (qF7 K as e ts).says l.row.toRowW d [] (fun f vs=>qEb f vs):=
 zN1 (K:=K) (ts:=ts) (CX:=fun _=>CX0) (sp:=fun w=>zG5 (K w.params)) hn (qAh h63 (by decide)) hdf hr (fun w h Y=>⟨PySem.W.km_in_of Y,PySem.W.km_tabs_of Y⟩)
  (fun w mg fa h KX G hm=>let⟨⟨_,_,_,T⟩,r⟩:=F w mg fa h KX G hm;⟨T.tabs (zUQ e hts w.params),r⟩)
  (fun _ _ a ns hl hw hT hS=>⟨a,ns,rfl,hT,hS,qAh hl h63,hw,fun _ z=>⟨rfl,z⟩⟩) fun _ _ _ _ _ z=>z
theorem pcf{X:Cx}(i:Nat){x:Str}{p pos:Pos}{e:Expr}{es:List Expr}{t:TA}{r:Addr->List V->Hp->VK->Prop}(hL:LamR X r)(ha:PA X (e::es) t)(hN:X.N[i]?=some x:=by rfl)(hv:Vis X.env.scope x:=by first|exact qEo rfl|exact qDw (qEo rfl)|exact qDw (qDw rfl))
  (hd:(x==("__debug__":Str))=false:=by decide) (hcd:(x==("__classdict__":Str))=false:=by decide)
  (he:starEach (e::es) X.env=(false,eval e X.env)::starEach es X.env:=by rfl) (hpl:(backTo pos (starEach es X.env)).any (·.1)=false:=by rfl) :
  PE X (.Call (.Name x p) (e::es) [] pos) (zL7 i r t):=zNP hL hN hv ha hd hcd he hpl
theorem zK8[Kc]{mg mg':Str->Option Value}{E:XK}{n:Nat}{f:Mi.FM}{te:TE}{e:Mi.EM}{x:Str}{st:Stmt}{ps:Arguments}{b:Expr}{sc:Scope}{nm:Str}{P cl:Addr}{i:Nat}(D:Mkr Kc.K mg' x st P)(A:DE mg E te e 0)(h:zKQ (zAR st)=some (ps,b,sc,nm):=by rfl) :
  DE mg E (zJT (sp0 Kc.K mg n f) cl i (zDH te (zDH (tLam P (lamQ x) ps b sc [(nm,cl)]) tNil))) (Mi.eCallL f e x i) n:=zOC (L:=(ps,b,sc,nm)) (D.lam.trans h) D.tab A
end L3
namespace Mi
def sClr(i:Nat):SM:=fun ρ=>match ρ[i]? with
 |some (some (.lst _,k+1))=>okR (.nx (ρ.set i (some (.lst [],k+1))))
 |_=>none
end Mi
namespace L3
open PySem PySem.Spec
open L2 hiding Rep RepL
open Mi (Dt okR)
variable[Kc]{mg:Str->Option Value}{E:XK}{L:Nat}
theorem zTG(i:Nat):DS mg E L (zHL (tML clrM (vM i) tNil)) (Mi.sClr i):=by
 intro G0 H0 S0 σ ρ G H As D a p;unfold Mi.sClr at p
 split at p
 ·rename_i ds k e1
  obtain⟨v,h1,q,xs,T,rfl,hq,kd⟩:=a.at i _ _ e1;unfold zHL tML vM tNil;rw[h1];refine⟨xs,hq,xs,hq,?_⟩;exact p _ G _ _ (a.store (o:=.lst []) (n:=k+1) (d:=.lst []) (S:=As i) kd.top h1 ⟨q,[],fun _ _=>False,rfl,zAH,⟨rfl,fun r d x z=>by simp at z,kd.top,fun _ z=>z,fun _ _ _ z=>z.elim,fun _ _ z=>z.elim⟩⟩ fun b z=>.inl z)
 ·exact p.elim
end L3
namespace Mi
noncomputable def inLD(ng:Bool)(x y:Dt):Option Dt:=match y with
 |.lst ys=>if x.dep<=40/\Dt.depL ys<=40 then some (.bl (if ng=true then !(ys.any fun e=>Dt.eq e x)else ys.any fun e=>Dt.eq e x))else none
 |_=>none
end Mi
namespace L2
open PySem PySem.Spec PyProof.Rows
section
variable{X:Cx}
noncomputable def zRR:R2:=fun x y H Q=>∃p xs d ds,y=.ref p/\H p=some (.lst xs)/\Rep H d x/\RepL H ds xs/\(∀e∈ds,e.dep<=40)/\Q (.bl (!(ds.any fun e=>Dat.eq e d))) H
theorem zJ4{H:Hp}:∀{ds:List Dat}{xs:List V}{k:Nat}{x:V},RepL H ds xs->xs[k]?=some x->∃e,ds[k]?=some e/\Rep H e x
 |[],_,_,_,h,e=>by cases h;simp at e
 |d::r,_,0,x,h,e=>by obtain⟨y,q,rfl,a,b⟩:=h;simp at e;subst e;exact⟨d,rfl,a⟩
 |d::r,_,k+1,x,h,e=>by obtain⟨y,q,rfl,a,b⟩:=h;simpa using zJ4 (k:=k) b (by simpa using e)
theorem zLA{H:Hp}:∀{ds:List Dat}{xs:List V}{k:Nat}{e:Dat},RepL H ds xs->ds[k]?=some e->∃x,xs[k]?=some x/\Rep H e x
 |[],_,_,_,h,e=>by simp at e
 |d::r,_,0,_,h,e=>by obtain⟨y,q,rfl,a,b⟩:=h;simp at e;subst e;exact⟨y,rfl,a⟩
 |d::r,_,k+1,_,h,e=>by obtain⟨y,q,rfl,a,b⟩:=h;simpa using zLA (k:=k) b (by simpa using e)
theorem Vals.ix:∀{xs:List V}{us:List Value}{i:Nat}{u:Value},Vals xs us->us[i]?=some u->∃x,xs[i]?=some x/\RelV x u
 |_,_,_,_,.nil,e=>by simp at e
 |_,_,0,_,.cons r _,e=>by simp at e;subst e;exact⟨_,rfl,r⟩
 |_,_,i+1,_,.cons _ t,e=>by simpa using Vals.ix (i:=i) t (by simpa using e)
open Classical in
theorem zN4(hu:X.A.units+64<cLine):OpR X (compareOp .NotIn) zRR:=by
 intro pins s σ H x y v u Q I rx ry h;obtain⟨p,xs,d,ds,rfl,hq,hd,hds,hz,q⟩:=h;cases ry;obtain⟨its,r,pl,_⟩:=I.list (SqL.of hq);have at':∀k e w,ds[k]?=some e->its[k]?=some w->SeqAt.EqAt X.A.in1 s w v (Dat.eq e d):=fun k e w h1 h2=>by
  obtain⟨z,hz1,rz⟩:=r.ix h2;obtain⟨e',h3,re⟩:=zJ4 hds hz1;rw[h1]at h3;cases h3;exact zK5 40 (hz _ (qAq h1)) I.hok re hd rz rx (by show X.A.units+1+40<_;lia)
 have ix:∀k w,its[k]?=some w->∃e,ds[k]?=some e:=fun k w h2=>by
  obtain⟨z,hz1,rz⟩:=r.ix h2;obtain⟨e',h3,_⟩:=zJ4 hds hz1;exact⟨e',h3⟩
 have xi:∀k e,ds[k]?=some e->∃w,its[k]?=some w:=fun k e h1=>by
  obtain⟨z,hz1,_⟩:=zLA hds h1;obtain⟨w,h2,_⟩:=r.get hz1;exact⟨w,h2⟩
 refine SeqAt.notIn_listAt (fun w=>decide (∃(k:Nat)(e:Dat),its[k]?=some w/\ds[k]?=some e/\Dat.eq e d=true)) pl.isList (fun w hw=>?_) ⟨.bl _,H,I,rfl,?_⟩
 ·by_cases c:∃(k:Nat)(e:Dat),its[k]?=some w/\ds[k]?=some e/\Dat.eq e d=true
  ·obtain⟨k,e,h1,h2,h3⟩:=id c;rw[decide_eq_true c,<- h3];exact at' k e w h2 h1
  ·rw[decide_eq_false c];obtain⟨k,hk,e1⟩:=qB8.mp (show w∈its by simpa using hw);have h1:its[k]?=some w:=by rw[qAe hk,e1]
   obtain⟨e,h2⟩:=ix k w h1;have h3:Dat.eq e d=false:=by
    cases z:Dat.eq e d with
    |false=>rfl
    |true=>exact absurd ⟨k,e,h1,h2,z⟩ c
   rw[<- h3];exact at' k e w h2 h1
 ·have e:its.toArray.any (fun w=>decide (∃(k:Nat)(e:Dat),its[k]?=some w/\ds[k]?=some e/\Dat.eq e d=true))=ds.any fun e=>Dat.eq e d:=by
   rw[show its.toArray.any (fun w=>decide (∃(k:Nat)(e:Dat),its[k]?=some w/\ds[k]?=some e/\Dat.eq e d=true))=its.any (fun w=>decide (∃(k:Nat)(e:Dat),its[k]?=some w/\ds[k]?=some e/\Dat.eq e d=true)) by simp];rw[qC1,qD6,qD6];constructor
   ·rintro⟨w,hw,c⟩
    obtain⟨k,e,_,h2,h3⟩:=of_decide_eq_true c;exact⟨e,qAq h2,h3⟩
   ·rintro⟨e,he,h3⟩
    obtain⟨k,hk,e1⟩:=qB8.mp he;have h2:ds[k]?=some e:=by rw[qAe hk,e1]
    obtain⟨w,h1⟩:=xi k e h2;exact⟨w,qAq h1,decide_eq_true ⟨k,e,h1,h2,h3⟩⟩
  rw[e];exact q
end
end L2
namespace L3
open PySem PySem.Spec
open L2 hiding Rep RepL
open Mi (Dt okR)
variable[Kc]{n:Nat}
theorem zII{d:Dt}(hd:d.dep<=40):∀{ys:List Dt},Dt.depL ys<=40->(convL ys).any (fun e=>Dat.eq e (conv d))=ys.any fun e=>Dt.eq e d
 |[],_=>rfl
 |y::r,h=>by
  rw[Dt.depL]at h;rw[convL,qBt,qBt,zH6 (by lia) hd,zII hd (by lia)]
theorem zIH:∀{ys:List Dt},Dt.depL ys<=40->∀e∈convL ys,e.dep<=40
 |[],_,e,h=>by rw[convL]at h;cases h
 |y::r,h,e,he=>by
  rw[Dt.depL]at h;rw[convL]at he
  rcases qAk.mp he with rfl|he
  ·have:=zD5 (d:=y) (by lia);lia
  ·exact zIH (ys:=r) (by lia) e he
theorem zPQ:ROp zRR (Mi.inLD true) n:=by
 intro mg E G H d e x y Q s h1 h2 p;cases e with
 |lst ys=>
  obtain⟨a,vs,rfl,ha,r⟩:=h2;unfold Mi.inLD at p;dsimp only at p
  by_cases hz:d.dep<=40/\Dt.depL ys<=40
  ·rw[if_pos hz]at p;refine⟨a,vs,conv d,convL ys,rfl,s _ _ ha,zCP hz.1 (Rep.mono s h1),conv_repL hz.2 (RepL.mono s r),zIH hz.2,?_⟩;rw[zII hz.1 hz.2];exact PostE.val p (Ext.refl s) rfl rfl
  ·rw[if_neg hz]at p;exact p.elim
 |_=>exact p.elim
end L3
namespace Mp
noncomputable section
open Mi PySem
def zER:SM:=(sRet 0 0 [0] (eAnd (eIsi "int" (eV 0)) (eNot (eIsi "bool" (eV 0)))))
def zC7:FM:=runF 1 1 zER
def zES:SM:=(sSeq (sSet 2 9 [] (eLst aNil))
 (sSeq (sForR (iR1 (aCons (eBi maxD (aCons (eV 1) (aCons (eBi minD (aCons (eC (.int 63)) (aCons (eBi lenD (aCons (eV 0) aNil)) aNil))) aNil))) aNil)) 3 (sSeq (sSet 4 0 [] (eC (.int 0)))
 (sSeq (sIf (tB (eB (cmpD fun i j=>decide (i<j)) (eV 3) (eBi lenD (aCons (eV 0) aNil)))) (sSet 4 0 [0,3] (eB modD (eB ixD (eV 0) (eV 3)) (eC (.int 1000003)))) sNil)
 (sSeq (sSet 5 0 [4,3] (eB modD (eB mulD (eB modD (eB addD (eB mulD (eB addD (eV 4) (eC (.int 1))) (eC (.int 48271))) (eB mulD (eB mulD (eV 3) (eV 3)) (eC (.int 7919)))) (eC (.int 1000000007))) (eC (.int 40692))) (eC (.int 2147483399))))
 (sApp 2 1 (eB addD (eB mulD (eV 5) (eC (.int 2147483647))) (eB modD (eB addD (eB mulD (eV 5) (eC (.int 69621))) (eV 3)) (eC (.int 2147483647)))))))))
 (sRetV 9 2)))
def zBV:FM:=runF 2 6 zES
def zIU:SM:=(sRet 1 1 [0] (eComp (iR1 (aCons (eBi lenD (aCons (eV 0) aNil)) aNil)) 1 (.one 1) (tB (eB eqD (eB ixD (eV 0) (eV 1)) (eC (.int 1)))) (eV 1)))
def zCY:FM:=runF 1 1 zIU
def zFZ:SM:=(sRet 2 2 [1,0] (eComp (iSq (eV 1)) 1 (.one 2) Mi.tYes (eComp (iSq (eV 1)) 1 (.one 3) Mi.tYes (eB ixD (eB ixD (eV 0) (eV 2)) (eV 3)))))
def zBR:FM:=runF 2 2 zFZ
def zG3:SM:=(sSeq (sSet 3 2 [1] (eComp (iR1 (aCons (eV 1) aNil)) 1 (.one 7) Mi.tYes (eB repD (eLst (aCons (eC (.int 0)) aNil)) (eV 1))))
 (sSeq (sForR (iR1 (aCons (eV 1) aNil)) 4 (sForR (iR1 (aCons (eB addD (eV 4) (eC (.int 1))) aNil)) 5 (sSeq (sSet 6 0 [0,5,4,1] (eB ixD (eV 0) (eB modD (eB addD (eB mulD (eV 4) (eV 1)) (eV 5)) (eBi lenD (aCons (eV 0) aNil)))))
 (sSeq (sSet 6 0 [6,5,4] (eB modD (eB divD (eV 6) (eB addD (eB addD (eC (.int 1)) (eB mulD (eC (.int 7)) (eV 4))) (eB mulD (eC (.int 61)) (eV 5)))) (eC (.int 2))))
 (sIf (Mi.tOr (tB (eB neD (eV 4) (eV 5))) (tM (eV 2))) (sSeq (sItem2 3 0 (eV 4) (eV 5) (eV 6))
 (sItem2 3 0 (eV 5) (eV 4) (eV 6))) sNil)))))
 (sRetV 2 3)))
def zCB:FM:=runF 3 7 zG3
def zHD:SM:=(sSeq (sSet 2 0 [0,1] (eB ixD (eLst (aCons (eTup (aCons (eC (.int 1)) (aCons (eC (.int 0)) (aCons (eC (.int 3)) (aCons (eC (.int 2)) aNil))))) (aCons (eTup (aCons (eC (.int 2)) (aCons (eC (.int 3)) (aCons (eC (.int 0)) (aCons (eC (.int 1)) aNil))))) (aCons (eTup (aCons (eC (.int 3)) (aCons (eC (.int 2)) (aCons (eC (.int 1)) (aCons (eC (.int 0)) aNil))))) aNil)))) (eB ixD (eV 0) (eB divD (eV 1) (eC (.int 4))))))
 (sRet 1 1 [1,2] (eB addD (eB subD (eV 1) (eB modD (eV 1) (eC (.int 4)))) (eB ixD (eV 2) (eB modD (eV 1) (eC (.int 4)))))))
def zH0:FM:=runF 2 3 zHD
def zIX:SM:=(sSeq (sSet 3 9 [] (eLst aNil))
 (sSeq (sSet 4 0 [2] (eV 2))
 (sSeq (zOP (Mi.tOr (tB (eB eqD (eV 3) (eLst aNil))) (tB (eB neD (eV 4) (eV 2)))) (sSeq (sApp 3 0 (eV 4))
 (sSeq (sApp 3 1 (eCall zH0 (aCons (eV 1) (aCons (eV 4) aNil))))
 (sSet 4 0 [0,3] (eB ixD (eV 0) (eB ixD (eV 3) (eU negD (eC (.int 1)))))))))
 (sRetV 9 3))))
def zI5:FM:=runF 3 5 zIX
def zHB:SM:=(sSeq (sSet 2 1 [] zTD)
 (sSeq (sSet 3 9 [] (eLst aNil))
 (sSeq (sForR (iR1 (aCons (eBi lenD (aCons (eV 0) aNil)) aNil)) 4 (sIf (tB (eB (dinD true) (eV 4) (eV 2))) (sSeq (sSet 5 9 [0,1,4] (eCall zI5 (aCons (eV 0) (aCons (eV 1) (aCons (eV 4) aNil)))))
 (sSeq (sFor [5] (iSq (eV 5)) (.one 6) (zUC 2 (eV 6) (eC (.bl true))))
 (zRG 3 [5] (eV 5)))) sNil))
 (sRetV 1 3))))
def zGZ:FM:=runF 2 7 zHB
def zOJ:SM:=(sRet 0 0 [1,0] (eB xorD (eV 1) (eB addD (eV 0) (eC (.int 1)))))
def zNW:FM:=runF 2 2 zOJ
def zIV:SM:=(sSeq (sSet 2 0 [1] (eB divD (eV 1) (eC (.int 4))))
 (sRet 1 1 [2,0,1] (eB addD (eB mulD (eV 2) (eC (.int 4))) (eCall zNW (aCons (eB ixD (eV 0) (eV 2)) (aCons (eB modD (eV 1) (eC (.int 4))) aNil))))))
def zEN:FM:=runF 2 3 zIV
def zKX:SM:=(sSeq (sSet 3 1 [2,1] (eLst (aCons (eV 2) (aCons (eCall zEN (aCons (eV 1) (aCons (eV 2) aNil))) aNil))))
 (sSeq (zOP (tB (eB neD (eB ixD (eV 0) (eB ixD (eV 3) (eU negD (eC (.int 1))))) (eV 2))) (sSeq (sSet 4 0 [0,3] (eB ixD (eV 0) (eB ixD (eV 3) (eU negD (eC (.int 1))))))
 (sExt 3 0 (eLst (aCons (eV 4) (aCons (eCall zEN (aCons (eV 1) (aCons (eV 4) aNil))) aNil))))))
 (sRetV 1 3)))
def zGB:FM:=runF 3 5 zKX
def zJM:SM:=(sSeq (sSet 2 9 [] (eLst aNil))
 (sSeq (sSet 3 1 [] zTD)
 (sSeq (sForR (iR1 (aCons (eBi lenD (aCons (eV 0) aNil)) aNil)) 4 (sIf (tB (eB (dinD true) (eV 4) (eV 3))) (sSeq (sSet 5 1 [0,1,4] (eCall zGB (aCons (eV 0) (aCons (eV 1) (aCons (eV 4) aNil)))))
 (sSeq (zRG 2 [5] (eV 5))
 (zUA 3 (eComp (iSq (eV 5)) 1 (.one 6) Mi.tYes (eTup (aCons (eV 6) (aCons (eC (.bl true)) aNil))))))) sNil))
 (sRetV 1 2))))
def zJC:FM:=runF 2 6 zJM
def zMU:SM:=(sRet 1 1 [1,0] (eComp (iSq (eCall zCY (aCons (eB ixD (eV 0) (eV 1)) aNil))) 1 (.one 2) (tB (eB neD (eV 2) (eV 1))) (eV 2)))
def zFJ:FM:=runF 2 2 zMU
def zAO:FM:=lamF 3 (eAnd (eB (inD false) (eC (.int 1)) (eB ixD (eV 2) (eV 0))) (eAnd (eB (inD false) (eC (.int 1)) (eB ixD (eV 2) (eV 1))) (eB neD (eB ixD (eV 2) (eV 0)) (eB ixD (eV 2) (eV 1)))))
def zB1:FM:=lamF 3 (eAnd (eB (inD false) (eV 0) (eV 2)) (eB (inD false) (eV 1) (eV 2)))
def zE5:SM:=(sSeq (sSet 2 0 [0] (eBi lenD (aCons (eV 0) aNil)))
 (sRet 2 2 [2,0,1] (eComp (iR1 (aCons (eV 2) aNil)) 1 (.one 3) Mi.tYes (eComp (iR1 (aCons (eV 2) aNil)) 1 (.one 4) Mi.tYes (eB xorD (eB ixD (eB ixD (eV 0) (eV 3)) (eV 4)) (eIf (tM (eCallF [("exchanged_at",zAO),("pivoted",zB1)] 1 (aCons (eV 3) (aCons (eV 4) aNil)))) (eC (.int 1)) (eC (.int 0))))))))
def zB6:FM:=runF 2 3 zE5
def zG2:SM:=(sSeq (sSet 3 2 [0,1,2] (eComp (iR1 (aCons (eBi lenD (aCons (eV 0) aNil)) aNil)) 1 (.one 6) Mi.tYes (eTup (aCons (eB ixD (eB ixD (eV 0) (eV 1)) (eV 6)) (aCons (eB ixD (eB ixD (eV 0) (eV 2)) (eV 6)) aNil)))))
 (sSeq (sItem 3 1 (eV 1) (eTup (aCons (eC (.int 0)) (aCons (eC (.int 0)) aNil))))
 (sSeq (sItem 3 1 (eV 2) (eTup (aCons (eC (.int 0)) (aCons (eC (.int 0)) aNil))))
 (sSeq (sSet 4 2 [0,3] (eCallL zB6 (eV 0) "exchanged_at" 3))
 (sSeq (sSet 5 1 [0] (eBi rangeD (aCons (eBi lenD (aCons (eV 0) aNil)) aNil)))
 (sSeq (sItem 5 0 (eV 1) (eV 2))
 (sSeq (sItem 5 0 (eV 2) (eV 1))
 (sRet 2 2 [4,5] (eCall zBR (aCons (eV 4) (aCons (eV 5) aNil)))))))))))
def zBS:FM:=runF 3 6 zG2
def zIW:SM:=(sRet 0 0 [1,0] (eAnd (eCall zC7 (aCons (eV 1) aNil)) (eChain (cmpD fun i j=>decide (i<=j)) (cmpD fun i j=>decide (i<j)) (eC (.int 0)) (eV 1) (eBi lenD (aCons (eV 0) aNil)))))
def zC6:FM:=runF 2 2 zIW
def zMT:SM:=(sSeq (sIf (tNo (tM (eBi allD (aCons (eComp (iSq (eV 1)) 1 (.one 3) Mi.tYes (eCallN zC6 (aCons (eV 0) (aCons (eV 3) aNil)))) aNil)))) (sRaise0 "NoPivot" (aCons (eC (.str "the table lacks one of the numbers")) aNil)) sNil)
 (sSeq (sIf (tAn (tB (eB eqD (eBi lenD (aCons (eV 1) aNil)) (eC (.int 1)))) (tB (eB eqD (eB ixD (eB ixD (eV 0) (eB ixD (eV 1) (eC (.int 0)))) (eB ixD (eV 1) (eC (.int 0)))) (eC (.int 1))))) (sSeq (sSet 2 1 [0,1] (eCallN zFJ (aCons (eV 0) (aCons (eB ixD (eV 1) (eC (.int 0))) aNil))))
 (sRet 2 2 [0,2] (eCallL zB6 (eV 0) "pivoted" 2))) sNil)
 (sSeq (sIf (tB (eB eqD (eCallN zBR (aCons (eV 0) (aCons (eV 1) aNil))) (eLst (aCons (eLst (aCons (eC (.int 0)) (aCons (eC (.int 1)) aNil))) (aCons (eLst (aCons (eC (.int 1)) (aCons (eC (.int 0)) aNil))) aNil))))) (sRet 2 2 [0,1] (eCallN zBS (aCons (eV 0) (aCons (eB ixD (eV 1) (eC (.int 0))) (aCons (eB ixD (eV 1) (eC (.int 1))) aNil))))) sNil)
 (sRaise0 "NoPivot" (aCons (eC (.str "no pivot at these numbers")) aNil)))))
def zB3:FM:=runF 2 3 zMT
def zHC:SM:=(sSeq (sSet 2 2 [0] (eComp (iSq (eV 0)) 1 (.one 5) Mi.tYes (eBi listD (aCons (eV 5) aNil))))
 (sSeq (sForR (iR1 (aCons (eBi lenD (aCons (eV 0) aNil)) aNil)) 3 (sForR (iR1 (aCons (eBi lenD (aCons (eV 0) aNil)) aNil)) 4 (sIf (tAn (tB (eB (inD true) (eV 1) (eTup (aCons (eV 3) (aCons (eV 4) aNil))))) (tAn (tB (eB eqD (eB ixD (eB ixD (eV 0) (eV 3)) (eV 1)) (eC (.int 1)))) (tB (eB eqD (eB ixD (eB ixD (eV 0) (eV 1)) (eV 4)) (eC (.int 1)))))) (sItem2 2 0 (eV 3) (eV 4) (eB subD (eC (.int 1)) (eB ixD (eB ixD (eV 0) (eV 3)) (eV 4)))) sNil)))
 (sRetV 2 2)))
def zCL:FM:=runF 2 5 zHC
def zHA:SM:=(sSeq (sSet 3 2 [0] (eComp (iSq (eV 0)) 1 (.one 8) Mi.tYes (eBi listD (aCons (eV 8) aNil))))
 (sSeq (sSet 4 1 [0,1,2] (eComp (iR1 (aCons (eBi lenD (aCons (eV 0) aNil)) aNil)) 1 (.one 8) (tB (eB (inD true) (eV 8) (eTup (aCons (eV 1) (aCons (eV 2) aNil))))) (eV 8)))
 (sSeq (sFor [4] (iSq (eV 4)) (.one 5) (sSeq (sItem2 3 0 (eV 1) (eV 5) (eB ixD (eB ixD (eV 0) (eV 2)) (eV 5)))
 (sSeq (sItem2 3 0 (eV 5) (eV 1) (eB ixD (eB ixD (eV 0) (eV 2)) (eV 5)))
 (sSeq (sItem2 3 0 (eV 2) (eV 5) (eB ixD (eB ixD (eV 0) (eV 1)) (eV 5)))
 (sSeq (sItem2 3 0 (eV 5) (eV 2) (eB ixD (eB ixD (eV 0) (eV 1)) (eV 5)))
 (sFor [4] (iSq (eV 4)) (.one 6) (sSeq (sSet 7 2 [1,2,0,5,6] (eLst (aCons (eTup (aCons (eB ixD (eB ixD (eV 0) (eV 5)) (eV 1)) (aCons (eB ixD (eB ixD (eV 0) (eV 5)) (eV 2)) aNil))) (aCons (eTup (aCons (eB ixD (eB ixD (eV 0) (eV 6)) (eV 1)) (aCons (eB ixD (eB ixD (eV 0) (eV 6)) (eV 2)) aNil))) aNil))))
 (sIf (tAn (tB (eB neD (eV 5) (eV 6))) (tAn (tB (eB (inLD true) (eTup (aCons (eC (.int 0)) (aCons (eC (.int 0)) aNil))) (eV 7))) (tB (eB neD (eB ixD (eV 7) (eC (.int 0))) (eB ixD (eV 7) (eC (.int 1))))))) (sItem2 3 0 (eV 5) (eV 6) (eB subD (eC (.int 1)) (eB ixD (eB ixD (eV 0) (eV 5)) (eV 6)))) sNil))))))))
 (sRetV 2 3))))
def zCK:FM:=runF 3 8 zHA
def zHE:SM:=(sSeq (sIf (tAn (tB (eB eqD (eBi lenD (aCons (eV 1) aNil)) (eC (.int 1)))) (tAn (tB (eChain (cmpD fun i j=>decide (i<=j)) (cmpD fun i j=>decide (i<j)) (eC (.int 0)) (eB ixD (eV 1) (eC (.int 0))) (eBi lenD (aCons (eV 0) aNil)))) (tB (eB eqD (eB ixD (eB ixD (eV 0) (eB ixD (eV 1) (eC (.int 0)))) (eB ixD (eV 1) (eC (.int 0)))) (eC (.int 1)))))) (sRet 2 2 [0,1] (eCall zCL (aCons (eV 0) (aCons (eB ixD (eV 1) (eC (.int 0))) aNil)))) sNil)
 (sSeq (sIf (Mi.tOr (tB (eB neD (eBi lenD (aCons (eV 1) aNil)) (eC (.int 2)))) (Mi.tOr (tB (eB eqD (eB ixD (eV 1) (eC (.int 0))) (eB ixD (eV 1) (eC (.int 1))))) (Mi.tOr (tB (eB (cmpD fun i j=>decide (i<j)) (eBi minL (aCons (eV 1) aNil)) (eC (.int 0)))) (tB (eB (cmpD fun i j=>decide (j<=i)) (eBi maxL (aCons (eV 1) aNil)) (eBi lenD (aCons (eV 0) aNil))))))) (sRet 2 2 [] (eC .non)) sNil)
 (sSeq (sUnpL [2,3] [1] (eV 1))
 (sSeq (sIf (tAn (tB (eB eqD (eB ixD (eB ixD (eV 0) (eV 2)) (eV 3)) (eC (.int 1)))) (tAn (tB (eB eqD (eB ixD (eB ixD (eV 0) (eV 2)) (eV 2)) (eC (.int 0)))) (tB (eB eqD (eB ixD (eB ixD (eV 0) (eV 3)) (eV 3)) (eC (.int 0)))))) (sRet 2 2 [0,2,3] (eCall zCK (aCons (eV 0) (aCons (eV 2) (aCons (eV 3) aNil))))) sNil)
 (sRet 2 2 [] (eC .non))))))
def zCM:FM:=runF 2 4 zHE
def zEH:SM:=(sSeq (sSet 2 9 [] (eLst aNil))
 (sSeq (sTry [0,1] none (eCall zB3 (aCons (eV 0) (aCons (eV 1) aNil))) ["RoundError","NoCross","NoPivot"] 3 (sSet 2 1 [3] (eLst (aCons (eIsX ["NoPivot"] ["RoundError","NoCross"] (eV 3)) (aCons (eIsX ["RoundError","NoCross","NoPivot"] [] (eV 3)) (aCons (eIsX ["NoCross"] ["RoundError","NoPivot"] (eV 3)) aNil))))))
 (sRet 0 0 [2] (eB eqD (eV 2) (eLst (aCons (eC (.bl true)) (aCons (eC (.bl true)) (aCons (eC (.bl false)) aNil))))))))
def zBQ:FM:=runF 2 4 zEH
def zFX:SM:=(sSeq (sIf (Mi.tOr (tNo (tM (eIsi "list" (eV 0)))) (tB (eB neD (eBi lenD (aCons (eV 0) aNil)) (eBi lenD (aCons (eV 1) aNil))))) (sRet 0 0 [] (eC (.bl false))) sNil)
 (sSeq (sFor [0,1] (iZi (aCons (eV 0) (aCons (eV 1) aNil))) (.tup [2,3]) (sSeq (sIf (Mi.tOr (tNo (tM (eIsi "list" (eV 2)))) (tB (eB neD (eBi lenD (aCons (eV 2) aNil)) (eBi lenD (aCons (eV 3) aNil))))) (sRet 0 0 [] (eC (.bl false))) sNil)
 (sFor [2] (iSq (eV 2)) (.one 4) (sIf (Mi.tOr (tNo (tM (eIsi "int" (eV 4)))) (tM (eIsi "bool" (eV 4)))) (sRet 0 0 [] (eC (.bl false))) sNil))))
 (sRet 0 0 [0,1] (eB eqD (eV 0) (eV 1)))))
def zBK:FM:=runF 2 5 zFX
def zFY:SM:=(sSeq (sSet 2 2 [0,1] (eCallN zCM (aCons (eV 0) (aCons (eV 1) aNil))))
 (sSeq (sSet 3 2 [6,0] (eComp (iSq (eV 0)) 1 (.one 7) Mi.tYes (eBi listD (aCons (eV 7) aNil))))
 (sSeq (sSet 4 1 [1] (eBi listD (aCons (eV 1) aNil)))
 (sSeq (sIf (tB (eB isD (eV 2) (eC .non))) (sRet 0 0 [3,1,0,4] (eAnd (eCallN zBQ (aCons (eV 3) (aCons (eV 1) aNil))) (eAnd (eB eqD (eV 3) (eV 0)) (eB eqD (eV 1) (eV 4))))) sNil)
 (sSeq (sSet 5 2 [3,1] (eCall zB3 (aCons (eV 3) (aCons (eV 1) aNil))))
 (sSeq (sIf (Mi.tOr (tNo (tM (eCallN zBK (aCons (eV 5) (aCons (eV 2) aNil))))) (tNo (tM (eCallN zBK (aCons (eCall zB3 (aCons (eV 5) (aCons (eV 1) aNil))) (aCons (eV 0) aNil)))))) (sRet 0 0 [] (eC (.bl false))) sNil)
 (sSeq (sForApp 5 6 2)
 (sSeq (sClr 5)
 (sRet 0 0 [3,0,1,4] (eAnd (eB eqD (eV 3) (eV 0)) (eB eqD (eV 1) (eV 4))))))))))))
def zC3:FM:=runF 2 7 zFY
def zMV:SM:=(sSeq (sSet 1 9 [0] (eCall zBV (aCons (eV 0) (aCons (eC (.int 20)) aNil))))
 (sSeq (sSet 2 0 [1] (eB modD (eB ixD (eV 1) (eC (.int 0))) (eC (.int 9))))
 (sSeq (sSet 3 2 [2,1] (eCall zCB (aCons (eSl (eV 1) (oE (eC (.int 2))) oNo) (aCons (eV 2) (aCons (eB (cmpD fun i j=>decide (j<i)) (eB modD (eB ixD (eV 1) (eC (.int 1))) (eC (.int 4))) (eC (.int 0))) aNil)))))
 (sSeq (sSet 4 0 [1] (eB modD (eB ixD (eV 1) (eC (.int 1))) (eB powD (eC (.int 10)) (eC (.int 30)))))
 (sSeq (sSet 5 1 [2,4] (eLst (aCons (eLst aNil) (aCons (eLst (aCons (eV 2) aNil)) (aCons (eLst (aCons (eU negD (eC (.int 1))) aNil)) (aCons (eLst (aCons (eB addD (eV 4) (eV 2)) aNil)) (aCons (eLst (aCons (eC (.int 0)) (aCons (eV 2) aNil))) (aCons (eLst (aCons (eU negD (eC (.int 1))) (aCons (eC (.int 0)) aNil))) (aCons (eLst (aCons (eC (.int 0)) (aCons (eC (.int 1)) (aCons (eC (.int 2)) aNil)))) (aCons (eLst (aCons (eC (.int 0)) (aCons (eC (.int 1)) (aCons (eC (.int 0)) aNil)))) (aCons (eLst (aCons (eC (.int 0)) (aCons (eB subD (eB subD (eC (.int 0)) (eV 4)) (eC (.int 1))) aNil))) aNil)))))))))))
 (sSeq (sForR (iR1 (aCons (eV 2) aNil)) 6 (sSet 5 1 [5,6,2] (eB addD (eB addD (eV 5) (eLst (aCons (eLst (aCons (eV 6) aNil)) aNil))) (eComp (iR1 (aCons (eV 2) aNil)) 1 (.one 8) Mi.tYes (eLst (aCons (eV 6) (aCons (eV 8) aNil)))))))
 (sSeq (sFor [5] (iSq (eV 5)) (.one 7) (sIf (tNo (tM (eCall zC3 (aCons (eV 3) (aCons (eV 7) aNil))))) (sRet 0 0 [] (eC (.bl false))) sNil))
 (sRet 0 0 [] (eC (.bl true))))))))))
def zI4:FM:=runF 1 8 zMV
end
end Mp
namespace Mp
open Mi PySem
theorem zIA(i:Int):zC7 [.int i]=okR (.bl true):=by
 unfold zC7 zER;simp[isiD,tyD]
end Mp
namespace Mi
open PySem
section
variable(ρ:Rh)(r:Ro)(a:EM)(am:AM)
@[simp] theorem x_tL:tL a ρ=zA3 (a ρ) fun x=>match x with | .bl k=>okR k | .int i=>okR (i != 0) | .non=>okR false | .lst xs=>okR (!xs.isEmpty) | .tup xs=>okR (!xs.isEmpty)|_=>none:=rfl
@[simp] theorem x_eMl(f:List Dt->List Dt->Option Dt):eMl f a am ρ=zA3 (a ρ) fun x=>match x with | .lst xs=>zA3 (am ρ) fun ds=>optR (f xs ds)|_=>none:=rfl
@[simp] theorem x_iRv:iRv am ρ=zA3 (am ρ) fun vs=>match vs with|[.lst xs]=>okR xs.reverse|_=>none:=rfl
@[simp] theorem zU0(i j:Int):xorD (.int i) (.int j)=some (.int (Builtin.bitXor i j)):=rfl
@[simp] theorem v_rep(xs:List Dt)(k:Int):repD (.lst xs) (.int k)=@ite _ ((-4611686018427387904<=k/\k<4611686018427387904)/\xs.length*k.toNat<=100000) (qA1 _) (some (.lst (qA5 k.toNat xs).flatten)) none:=rfl
end
end Mi
namespace Mi
open PySem
@[simp] theorem okR_inj{α:Type}{a b:α}:okR a=okR b↔a=b:=⟨fun h=>by cases h;rfl,fun h=>by rw[h]⟩
@[simp] theorem zHG(vs:List Nat)(it:IM)(tg:Tg)(b:SM)(r:Ro):sFor vs it tg b r=zA3 (it (frz (frzAt vs r))) fun ds=>forGo tg b ds (frzAt vs r):=rfl
@[simp] theorem zF2(it:IM)(i:Nat)(b:SM)(r:Ro):sForR it i b r=zA3 (it (full r)) fun ds=>forGo (.one i) b ds r:=rfl
@[simp] theorem x_iSq(e:EM)(ρ:Rh):iSq e ρ=zA3 (e ρ) fun d=>match d with | .lst xs=>okR xs | .tup xs=>okR xs | .scr ns=>okR (ns.map .int) | .str z=>okR (signsD z)|_=>none:=rfl
@[simp] theorem x_iEn(e:AM)(ρ:Rh):iEn e ρ=zA3 (e ρ) fun vs=>match vs with|[.lst xs]=>okR (zQL 0 xs)|_=>none:=rfl
@[simp] theorem x_iZi(e:AM)(ρ:Rh):iZi e ρ=zA3 (e ρ) fun vs=>match vs with|[.lst xs,.lst ys]=>okR (zipD xs ys)|_=>none:=rfl
theorem zE7{e:AM}{ρ:Rh}{n:Nat}(h:e ρ=okR [.int n])(hn:n<=100000):iR1 e ρ=okR (nums 0 n):=by
 unfold iR1;rw[h,zA0];dsimp only;rw[if_pos (by lia)];simp
theorem zCJ(n:Nat):nums 0 n=(qA9 n).map fun i:Nat=>Dt.int (i:Int):=by
 unfold nums;exact qBl fun i _=>by simp
theorem zKW{α β γ:Type}(x:R α)(f:α->R β)(g:β->R γ):zA3 (zA3 x f) g=zA3 x fun a=>zA3 (f a) g:=by
 cases x with
 |none=>rfl
 |some r=>cases r<;>rfl
def nxR(x:R Out)(P:Ro->Prop):Prop:=match x with
 |some (.ok (.nx r))=>P r
 |_=>False
@[simp] theorem x_nxR(r:Ro)(P:Ro->Prop):nxR (okR (.nx r)) P=P r:=rfl
theorem zDL{x:R Out}{P:Ro->Prop}(h:nxR x P):∃r',x=okR (.nx r')/\P r':=by
 unfold nxR at h
 split at h
 ·exact⟨_,rfl,h⟩
 ·exact h.elim
theorem zDC{x:R Out}{P:Ro->Prop}{r:Ro}(h:x=okR (.nx r))(hp:P r):nxR x P:=by rw[h];exact hp
theorem zQS{β:Type}{j n:Nat}{b:SM}{r:Ro}{K:Out->R β}{X:R β}(Pv:Nat->Ro->Prop)(h:Pv 0 r)(hs:∀k,k<n->∀r,Pv k r->nxR (b (r.set j (some (.int (k:Nat),0)))) (Pv (k+1)))(hK:∀r',Pv n r'->K (.nx r')=X):zA3 (forGo (.one j) b (nums 0 n) r) K=X:=by
 obtain⟨r',h1,h2⟩:=zFS (tg:=.one j) (b:=b) Pv (nums 0 n) 0 r h fun k d r hd hp=>by
  rw[zCJ,qAg]at hd;cases e:(qA9 n)[k]? with
  |none=>rw[e]at hd;cases hd
  |some q=>
   rw[e]at hd;cases hd;obtain⟨h1,h2⟩:=qA2.mp e;rw[qC4]at h2;subst h2;rw[qCd]at hp;obtain⟨r',g1,g2⟩:=zDL (hs k (by simpa using h1) r hp);exact⟨_,r',rfl,g1,by rw[qCd];exact g2⟩
 rw[h1,zA0];exact hK r' (by simpa[nums]using h2)
theorem zNU{i j:Int}(h:-18446744073709551616<i)(h':i<18446744073709551616):mulD (.int i) (.int j)=some (.int (i*j)):=by
 rw[zN2,if_pos (.inl (.inl ⟨h,h'⟩))]
theorem zSR{i j:Int}(h:-18446744073709551616<j)(h':j<18446744073709551616):mulD (.int i) (.int j)=some (.int (i*j)):=by
 rw[zN2,if_pos (.inl (.inr ⟨h,h'⟩))]
theorem zC1{ρ:Rh}{c:TM}{e:EM}{i:Nat}(g:Nat->Dt)(n:Nat)(hc:c=tYes)(hi:i=ρ.length)(h:∀k,k<n->e (ρ++[some (.int (k:Nat))])=okR (g k))(it:IM)(hit:it ρ=okR (nums 0 n))(hn:n<=100000):eComp it 1 (.one i) c e ρ=okR (.lst ((qA9 n).map g)):=by
 subst hc hi;unfold eComp;rw[hit,zA0,if_pos ⟨by simpa[nums]using hn,by simp[Tg.idx]⟩];rw[zKA (fun d=>match d with | .int k=>g k.toNat|_=>.non) _ [] fun d hd=>?_]
 ·rw[zA0,zCJ,qBc];simp only[qDg]
  congr 2
 ·rw[zCJ]at hd;obtain⟨k,hk,rfl⟩:=qC0.mp hd;refine⟨_,rfl,rfl,?_⟩
  have:zAP (ρ++qA5 1 none) [(ρ.length,Dt.int (k:Int))]=ρ++[some (.int (k:Nat))]:=by
   simp[zAP]
  rw[this]
  simpa using h k (by simpa using hk)
theorem zD6{ρ:Rh}{c:TM}{e:EM}{i:Nat}{β:Type}(en:β->Dt)(g:β->Dt)(ns:List β)(hc:c=tYes)(hi:i=ρ.length)(h:∀k,k∈ns->e (ρ++[some (en k)])=okR (g k))(it:IM)(hit:it ρ=okR (ns.map en))(hn:ns.length<=100000):eComp it 1 (.one i) c e ρ=okR (.lst (ns.map g)):=by
 subst hc hi;unfold eComp;rw[hit,zA0,if_pos ⟨by simpa using hn,by simp[Tg.idx]⟩]
 have:∀(ns:List β)(acc:List Dt),(∀k,k∈ns->e (ρ++[some (en k)])=okR (g k))->compGo ρ 1 (.one ρ.length) tYes e (ns.map en) acc=okR (acc++ns.map g):=by
  intro ns
  induction ns with
  |nil=>intro acc _;simp[compGo]
  |cons d r ih=>
   intro acc h;rw[qAl,compGo];have e1:zAP (ρ++qA5 1 none) [(ρ.length,en d)]=ρ++[some (en d)]:=by simp[zAP]
   show zA3 (tYes _) _=_;simp only[zQW,zA0,if_true];show zA3 (e (zAP (ρ++qA5 1 none) [(ρ.length,en d)])) _=_;rw[e1,h d (by simp),zA0,ih _ fun k hk=>h k (by simp[hk])];simp
 rw[this ns [] h,zA0];simp
theorem zHP{a b:SM}{r:Ro}{X:R Out}(h:∀bb:SM,bb=b->nxR (a r) fun r1=>bb r1=X):sSeq a b r=X:=by
 obtain⟨r1,h1,h2⟩:=zDL (h b rfl);unfold sSeq;rw[h1,zA0];exact h2
theorem zEK{a b:SM}{r:Ro}{P:Ro->Prop}(h:∀bb:SM,bb=b->nxR (a r) fun r1=>nxR (bb r1) P):nxR (sSeq a b r) P:=by
 obtain⟨r1,h1,h2⟩:=zDL (h b rfl);unfold sSeq;rw[h1,zA0];exact h2
theorem zBF{P n:Nat}{b:SM}{ds:List Dt}{d:Dt}(h:ds.length=P)(hb:b (startO n ds)=okR (.rt d)):runF P n b ds=okR d:=by
 unfold runF;rw[if_pos h,hb];rfl
theorem zOQ{P n:Nat}{b:SM}{ds:List Dt}{x:Xn}(h:ds.length=P)(hb:b (startO n ds)=some (.error x)):runF P n b ds=some (.error x):=by
 unfold runF;rw[if_pos h,hb];rfl
theorem zLT{j n:Nat}{b:SM}{r:Ro}{X:Ro->Prop}(Pv:Nat->Ro->Prop)(h:Pv 0 r)(hs:∀k,k<n->∀r,Pv k r->nxR (b (r.set j (some (.int (k:Nat),0)))) (Pv (k+1)))(hK:∀r',Pv n r'->X r'):nxR (forGo (.one j) b (nums 0 n) r) X:=by
 obtain⟨r',h1,h2⟩:∃r',forGo (.one j) b (nums 0 n) r=okR (.nx r')/\Pv n r':=by
  obtain⟨r',h1,h2⟩:=zFS (tg:=.one j) (b:=b) Pv (nums 0 n) 0 r h fun k d r hd hp=>by
   rw[zCJ,qAg]at hd;cases e:(qA9 n)[k]? with
   |none=>rw[e]at hd;cases hd
   |some q=>
    rw[e]at hd;cases hd;obtain⟨h1,h2⟩:=qA2.mp e;rw[qC4]at h2;subst h2;rw[qCd]at hp;obtain⟨r',g1,g2⟩:=zDL (hs k (by simpa using h1) r hp);exact⟨_,r',rfl,g1,by rw[qCd];exact g2⟩
  exact⟨r',h1,by simpa[nums]using h2⟩
 rw[h1];exact hK r' h2
theorem zGW{γ:Type}{j:Nat}{b:SM}{r:Ro}{X:Ro->Prop}(en:γ->Dt)(ns:List γ)(Pv:Nat->Ro->Prop)(h:Pv 0 r)(hs:∀k x,ns[k]?=some x->∀r,Pv k r->nxR (b (r.set j (some (en x,0)))) (Pv (k+1)))(hK:∀r',Pv ns.length r'->X r'):nxR (forGo (.one j) b (ns.map en) r) X:=by
 obtain⟨r',h1,h2⟩:=zFS (tg:=.one j) (b:=b) Pv (ns.map en) 0 r h fun k d r hd hp=>by
  rw[qAg]at hd;cases e:ns[k]? with
  |none=>rw[e]at hd;cases hd
  |some q=>
   rw[e]at hd;cases hd;rw[qCd]at hp;obtain⟨r',g1,g2⟩:=zDL (hs k q e r hp);exact⟨_,r',rfl,g1,by rw[qCd];exact g2⟩
 rw[h1];exact hK r' (by simpa using h2)
theorem zI3:∀(a b:List Char),a.map qFu=b.map qFu->a=b
 |[],[],_=>rfl
 |[],_::_,h=>by simp at h
 |_::_,[],h=>by simp at h
 |x::r,y::q,h=>by
  simp only[qAl,qEu]at h;rw[zI3 r q h.2]
  have:x=y:=Char.toNat_inj.mp h.1
  rw[this]
@[simp] theorem str_inj(a b:String):(Str.ofString a=Str.ofString b)↔a=b:=by
 constructor
 ·intro h;rw[Str.ofString_eq_toList,Str.ofString_eq_toList]at h;simp only[Str.mk.injEq,List.toArray_inj]at h
  have:=zI3 _ _ (by simpa using h)
  exact String.toList_inj.mp this
 ·intro h;rw[h]
end Mi
namespace Mi
open PySem
section
variable(ρ:Rh)(a:EM)(am:AM)(lo hi:OM)
@[simp] theorem zTY:eSl a lo hi ρ=zA3 (a ρ) fun x=>zA3 (lo ρ) fun l=>zA3 (hi ρ) fun h=>optR (slD x l h):=rfl
@[simp] theorem zTX:oNo ρ=okR none:=rfl
@[simp] theorem x_oE:oE a ρ=zA3 (a ρ) fun d=>match d with | .int i=>okR (some i)|_=>none:=rfl
@[simp] theorem x_eMt(f:Dt->List Dt->Option Dt):eMt f a am ρ=zA3 (a ρ) fun x=>if zM7 x=true then zA3 (am ρ) fun xs=>optR (f x xs)else none:=rfl
@[simp] theorem v_isStr(z:Str):zM7 (.str z)=true:=rfl
end
@[simp] theorem v_slL(xs:List Dt)(l h:Option Int):slD (.lst xs) l h=some (.lst (cutA xs l h)):=rfl
@[simp] theorem v_slS(z:Str)(l h:Option Int):slD (.str z) l h=@ite _ (z.length<=100000) (qA1 _) (some (.str ⟨(cutA z.cps.toList l h).toArray⟩)) none:=rfl
@[simp] theorem v_ixSt(z:Str)(i:Int):ixD (.str z) (.int i)=@ite _ (z.length<=100000) (qA1 _) ((itA z.cps.toList i).map fun c=>.str ⟨#[c]⟩) none:=rfl
@[simp] theorem v_lenSt(z:Str):lenD [.str z]=@ite _ (z.length<=100000) (qA1 _) (some (.int z.length)) none:=rfl
@[simp] theorem v_count1(z:Str)(c:Nat):zTO (.str z) [.str ⟨#[c]⟩]=some (.int (z.cps.toList.count c:Nat)):=rfl
@[simp] theorem v_in1(ng:Bool)(z:Str)(c:Nat):inD ng (.str ⟨#[c]⟩) (.str z)=some (.bl (if ng=true then !decide (c∈z.cps.toList)else decide (c∈z.cps.toList))):=rfl
@[simp] theorem v_find1(z:Str)(c:Nat):zUW (.str z) [.str ⟨#[c]⟩]=some (.int (match posC c z.cps.toList with|some i=>(i:Int)|none=>-1)):=rfl
theorem zOF{α:Type}(xs:List α)(k:Nat):cutA xs (some (k:Int)) none=xs.drop k:=by
 unfold cutA cutIx;dsimp only;rw[if_neg (by lia)]
 by_cases h:k<=xs.length
 ·rw[show min (k:Int).toNat xs.length=k by lia];exact qDc (by simp)
 ·rw[show min (k:Int).toNat xs.length=xs.length by lia];simp
  lia
theorem zPM(a b:Str):(a++b).cps.toList=a.cps.toList++b.cps.toList:=by
 show(Str.mk (a.cps++b.cps)).cps.toList=_
 simp
theorem zQC(z:Str):z.length=z.cps.toList.length:=by
 unfold Str.length;simp
theorem zM0(l:List Nat):(Str.mk l.toArray).length=l.length:=by rw[zQC]
end Mi
namespace Mi
open PySem
end Mi
namespace Mp
open Mi PySem
theorem sg{i n:Nat}{vs:List Nat}{e:EM}{b:SM}{r:Ro}{d:Dt}{X:R Out}(he:e (full r)=okR d)(hd:d.dep<=n)(h:b (r.set i (some (d,n)))=X):sSeq (sSet i n vs e) b r=X:=by
 rw[zEI,zJR,he,zA0,if_pos hd,zA0];exact h
theorem sgf{i n:Nat}{vs:List Nat}{e:EM}{b:SM}{r:Ro}{d:Dt}{X:R Out}(he:e (full r)=okR d)(hd:¬d.dep<=n)(he2:e (frz (frzAt vs r))=okR d)(h:b ((frzAt vs r).set i (some (d,n)))=X):sSeq (sSet i n vs e) b r=X:=by
 rw[zEI,zJR,he,zA0,if_neg hd,he2,zA0,zA0];exact h
theorem sp{c:TM}{a b:SM}{r:Ro}{X:R Out}(hc:c (full r)=okR false)(h:b r=X):sSeq (sIf c a sNil) b r=X:=by
 rw[zEI,zJ1,hc,zA0,if_neg (by simp),zHF,zA0];exact h
theorem st{c:TM}{a b:SM}{r r':Ro}{X:R Out}(hc:c (full r)=okR true)(ha:a r=okR (.nx r'))(h:b r'=X):sSeq (sIf c a sNil) b r=X:=by
 rw[zEI,zJ1,hc,zA0,if_pos rfl,ha,zA0];exact h
theorem c2{m:FM}{e1 e2:EM}{ρ:Rh}{d1 d2:Dt}{X:R Dt}(h1:e1 ρ=okR d1)(h2:e2 ρ=okR d2)(h:m [d1,d2]=X):eCall m (aCons e1 (aCons e2 aNil)) ρ=X:=by
 simp only[zGJ,zBJ,zEJ,h1,h2,zA0];exact h
theorem c1{m:FM}{e1:EM}{ρ:Rh}{d1:Dt}{X:R Dt}(h1:e1 ρ=okR d1)(h:m [d1]=X):eCall m (aCons e1 aNil) ρ=X:=by
 simp only[zGJ,zBJ,zEJ,h1,zA0];exact h
theorem c4{m:FM}{e1 e2 e3 e4:EM}{ρ:Rh}{d1 d2 d3 d4:Dt}{X:R Dt}(h1:e1 ρ=okR d1)(h2:e2 ρ=okR d2)(h3:e3 ρ=okR d3)(h4:e4 ρ=okR d4)(h:m [d1,d2,d3,d4]=X):eCall m (aCons e1 (aCons e2 (aCons e3 (aCons e4 aNil)))) ρ=X:=by
 simp only[zGJ,zBJ,zEJ,h1,h2,h3,h4,zA0];exact h
theorem b2{o:Dt->Dt->Option Dt}{e1 e2:EM}{ρ:Rh}{d1 d2 d:Dt}(h1:e1 ρ=okR d1)(h2:e2 ρ=okR d2)(h:o d1 d2=some d):eB o e1 e2 ρ=okR d:=by
 rw[x_eB,h1,zA0,h2,zA0,h];rfl
theorem bi1{o:List Dt->Option Dt}{e1:EM}{ρ:Rh}{d1 d:Dt}(h1:e1 ρ=okR d1)(h:o [d1]=some d):eBi o (aCons e1 aNil) ρ=okR d:=by
 simp only[zTZ,zBJ,zEJ,h1,zA0,h];rfl
theorem el2{e1 e2:EM}{ρ:Rh}{d1 d2:Dt}(h1:e1 ρ=okR d1)(h2:e2 ρ=okR d2):eLst (aCons e1 (aCons e2 aNil)) ρ=okR (.lst [d1,d2]):=by simp[h1,h2]
theorem el1{e1:EM}{ρ:Rh}{d1:Dt}(h1:e1 ρ=okR d1):eLst (aCons e1 aNil) ρ=okR (.lst [d1]):=by simp[h1]
theorem tb1{e:EM}{ρ:Rh}{k:Bool}(h:e ρ=okR (.bl k)):tB e ρ=okR k:=by rw[x_tB,h,zA0]
theorem tm1{e:EM}{ρ:Rh}{k:Bool}(h:e ρ=okR (.bl k)):tM e ρ=okR k:=by rw[x_tM,h,zA0]
theorem tn1{t:TM}{ρ:Rh}{k:Bool}(h:t ρ=okR k):tNo t ρ=okR (!k):=by rw[zTW,h,zA0]
theorem to0{t t':TM}{ρ:Rh}{k:Bool}(h:t ρ=okR false)(h':t' ρ=okR k):Mi.tOr t t' ρ=okR k:=by rw[zQX,h,zA0,if_neg (by simp),h']
theorem to1{t t':TM}{ρ:Rh}(h:t ρ=okR true):Mi.tOr t t' ρ=okR true:=by rw[zQX,h,zA0,if_pos rfl]
theorem ta1{t t':TM}{ρ:Rh}{k:Bool}(h:t ρ=okR true)(h':t' ρ=okR k):tAn t t' ρ=okR k:=by rw[zQY,h,zA0,if_pos rfl,h']
theorem ta0{t t':TM}{ρ:Rh}(h:t ρ=okR false):tAn t t' ρ=okR false:=by rw[zQY,h,zA0,if_neg (by simp)]
theorem ss{i n:Nat}{vs:List Nat}{e:EM}{r:Ro}{d:Dt}(he:e (full r)=okR d)(hd:d.dep<=n):sSet i n vs e r=okR (.nx (r.set i (some (d,n)))):=by
 rw[zJR,he,zA0,if_pos hd]
theorem sr{L n:Nat}{vs:List Nat}{e:EM}{r:Ro}{d:Dt}(he:e (full r)=okR d)(hd:d.dep<=n/\d.dep<=L):sRet L n vs e r=okR (.rt d):=by
 rw[zQZ,he,zA0,if_pos hd]
theorem tl{k k':Bool}{x:Option Dt}(h:x=some (.bl k))(e:k=k'):x=some (.bl k'):=e▸h
theorem sl1{a b:EM}{ρ:Rh}{x d:Dt}{i:Int}(h1:a ρ=okR x)(h2:b ρ=okR (.int i))(h:slD x (some i) none=some d):eSl a (oE b) oNo ρ=okR d:=by
 rw[zTY,h1,zA0,x_oE,h2,zA0,zA0,zTX,zA0,h];rfl
theorem sf{c:TM}{a:SM}{r:Ro}(hc:c (full r)=okR false):sIf c a sNil r=okR (.nx r):=by
 rw[zJ1,hc,zA0,if_neg (by simp),zHF]
theorem et2{e1 e2:EM}{ρ:Rh}{d1 d2:Dt}(h1:e1 ρ=okR d1)(h2:e2 ρ=okR d2):eTup (aCons e1 (aCons e2 aNil)) ρ=okR (.tup [d1,d2]):=by simp[h1,h2]
theorem eqi{e1 e2:EM}{ρ:Rh}{a b:Int}{k:Bool}(h1:e1 ρ=okR (.int a))(h2:e2 ρ=okR (.int b))(h:decide (a=b)=k):tB (eB eqD e1 e2) ρ=okR k:=by
 refine tb1 (b2 h1 h2 ?_);rw[<- h];simp[Dt.eq];rfl
theorem nei{e1 e2:EM}{ρ:Rh}{a b:Int}{k:Bool}(h1:e1 ρ=okR (.int a))(h2:e2 ρ=okR (.int b))(h:(!decide (a=b))=k):tB (eB neD e1 e2) ρ=okR k:=by
 refine tb1 (b2 h1 h2 ?_);rw[<- h];simp[Dt.eq];rfl
theorem sx{c:TM}{a b:SM}{r:Ro}{d:Dt}(hc:c (full r)=okR true)(ha:a r=okR (.rt d)):sSeq (sIf c a sNil) b r=okR (.rt d):=by
 rw[zEI,zJ1,hc,zA0,if_pos rfl,ha,zA0]
theorem mdi{i j k:Int}(h:0<j)(e:i%j=k):modD (.int i) (.int j)=some (.int k):=by rw[<- e];exact if_pos h
theorem dvi{i j:Int}(h:0<j/\j<1000000000000000000000000):divD (.int i) (.int j)=some (.int (i/j)):=@if_pos _ (qA1 _) h _ _ _
theorem c3{m:FM}{e1 e2 e3:EM}{ρ:Rh}{d1 d2 d3:Dt}{X:R Dt}(h1:e1 ρ=okR d1)(h2:e2 ρ=okR d2)(h3:e3 ρ=okR d3)(h:m [d1,d2,d3]=X):eCall m (aCons e1 (aCons e2 (aCons e3 aNil))) ρ=X:=by
 simp only[zGJ,zBJ,zEJ,h1,h2,h3,zA0];exact h
theorem an1{e1 e2:EM}{ρ:Rh}{a b:Bool}(h1:e1 ρ=okR (.bl a))(h2:e2 ρ=okR (.bl b)):eAnd e1 e2 ρ=okR (.bl (a&&b)):=by cases a<;>simp[h1,h2]
theorem el0{ρ:Rh}:eLst aNil ρ=okR (.lst []):=by simp
theorem sw{s t:SM}{r r':Ro}{X:R Out}(h:s r=okR (.nx r'))(h2:t r'=X):sSeq s t r=X:=by rw[zEI,h,zA0];exact h2
theorem if1{c:TM}{a b:EM}{ρ:Rh}{X:R Dt}(hc:c ρ=okR true)(h:a ρ=X):eIf c a b ρ=X:=by unfold eIf;rw[hc,zA0,if_pos rfl];exact h
theorem if0{c:TM}{a b:EM}{ρ:Rh}{X:R Dt}(hc:c ρ=okR false)(h:b ρ=X):eIf c a b ρ=X:=by unfold eIf;rw[hc,zA0,if_neg qAb];exact h
theorem nif1{c:TM}{a b:SM}{r:Ro}{P:Ro->Prop}(hc:c (full r)=okR true)(h:nxR (a r) P):nxR (sIf c a b r) P:=by rw[zJ1,hc,zA0,if_pos rfl];exact h
theorem nif0{c:TM}{a b:SM}{r:Ro}{P:Ro->Prop}(hc:c (full r)=okR false)(h:nxR (b r) P):nxR (sIf c a b r) P:=by rw[zJ1,hc,zA0,if_neg qAb];exact h
theorem nsw{s t:SM}{r r':Ro}{P:Ro->Prop}(h:s r=okR (.nx r'))(h2:nxR (t r') P):nxR (sSeq s t r) P:=by rw[zEI,h,zA0];exact h2
theorem v1{i:Nat}{ρ:Rh}{d:Dt}(h:ρ[i]?=some (some d)):eV i ρ=okR d:=by rw[x_eV,h]
theorem al0{e:EM}{ρ:Rh}{d:Dt}(h:e ρ=okR d):aCons e aNil ρ=okR [d]:=by rw[zBJ,h];rfl
theorem adi{a b c:Int}(h:a+b=c):addD (.int a) (.int b)=some (.int c):=by rw[<- h];rfl
theorem sbi{a b c:Int}(h:a-b=c):subD (.int a) (.int b)=some (.int c):=by rw[<- h];rfl
theorem k1{d d':Dt}{ρ:Rh}(h:d=d'):eC d ρ=okR d':=by rw[<- h];rfl
theorem cmi{p:Int->Int->Bool}{a b:Int}{k:Bool}(h:p a b=k):cmpD p (.int a) (.int b)=some (.bl k):=by rw[<- h];rfl
noncomputable def rowD(r:List Int):Dt:=.lst (r.map .int)
def mat(A:List (List Int)):Dt:=.lst (A.map rowD)
noncomputable def tab(n:Nat)(f:Nat->Nat->Int):List (List Int):=(qA9 n).map fun i=>(qA9 n).map fun j=>f i j
def Bits(n:Nat)(f:Nat->Nat->Int):Prop:=∀i j,i<n->j<n->f i j=0\/f i j=1
def Sym(n:Nat)(f:Nat->Nat->Int):Prop:=∀i j,i<n->j<n->f i j=f j i
@[simp] theorem zBY(r:List Int):(rowD r).dep=1:=by simp[rowD]
theorem ixR{n:Nat}{g:Nat->Int}{j:Nat}(h:j<n):ixD (rowD ((qA9 n).map g)) (.int (j:Int))=some (.int (g j)):=by
 refine zI9 rfl ?_;simp[h]
@[simp] theorem lenR(r:List Int):lenD [rowD r]=some (.int r.length):=by
 show some (Dt.int ((r.map Dt.int).length:Int))=_;rw[qAn]
@[simp] theorem zSS(r:List Int):listD [rowD r]=some (rowD r):=rfl
@[simp] theorem lenM(A:List (List Int)):lenD [mat A]=some (.int A.length):=by
 show some (Dt.int ((A.map rowD).length:Int))=_;rw[qAn]
theorem zIF:∀A:List (List Int),Dt.depL (A.map rowD)<=1
 |[]=>by simp
 |r::A=>by
  have:=zIF A
  rw[qAl,zDG,zBY]
  lia
theorem zAZ(A:List (List Int)):(mat A).dep<=2:=by
 have:=zIF A
 unfold mat;rw[v_dl]
 lia
theorem zK4:∀A B:List (List Int),Dt.eqL (A.map rowD) (B.map rowD)=decide (A=B)
 |[],[]=>by simp[Dt.eqL]
 |[],_::_=>by simp[Dt.eqL]
 |_::_,[]=>by simp[Dt.eqL]
 |r::A,q::B=>by
  rw[qAl,qAl,Dt.eqL,zK4 A B];unfold rowD;rw[v_e4,zE1];simp
theorem zK3(A B:List (List Int)):Dt.eq (mat A) (mat B)=decide (A=B):=by
 unfold mat;rw[v_e4,zK4]
theorem zCV(n:Nat)(f:Nat->Nat->Int):(tab n f).length=n:=by simp[tab]
theorem zF6{n:Nat}{f:Nat->Nat->Int}{i:Nat}(h:i<n):(tab n f)[i]?=some ((qA9 n).map fun j=>f i j):=by
 simp[tab,h]
theorem zT2{n:Nat}{f:Nat->Nat->Int}{i:Nat}(h:i<n):itA ((tab n f).map rowD) (i:Int)=some (rowD ((qA9 n).map fun j=>f i j)):=by
 refine zI9 rfl ?_;rw[qAg,zF6 h];rfl
theorem ixM{n:Nat}{f:Nat->Nat->Int}{i:Nat}(h:i<n):ixD (mat (tab n f)) (.int (i:Int))=some (rowD ((qA9 n).map fun j=>f i j)):=zT2 h
theorem zTC(a b:List Int):Dt.eq (rowD a) (rowD b)=decide (a=b):=by
 unfold rowD;rw[v_e4,zE1]
theorem zGL{n:Nat}{f g:Nat->Nat->Int}(h:∀i j,i<n->j<n->f i j=g i j):tab n f=tab n g:=by
 unfold tab;refine qBl fun i hi=>qBl fun j hj=>h i j (by simpa using hi) (by simpa using hj)
theorem zOG{ρ:Rh}{e:EM}{it it2:IM}{i j n:Nat}(f:Nat->Nat->Int)(hi:i=ρ.length)(hj:j=ρ.length+1)(hn:n<=1000)(h1:it ρ=okR (nums 0 n))(h2:∀a,it2 (ρ++[some (.int (a:Nat))])=okR (nums 0 n))
  (h:∀a b,a<n->b<n->e (ρ++[some (.int (a:Nat))]++[some (.int (b:Nat))])=okR (.int (f a b))):eComp it 1 (.one i) tYes (eComp it2 1 (.one j) tYes e) ρ=okR (mat (tab n f)):=by
 rw[zC1 (fun a=>rowD ((qA9 n).map fun b=>f a b)) n rfl hi (fun a ha=>?_) it h1 (by lia)]
 ·unfold mat tab;rw[qBc];rfl
 ·rw[zC1 (fun b=>.int (f a b)) n rfl (by rw[hj];simp) (fun b hb=>h a b ha hb) it2 (h2 a) (by lia)];unfold rowD;rw[qBc];rfl
theorem zM5{r:Ro}{i m n:Nat}{l:Nat}{f:Nat->Nat->Int}{a b:Nat}{v:Int}{e0 e1 e2:EM}(h:r[i]?=some (some (mat (tab n f),l+2)))(h0:e0 (full r)=okR (.int (a:Nat)))(h1:e1 (full r)=okR (.int (b:Nat)))(h2:e2 (full r)=okR (.int v))(ha:a<n)(hb:b<n) :
  sItem2 i m e0 e1 e2 r=okR (.nx (r.set i (some (mat (tab n fun x y=>if x=a/\y=b then v else f x y),l+2)))):=by
 have g1:((tab n f).map rowD)[a]?=some (.lst (((qA9 n).map fun j=>f a j).map .int)):=by
  rw[qAg,zF6 ha];rfl
 unfold sItem2;rw[h2,zA0,h];show zA3 (e0 (full r)) _=_;rw[h0,zA0];dsimp only;rw[zK1 (by lia) (by simp[tab];lia)];dsimp only;rw[qBd,g1];dsimp only;rw[h1,zA0];dsimp only;rw[zK1 (by lia) (by simp;lia)];dsimp only;rw[if_pos ⟨qAx _,qAx _⟩,qBd]
 congr 5
 unfold mat
 congr 1
 apply qCx
 intro x;rw[qCy]
 by_cases hx:a=x
 ·subst hx;rw[if_pos rfl,if_pos (by simp[tab];lia),qAg,zF6 ha];show some _=some _
  congr 1
  unfold rowD
  congr 1
  apply qCx
  intro y;rw[qCy]
  by_cases hy:b=y
  ·subst hy;simp[hb]
  ·rw[if_neg hy]
   by_cases hyn:y<n
   ·simp[hyn,show ¬y=b from fun z=>hy z.symm]
   ·simp[hyn]
 ·rw[if_neg hx,qAg,qAg]
  by_cases hxn:x<n
  ·rw[zF6 hxn,zF6 hxn];simp[show ¬x=a from fun z=>hx z.symm]
  ·have:(tab n f)[x]?=none:=by simp[tab];lia
   have h':(tab n fun x y=>if x=a/\y=b then v else f x y)[x]?=none:=by simp[tab];lia
   rw[this,h']
def Bit(x:Int):Prop:=x=0\/x=1
def RowN(n:Nat)(r:List Int):Prop:=r.length=n/\∀x∈r,Bit x
theorem zT4(r:List Int)(i:Nat)(h:i<r.length):ixD (rowD r) (.int (i:Int))=some (.int (r.getD i 0)):=by
 have:=zK2 (ns:=r) (i:=(i:Int)) (by lia) (by lia)
 rw[qBd]at this;exact this
noncomputable def sumN(n:Nat)(f:Nat->Int):Int:=((qA9 n).map f).sum
theorem zNR(n:Nat)(g:Nat->Int)(hn:n<=10):zCY [rowD ((qA9 n).map g)]=okR (.lst (((qA9 n).filter fun k=>decide (g k=1)).map fun k:Nat=>Dt.int (k:Int))):=by
 unfold zCY zIU;have hc:eComp (iR1 (aCons (eBi lenD (aCons (eV 0) aNil)) aNil)) 1 (.one 1) (tB (eB eqD (eB ixD (eV 0) (eV 1)) (eC (.int 1)))) (eV 1) [some (rowD ((qA9 n).map g))]=okR (.lst (((qA9 n).filter fun k=>decide (g k=1)).map fun k:Nat=>Dt.int (k:Int))):=by
  unfold eComp;rw[zE7 (n:=n) (by simp) (by lia),zA0,if_pos ⟨by simp[nums];lia,by simp[Tg.idx]⟩,zCJ];have go:∀(l:List Nat)(acc:List Dt),(∀k∈l,k<n)->compGo [some (rowD ((qA9 n).map g))] 1 (.one 1) (tB (eB eqD (eB ixD (eV 0) (eV 1)) (eC (.int 1)))) (eV 1) (l.map fun k:Nat=>Dt.int (k:Int)) acc=okR (acc++(l.filter fun k=>decide (g k=1)).map fun k:Nat=>Dt.int (k:Int)):=by
   intro l
   induction l with
   |nil=>intro acc _;simp[compGo]
   |cons a r ih=>
    intro acc hl;have i1:=ixR (g:=g) (hl a (by simp));have ih':=fun acc=>ih acc fun k hk=>hl k (by simp[hk])
    rw[qAl,compGo]
    by_cases h:g a=1
    ·simp[zAQ,zAP,i1,h,ih']
    ·simp[zAQ,zAP,i1,h,ih']
  rw[go _ _ fun k hk=>by simpa using hk,zA0];simp
 have hd:Dt.depL (((qA9 n).filter fun k=>decide (g k=1)).map fun k:Nat=>Dt.int (k:Int))=0:=by
  have:=zD2 (((qA9 n).filter fun k=>decide (g k=1)).map fun k:Nat=>(k:Int))
  rw[qBc]at this;exact this
 simp[hc,hd]
theorem zQ9(n:Nat)(f:Nat->Nat->Int):mat (tab n f)=.lst ((qA9 n).map fun i=>rowD ((qA9 n).map fun j=>f i j)):=by
 unfold mat tab;rw[qBc];rfl
theorem zUV{ds:List Dt}(h:∀d∈ds,d.dep=0):Dt.depL ds=0:=by
 induction ds with
 |nil=>simp
 |cons a r ih=>rw[zDG,h a (by simp),ih fun d hd=>h d (by simp[hd])];rfl
noncomputable def numL(ks:List Nat):List Int:=ks.map fun k:Nat=>(k:Int)
theorem numD(ks:List Nat):rowD (numL ks)=.lst (ks.map fun k:Nat=>Dt.int (k:Int)):=by
 unfold rowD numL;rw[qBc];rfl
theorem zI2{α:Type}(ks:List Nat)(g:Nat->α):ks.map g=(qA9 ks.length).map fun a=>g (ks.getD a 0):=by
 apply List.ext_getElem
 ·simp
 ·intro i h1 h2;simp at h1;simp[h1]
noncomputable def sub(ks:List Nat)(f:Nat->Nat->Int):Nat->Nat->Int:=fun a b=>f (ks.getD a 0) (ks.getD b 0)
theorem zGS(n:Nat)(f:Nat->Nat->Int)(ks:List Nat)(hk:∀k∈ks,k<n)(hz:ks.length<=1000):zBR [mat (tab n f),rowD (numL ks)]=okR (mat (tab ks.length (sub ks f))):=by
 have hm:mat (tab ks.length (sub ks f))=.lst (ks.map fun i=>rowD (ks.map fun j=>f i j)):=by
  rw[zQ9,zI2 ks fun i=>rowD (ks.map fun j=>f i j)]
  congr 1
  refine qBl fun a ha=>?_
  rw[zI2 ks fun j=>f (ks.getD a 0) j];rfl
 unfold zBR zFZ;have hc:eComp (iSq (eV 1)) 1 (.one 2) Mi.tYes (eComp (iSq (eV 1)) 1 (.one 3) Mi.tYes (eB ixD (eB ixD (eV 0) (eV 2)) (eV 3))) [some (mat (tab n f)),some (rowD (numL ks))]=okR (mat (tab ks.length (sub ks f))):=by
  rw[hm];refine zD6 (fun k:Nat=>Dt.int (k:Int)) _ ks rfl rfl (fun i hi=>?_) _ (by simp[numD]) (by lia);have h2:=zD6 (ρ:=[some (mat (tab n f)),some (rowD (numL ks))]++[some (Dt.int (i:Int))]) (c:=tYes) (i:=3) (e:=eB ixD (eB ixD (eV 0) (eV 2)) (eV 3)) (fun k:Nat=>Dt.int (k:Int)) (fun j=>Dt.int (f i j)) ks rfl rfl (fun j hj=>by
   have e1:=ixM (f:=f) (hk i hi);have e2:=ixR (g:=fun j=>f i j) (hk j hj);simp[e1,e2]) (iSq (eV 1)) (by simp[numD]) (by lia)
  rw[h2];unfold rowD;rw[qBc];rfl
 have hd:=zAZ (tab ks.length (sub ks f));simp[hc,hd]
noncomputable def sgn(c:Nat):Dt:=.str ⟨#[c]⟩
theorem zO8(cs:List Nat):∀d∈cs.map sgn,d.dep=0:=by
 intro d hd;obtain⟨c,_,rfl⟩:=qC0.mp hd;rfl
@[simp] theorem depL_sgn(cs:List Nat):Dt.depL (cs.map sgn)=0:=zUV (zO8 cs)
end Mp
namespace Mp
noncomputable def ords(row:List Nat):List Nat:=row.foldl (fun o p=>if p∈o then o else o++[p]) []
end Mp
namespace Mp
open Mi PySem
theorem zI8{r:Ro}{i m l a:Nat}{xs:List Int}{v:Int}{e1 e2:EM}(h:r[i]?=some (some (rowD xs,l+1)))(h2:e2 (full r)=okR (.int v))(h1:e1 (full r)=okR (.int (a:Nat)))(ha:a<xs.length):sItem i m e1 e2 r=okR (.nx (r.set i (some (rowD (xs.set a v),l+1)))):=by
 unfold sItem;rw[h2,zA0,h];show zA3 (e1 (full r)) _=_;rw[h1,zA0];dsimp only;rw[zK1 (by lia) (by simp;lia)];dsimp only;rw[if_pos ⟨qAx _,qAx _⟩,qBd];unfold rowD;rw[qDk]
end Mp
namespace FW
structure NetL(ns:List Int)(n:Nat):Prop where
 len:ns.length=n
 tie:∀i:Nat,i<n->∃j:Nat,j<n/\j≠i/\ns[i]?=some (j:Int)/\ns[j]?=some (i:Int)
structure Part(left:List Nat)(ns:List Int)(n:Nat):Prop where
 len:ns.length=n
 nd:left.Nodup
 lt:∀i∈left,i<n
 ev:left.length%2=0
 tie:∀i:Nat,i<n->i∉left->∃j:Nat,j<n/\j∉left/\j≠i/\ns[i]?=some (j:Int)/\ns[j]?=some (i:Int)
end FW
namespace Mp
open Mi PySem
noncomputable def itr(f:Nat->Nat):Nat->Nat->Nat
 |0,x=>x
 |k+1,x=>f (itr f k x)
noncomputable def jn(cs:List Nat)(e:Nat):Nat:=e/4*4+(e%4^^^(cs.getD (e/4) 0+1))
noncomputable def nt(ts:List Nat)(e:Nat):Nat:=ts.getD e 0
structure NetN(ts:List Nat)(M:Nat):Prop where
 len:ts.length=M
 lt:∀e,e<M->nt ts e<M
 inv:∀e,e<M->nt ts (nt ts e)=e
def stp(ts cs:List Nat)(e:Nat):Nat:=nt ts (jn cs e)
def zRI(R:List (List Nat)):Dt:=.lst (R.map fun l=>rowD (numL l))
noncomputable def wrd(ls row:List Nat):List Nat:=row.map fun p=>ls.getD p 0
def zV4(ls row:List Nat):Prop:=∀x∈row,∀y∈row,ls.getD x 0=ls.getD y 0->x=y
theorem zNX{cs:List Nat}(h:cs.length<=1000):lenD [.str ⟨cs.toArray⟩]=some (.int (cs.length:Int)):=by
 have:=zM0 cs
 simp[lenD,this]
 try lia
structure Twice(n:Nat)(row:List Nat):Prop where
 len:row.length=2*n
 cnt:∀v,row.count v=if v<n then 2 else 0
section
variable{n:Nat}{row:List Nat}(t:Twice n row)
include t
end
end Mp
namespace Mp
open Mi PySem
noncomputable def addB:List Int->List Int->List Int
 |a::r,b::s=>(a+b)%2::addB r s
 |_,_=>[]
noncomputable def dot:List Int->List Int->Int
 |a::r,b::x=>a*b+dot r x
 |_,_=>0
theorem zQR(x:Int):Bit (x%2):=by show _%2=0\/_%2=1;lia
def Ker(A:List (List Int))(x:List Int):Prop:=∀r∈A,dot r x%2=0
noncomputable def ent(A:List (List Int))(i k:Nat):Int:=(A.getD i []).getD k 0
theorem getD_mem{α:Type}{l:List α}{d:α}{i:Nat}(h:i<l.length):l.getD i d∈l:=by
 rw[qA6,qAe h];simp
theorem mem_getD{α:Type}{l:List α}{d x:α}(h:x∈l):∃i,i<l.length/\l.getD i d=x:=by
 obtain⟨i,hi,rfl⟩:=qB8.mp h;exact⟨i,hi,by simp[qA6,qAe hi]⟩
def oth(A:List (List Int))(c:Nat)(lead:List Int):List (List Int):=A.map fun r=>if r.getD c 0=1 then addB r lead else r
section
variable{A:List (List Int)}{c t m:Nat}(hm:∀r∈A,RowN m r)(ht:t<A.length)(hc:c<=t)(hl:ent A t c=1)(hcm:c<m)
include hm ht in
include hm ht hc in
include ht hc in
include hm ht hc in
end
def zV3(A:List (List Int))(c:Nat):Prop:=∀i k,i<A.length->k<c->ent A i k=if i=k then 1 else 0
structure Rk(n:Nat)(T A:List (List Int))(p q:Nat):Prop where
 rows:∀r∈A,RowN n r
 zero:∀r∈A,∀k,k<p->r.getD k 0=0
 le:q<=p
 all:q=p->∀x,RowN n x->Ker T x->Ker A x/\((∀j,p<=j->x.getD j 0=0)->∀j,x.getD j 0=0)
 some:q<p->∃x,RowN n x/\Ker T x/\∃j,j<n/\x.getD j 0=1
 lift:∀x,RowN n x->Ker A x->∃y,RowN n y/\Ker T y/\∀j,p<=j->y.getD j 0=x.getD j 0
end Mp
namespace Mp
open Mi PySem
theorem zC4{ρ:Rh}{c:TM}{e:EM}{i:Nat}{β:Type}(en:β->Dt)(g:β->Dt)(f:β->Bool)(ns:List β)(hi:i=ρ.length)(hc:∀k,k∈ns->c (ρ++[some (en k)])=okR (f k))(h:∀k,k∈ns->f k=true->e (ρ++[some (en k)])=okR (g k))(it:IM)(hit:it ρ=okR (ns.map en))(hn:ns.length<=100000):eComp it 1 (.one i) c e ρ=okR (.lst ((ns.filter f).map g)):=by
 subst hi;unfold eComp;rw[hit,zA0,if_pos ⟨by simpa using hn,by simp[Tg.idx]⟩];have go:∀(l:List β)(acc:List Dt),(∀k∈l,k∈ns)->compGo ρ 1 (.one ρ.length) c e (l.map en) acc=okR (acc++(l.filter f).map g):=by
  intro l
  induction l with
  |nil=>intro acc _;simp[compGo]
  |cons a r ih=>
   intro acc hl;have h1:=hc a (hl a (by simp));have h2:=h a (hl a (by simp));have ih':=fun acc=>ih acc fun k hk=>hl k (by simp[hk])
   have es:zAP (ρ++qA5 1 none) [(ρ.length,en a)]=ρ++[some (en a)]:=by
    simp[zAP]
   rw[qAl,compGo];show zA3 (c (zAP (ρ++qA5 1 none) [(ρ.length,en a)])) _=_;rw[es,h1,zA0];cases hf:f a with
   |true=>
    rw[if_pos rfl];rw[h2 hf,zA0,ih',List.filter_cons_of_pos hf];simp
   |false=>
    rw[if_neg (by simp),ih',List.filter_cons_of_neg (by simp[hf])]
 rw[go _ _ fun k hk=>hk,zA0];simp
noncomputable def zU1(n i:Nat):List Int:=(qA9 n).map fun j=>if j=i then 1 else 0
def aug(n:Nat)(T:List (List Int)):List (List Int):=(qA9 n).map fun i=>T.getD i []++zU1 n i
structure Un(n:Nat)(T A:List (List Int))(c:Nat):Prop where
 len:A.length=n
 rows:∀r∈A,RowN (n+n) r
 unit:zV3 A c
 ker:∀x,(∀y∈x,Bit y)->(Ker A x↔Ker (aug n T) x)
theorem zRA{z:Str}{l:List Nat}(h:z.cps.toList=l):z=⟨l.toArray⟩:=by
 cases z with
 |mk a=>subst h;simp
theorem add_str{a b:List Nat}(h:a.length+b.length<=1000):addD (.str ⟨a.toArray⟩) (.str ⟨b.toArray⟩)=some (.str ⟨(a++b).toArray⟩):=by
 rw[zR0,if_pos (by rw[zM0,zM0];lia)]
 congr 2
 exact zRA (by rw[zPM])
end Mp
namespace Mp
noncomputable def sh(s:Nat)(cs:List Nat):List Nat:=cs.drop s++cs.take s
def wr(cs:List Nat):List Nat:=cs.map fun c=>97+(ords cs).idxOf c
end Mp
namespace Mp
open Mi PySem
noncomputable def mixC(ns:List Int)(k:Nat):Int:=
 let c:Int:=if k<ns.length then ns.getD k 0%1000003 else 0
 let f:Int:=((c+1)*48271+(k:Int)*k*7919)%1000000007*40692%2147483399
 f*2147483647+(f*69621+k)%2147483647
def mixL(ns:List Int)(n:Nat):List Int:=(qA9 n).map (mixC ns)
theorem zLW(ns:List Int)(n:Nat)(hn:n<=63)(hl:ns.length<=63):zBV [.scr ns,.int n]=okR (.lst ((mixL ns (max n ns.length)).map .int)):=by
 unfold zBV zES;simp[zKW];rw[zE7 (n:=max n ns.length) ?_ (by lia),zA0]
 ·refine zQS (fun k r=>∃o1 o2 o3,r=[some (.scr ns,0),some (.int n,0),some (.lst (((qA9 k).map (mixC ns)).map .int),9),o1,o2,o3]) ⟨none,none,none,by simp⟩ (fun k hk r hp=>?_) fun r' hp=>?_
  ·obtain⟨o1,o2,o3,rfl⟩:=hp;have hk2:mulD (.int (k:Int)) (.int (k:Int))=some (.int ((k:Int)*k)):=zNU (by lia) (by lia);have hk3:k<=100000:=by lia
   by_cases h:k<ns.length
   ·have hi:itA ns (k:Int)=some (ns.getD k 0):=by
     have:=zQF (ns:=ns) (i:=(k:Int)) (by lia) (by lia)
     simpa using this
    simp[h,hi,hk2,hk3,sApp,-zN2,zSR,qCm,mixC]
   ·simp[h,hk2,hk3,sApp,-zN2,zSR,qCm,mixC]
  ·obtain⟨o1,o2,o3,rfl⟩:=hp;simp[mixL]
 ·simp[minD,maxD]
  split<;>split<;>lia
@[simp] theorem x_eNew0(c:Str)(ρ:Rh):zUY c ρ=okR (.ins c []):=rfl
@[simp] theorem x_eNew(c:Str)(fl:List Str)(am:AM)(ρ:Rh):eNew c fl am ρ=zA3 (am ρ) fun ds=>match svsD ds with
 |some vs=>if vs.length=fl.length then okR (.ins c (fl.zip vs))else none
 |none=>none:=rfl
@[simp] theorem x_eFld(hs:List Str)(f:Str)(e:EM)(ρ:Rh):eFld hs f e ρ=zA3 (e ρ) fun d=>match d with
 |.ins c fs=>if c∈hs then(match fs.lookup f with|some v=>okR (dSv v)|none=>none)else none
 |_=>none:=rfl
@[simp] theorem x_eMeth(tb:List (Str×FM))(m:Str)(e:EM)(am:AM)(ρ:Rh):zUZ tb m e am ρ=zA3 (e ρ) fun d=>match d with
 |.ins c fs=>match tb.lookup c with
  |some g=>match fs.lookup m with
   |none=>zA3 (am ρ) fun ds=>g (d::ds)
   |some _=>none
  |none=>none
 |_=>none:=rfl
@[simp] theorem x_eIsO(ys ns:List Str)(e:EM)(ρ:Rh):eIsO ys ns e ρ=zA3 (e ρ) fun d=>match d with
 |.ins c _=>if c∈ys then okR (.bl true)else if c∈ns then okR (.bl false)else none
 |_=>none:=rfl
@[simp] theorem v_dins(c:Str)(fs:List (Str×Sv)):(Dt.ins c fs).dep=1000:=rfl
theorem len1(x:Nat):lenD [sgn x]=some (.int 1):=zNX (cs:=[x]) (by simp)
structure Seats(R:List (List Nat))(n:Nat):Prop where
 len:R.length=n
 per:∀l∈R,l.Perm [0,1,2,3]
end Mp
namespace Mp
open Mi PySem
section
variable{R:List (List Nat)}{row:List Nat}{n:Nat}(hS:Seats R n)(tw:Twice n row)
include hS
include tw
omit hS in
omit hS in
omit hS in
omit hS in
omit hS tw in
omit hS tw in
end
end Mp
namespace Mp
open Mi PySem
end Mp
namespace Mp
open Mi PySem
section
variable{ts cs:List Nat}{n e:Nat}(hN:NetN ts (4*n))(hne:∀x,x<4*n->nt ts x≠x)(hl:cs.length=n)(hw:∀c∈cs,c<3)(he:e<4*n)
include hN hne hl hw he
variable{p:Nat}(p3:itr (stp ts cs) p e=e)(p4:∀q,1<=q->q<p->itr (stp ts cs) q e≠e)
include p3 p4
omit hN hne hl hw he p3 p4 in
end
end Mp
namespace Mp
open Mi PySem
structure Rnds(ts cs:List Nat)(n:Nat)(RR:List (List Nat)):Prop where
 prog:zJC [rowD (numL ts),rowD (numL cs)]=okR (zRI RR)
 law:zGZ [rowD (numL ts),rowD (numL cs)]=okR (zRI RR)
 pos:1<=RR.length
 le:RR.length<=4*n
 one:RR.length=1->∃F:List Nat,zGB [rowD (numL ts),rowD (numL cs),.int 0]=okR (rowD (numL F))/\F.length=4*n/\∀x∈F,x<4*n
def rowW(cs:List Nat):List Nat:=cs.map fun c=>(ords cs).idxOf c
structure Wd(n:Nat)(cs:List Nat):Prop where
 tw:Twice n (rowW cs)
 wr:wrd (ords cs) (rowW cs)=cs
 ap:zV4 (ords cs) (rowW cs)
 od:ords (rowW cs)=qA9 n
 ol:(ords cs).length=n
 len:cs.length=2*n
section
variable{n:Nat}{row:List Nat}(t:Twice n row)
include t
end
end Mp
namespace Mp
open Mi PySem
def fm(cs:List Nat)(s:Nat)(b:Bool):List Nat:=if b=true then(sh s cs).reverse else sh s cs
end Mp
namespace Mp
open Mi PySem
section
variable{ts C':List Nat}{n:Nat}(hN:NetN ts (4*n))(hne:∀x,x<4*n->nt ts x≠x)(hl:C'.length=n)(hw:∀c∈C',c<3)(hn:n<=10)(n1:1<=n)
include hN hne hl hw hn n1
end
end Mp
namespace Mp
open Mi PySem
theorem cn2{m:FM}{e1 e2:EM}{ρ:Rh}{d1 d2 d:Dt}(h1:e1 ρ=okR d1)(h2:e2 ρ=okR d2)(h:m [d1,d2]=okR d):eCallN m (aCons e1 (aCons e2 aNil)) ρ=okR d:=by
 unfold eCallN;rw[zBJ,h1,zA0,zBJ,h2,zA0,zEJ,zA0,zA0,zA0,h];rfl
theorem cn3{m:FM}{e1 e2 e3:EM}{ρ:Rh}{d1 d2 d3 d:Dt}(h1:e1 ρ=okR d1)(h2:e2 ρ=okR d2)(h3:e3 ρ=okR d3)(h:m [d1,d2,d3]=okR d):eCallN m (aCons e1 (aCons e2 (aCons e3 aNil))) ρ=okR d:=by
 unfold eCallN;rw[zBJ,h1,zA0,zBJ,h2,zA0,zBJ,h3,zA0,zEJ,zA0,zA0,zA0,zA0,h];rfl
theorem zC8{r:Ro}{i m n:Nat}{l:Nat}{f:Nat->Nat->Int}(a b:Nat){v:Int}{e0 e1 e2:EM}{P:Ro->Prop}(h:r[i]?=some (some (mat (tab n f),l+2)))(h0:e0 (full r)=okR (.int (a:Nat)))(h1:e1 (full r)=okR (.int (b:Nat)))(h2:e2 (full r)=okR (.int v))(ha:a<n)(hb:b<n)
  (hP:∀g,g=(fun x y=>if x=a/\y=b then v else f x y)->P (r.set i (some (mat (tab n g),l+2)))):nxR (sItem2 i m e0 e1 e2 r) P:=
 zDC (zM5 h h0 h1 h2 ha hb) (hP _ rfl)
structure BI(n p:Nat)(fl:Bool)(f:Nat->Nat->Int):Prop where
 le:p<=n
 bits:Bits n f
 sym:Sym n f
 out:∀a b,a<n->b<n->p<=a\/p<=b->f a b=0
 ns:fl=true->∀x,RowN n x->(∀a,a<p->sumN n (fun b=>f a b*x.getD b 0)%2=0)->∀b,b<p->x.getD b 0=0
noncomputable def allv:Nat->List (List Int)
 |0=>[[]]
 |n+1=>(allv n).map (qFw 0)++(allv n).map (qFw 1)
noncomputable def cnt(n:Nat)(P:List Int->Prop):Nat:=by
 classical exact((allv n).filter fun x=>decide (P x)).length
def Ev(n:Nat)(g:Nat->Int)(x:List Int):Prop:=sumN n (fun k=>g k*x.getD k 0)%2=0
structure BC(n p q:Nat)(f:Nat->Nat->Int):Prop where
 out:∀a b,a<n->b<n->p<=a\/p<=b->f a b=0
 num:cnt n (fun x=>∀a,a<p->Ev n (f a) x)*2 ^ p=2 ^ (n+q)
section
variable{n i j:Nat}{f:Nat->Nat->Int}(hb:Bits n f)(hi:i<n)(hj:j<n)(hij:i≠j)
include hi in
include hi hij in
include hb hi hj hij in
include hb hi hj hij in
end
end Mp
namespace Mp
open Mi PySem
noncomputable def fst1:List Int->Nat
 |[]=>0
 |a::r=>if a=1 then 0 else fst1 r+1
section
variable{n:Nat}
def Lds(ls:List (List Int)):Prop:=ls.Pairwise fun l s=>s.getD (fst1 l) 0=0
structure GP(n:Nat)(T ls:List (List Int))(k:Nat):Prop where
 rows:∀l∈ls,RowN n l/\1∈l
 lds:Lds ls
 le:ls.length<=k
 ker:∀x,RowN n x->(Ker ls x↔Ker (T.take k) x)
structure GK(n:Nat)(T:List (List Int))(ks:List Nat)(k:Nat):Prop where
 lt:∀j∈ks,j<k
 up:ks.Pairwise (· < ·)
 ker:∀x,RowN n x->(Ker (ks.map fun j=>T.getD j []) x↔Ker (T.take k) x)
end
end Mp
namespace Mp
open Mi PySem
theorem zO4(i:Nat)(ks:List Nat):hasD (.int (i:Int)) ((numL ks).map Dt.int)=some (decide (i∈ks)):=by
 rw[hasD,if_pos ⟨rfl,zD2 _⟩]
 congr 1
 unfold numL;rw[qBc]
 induction ks with
 |nil=>rfl
 |cons k r ih=>
  rw[qAl,qBt,ih]
  by_cases h:i=k
  ·subst h;simp
  ·simp[h,show ¬(k:Int)=(i:Int) by omega]
theorem zM9(i:Nat)(ks:List Nat):inD false (.int (i:Int)) (rowD (numL ks))=some (.bl (decide (i∈ks))):=by
 show(hasD (.int (i:Int)) ((numL ks).map Dt.int)).map _=_
 rw[zO4];rfl
noncomputable def zQ7(n:Nat)(f:Nat->Nat->Int)(p:Nat):List Nat:=(qA9 n).filter fun k=>decide (f p k=1)
theorem bitx(a b:Int)(ha:a=0\/a=1)(hb:b=0\/b=1):Builtin.bitXor a b=if b=1 then 1-a else a:=by
 rcases ha with rfl|rfl<;>rcases hb with rfl|rfl<;>decide
theorem zTS{x:Str}{fm:FM}{i:Nat}{e1 e2:EM}{ρ:Rh}{c d1 d2 r:Dt}(h:ρ[i]?=some (some (.fn x c)))(h1:e1 ρ=okR d1)(h2:e2 ρ=okR d2)(hc:c.dep<=40)(z1:d1.dep=0)(z2:d2.dep=0)(hf:fm [d1,d2,c]=okR r)(hr:r.dep=0)(ls:List (Str×FM))(hl:ls.lookup x=some fm):eCallF ls i (aCons e1 (aCons e2 aNil)) ρ=okR r:=by
 unfold eCallF;rw[h];dsimp only;rw[hl];dsimp only;rw[if_pos hc,zBJ,h1,zA0,zBJ,h2,zA0,zEJ,zA0,zA0,zA0,if_pos (by simp[Dt.depL,z1,z2])]
 show(match fm [d1,d2,c]with|some (.ok r)=>if r.dep=0 then okR r else none|_=>none)=_
 rw[hf];exact if_pos hr
theorem zPC{f:FM}{e:EM}{x:Str}{i:Nat}{ρ:Rh}{c d r:Dt}(h:e ρ=okR d)(hi:ρ[i]?=some (some c))(hf:f [d,.fn x c]=okR r)(hr:r.dep<=40):eCallL f e x i ρ=okR r:=by
 unfold eCallL;rw[h,zA0,hi]
 show(match f [d,.fn x c]with|some (.ok r)=>if r.dep<=40 then okR r else none|_=>none)=_
 rw[hf];exact if_pos hr
structure LR(n:Nat)(T A:List (List Int))(ps:List (List Int×Nat))(p q:Nat):Prop where
 rows:∀r∈A,RowN n r
 zero:∀r∈A,∀k,k<p->r.getD k 0=0
 one:∀a∈ps,a.1.getD a.2 0=1/\a.2<p
 pw:ps.Pairwise fun a b=>b.1.getD a.2 0=0
 num:ps.length+q=p
 ker:∀x,RowN n x->(Ker T x↔Ker (ps.map qFs) x/\Ker A x)
section
variable{n p q:Nat}{T A:List (List Int)}{ps:List (List Int×Nat)}
end
end Mp
namespace Mp
open Mi PySem
noncomputable def kept(n:Nat)(c:List Int):List Nat:=(qA9 n).filter fun k=>decide (c.getD k 0≠0)
structure Cst(ts C:List Nat)(n:Nat)(F:Nat->Int):Prop where
 hb:∀e,Bit (F e)
 hn:∀e,e<4*n->F (nt ts e)=F e
 hj:∀e,e<4*n->F (jn C e)=F e
structure Pv1(n:Nat)(f g:Nat->Nat->Int)(v:Nat):Prop where
 bf:Bits n f
 bg:Bits n g
 lt:v<n
 f1:f v v=1
 g1:g v v=1
 row:∀i,i<n->i≠v->g v i=f v i
 col:∀i,i<n->i≠v->g i v=f i v
 inn:∀i j,i<n->j<n->i≠v->j≠v->g i j%2=(f i j+f i v*f v j)%2
structure Pv2(n:Nat)(f g:Nat->Nat->Int)(u v:Nat):Prop where
 bf:Bits n f
 bg:Bits n g
 lu:u<n
 lv:v<n
 ne:u≠v
 fd:f u u=0/\f v v=0/\f u v=1/\f v u=1
 gd:g u u=0/\g v v=0/\g u v=1/\g v u=1
 row:∀i,i<n->i≠u->i≠v->g u i=f v i/\g v i=f u i
 col:∀i,i<n->i≠u->i≠v->g i u=f i v/\g i v=f i u
 inn:∀i j,i<n->j<n->i≠u->i≠v->j≠u->j≠v->g i j%2=(f i j+f i u*f v j+f i v*f u j)%2
theorem Pv2.symm{n:Nat}{f g:Nat->Nat->Int}{u v:Nat}(p:Pv2 n f g u v):Pv2 n g f u v:=⟨p.bg,p.bf,p.lu,p.lv,p.ne,p.gd,p.fd,fun i hi a b=>⟨(p.row i hi a b).2.symm,(p.row i hi a b).1.symm⟩,fun i hi a b=>⟨(p.col i hi a b).2.symm,(p.col i hi a b).1.symm⟩,fun i j hi hj a b c d=>by
 have h:=p.inn i j hi hj a b c d;rw[(p.col i hi a b).1,(p.col i hi a b).2,(p.row j hj c d).1,(p.row j hj c d).2]
 rcases p.bf i u hi p.lu with z|z<;>rcases p.bf i v hi p.lv with w|w<;>rcases p.bf u j p.lu hj with s|s<;>rcases p.bf v j p.lv hj with t|t<;>rw[z,w,s,t]at h ⊢ <;> lia⟩
noncomputable def zDM(n:Nat)(f:Nat->Nat->Int)(p:Nat):List Nat:=(qA9 n).filter fun k=>decide (f p k=1) && !decide ((k:Int)=(p:Int))
theorem zCX{n:Nat}{f:Nat->Nat->Int}{p k:Nat}(hk:k<n):k∈zDM n f p↔f p k=1/\k≠p:=by
 unfold zDM;simp only[qCj,qCs,qAs,decide_eq_true_eq,qEa,decide_eq_false_iff_not];constructor
 ·rintro⟨_,a,b⟩;exact⟨a,fun z=>b (by lia)⟩
 ·rintro⟨a,b⟩;exact⟨hk,a,fun z=>b (by lia)⟩
theorem zKO(n p:Nat)(f:Nat->Nat->Int)(hn:n<=10)(hp:p<n):zFJ [mat (tab n f),.int (p:Int)]=okR (rowD (numL (zDM n f p))):=by
 have h1:=zNR n (fun j=>f p j) hn;have hc:eComp (iSq (eCall zCY (aCons (eB ixD (eV 0) (eV 1)) aNil))) 1 (.one 2) (tB (eB neD (eV 2) (eV 1))) (eV 2) [some (mat (tab n f)),some (.int (p:Int))]=okR (rowD (numL (zDM n f p))):=by
  rw[zC4 (ρ:=[some (mat (tab n f)),some (.int (p:Int))]) (i:=2) (fun k:Nat=>Dt.int (k:Int)) (fun k:Nat=>Dt.int (k:Int)) (fun k=>!decide ((k:Int)=(p:Int))) (zQ7 n f p) rfl (fun k _=>nei rfl rfl rfl) (fun k _ _=>rfl) _ ?_ ?_]
  ·rw[numD];unfold zQ7 zDM;rw[List.filter_filter]
   congr 4
   funext k
   rw[Bool.and_comm]
  ·show zA3 _ _=_;rw[c1 (d1:=rowD ((qA9 n).map fun j=>f p j)) (b2 rfl rfl (ixM hp)) h1,zA0];rfl
  ·unfold zQ7
   have:=qDl (fun k=>decide (f p k=1)) (qA9 n)
   rw[qCb]at this
   lia
 exact zBF rfl (sr hc ⟨by rw[zBY];exact qA4 1,by rw[zBY];exact qA4 1⟩)
noncomputable def chg(f:Nat->Nat->Int)(b:Nat->Nat->Bool):Nat->Nat->Int:=fun i j=>if b i j=true then 1-f i j else f i j
theorem zEQ{n:Nat}{f:Nat->Nat->Int}{x:Str}{fm:FM}{c:Dt}(b:Nat->Nat->Bool)(hn:n<=10)(hb:Bits n f)(hl:([("exchanged_at",zAO),("pivoted",zB1)]:List (Str×FM)).lookup x=some fm)(hc:c.dep<=40)(h:∀i j:Nat,i<n->j<n->fm [.int (i:Int),.int (j:Int),c]=okR (.bl (b i j))) :
  zB6 [mat (tab n f),.fn x c]=okR (mat (tab n (chg f b))):=by
 have hlen:lenD [mat (tab n f)]=some (.int (n:Int)):=by rw[lenM,zCV]
 have hd:=zAZ (tab n (chg f b));refine zBF rfl (sg (bi1 rfl hlen) (qA4 0) (sr ?_ ⟨hd,hd⟩));refine zOG (chg f b) rfl rfl (by lia) (zE7 (n:=n) (al0 rfl) (by lia)) (fun a=>zE7 (n:=n) (al0 rfl) (by lia)) fun i j hi hj=>?_
 have ht:=tm1 (zTS (ρ:=[some (mat (tab n f)),some (.fn x c),some (.int (n:Int)),some (.int (i:Nat)),some (.int (j:Nat))]) (i:=1) (e1:=eV 3) (e2:=eV 4) rfl rfl rfl hc rfl rfl (h i j hi hj) rfl [("exchanged_at",zAO),("pivoted",zB1)] hl);refine b2 (b2 (b2 rfl rfl (ixM hi)) rfl (ixR hj)) (d2:=.int (if b i j=true then 1 else 0)) ?_ ?_
 ·cases z:b i j with
  |true=>rw[z]at ht;exact if1 ht rfl
  |false=>rw[z]at ht;exact if0 ht rfl
 ·rw[zU0,bitx _ _ (hb i j hi hj) (by split<;>lia)];unfold chg;cases z:b i j with
  |true=>rw[if_pos rfl,if_pos rfl,if_pos rfl]
  |false=>rw[if_neg qAb,if_neg qAb,if_neg (by lia)]
theorem zKB{n:Nat}{f:Nat->Nat->Int}{b:Nat->Nat->Bool}(h:Bits n f):Bits n (chg f b):=fun i j hi hj=>by
 have:=h i j hi hj
 unfold chg
 split<;>lia
theorem zO3(n:Nat)(f:Nat->Nat->Int)(k:Int):zC6 [mat (tab n f),.int k]=okR (.bl (decide (0<=k)&&decide (k<n))):=by
 have hlen:lenD [mat (tab n f)]=some (.int (n:Int)):=by rw[lenM,zCV]
 refine zBF rfl (sr (an1 (a:=true) (c1 rfl (zIA k)) (b:=decide (0<=k)&&decide (k<n)) ?_) ⟨qAx _,qAx _⟩);show zA3 (okR (Dt.int 0)) _=_;rw[zA0];show zA3 (okR (Dt.int k)) _=_;rw[zA0];show zA3 (okR (Dt.bl (decide (0<=k)))) _=_;rw[zA0]
 by_cases z:0<=k
 ·show(if decide (0<=k)=true then _ else _)=_
  rw[if_pos (decide_eq_true z),bi1 (d1:=mat (tab n f)) rfl hlen,zA0,decide_eq_true z,qE2];rfl
 ·show(if decide (0<=k)=true then _ else _)=_
  rw[if_neg (by simpa using z),decide_eq_false z,qCt]
theorem alls{l:List Int}{p:Int->Bool}:allD [.lst (l.map fun x=>Dt.bl (p x))]=some (.bl (l.all p)):=by
 show(Mi.boolsD (l.map fun x=>Dt.bl (p x))).map _=_
 have:∀l:List Int,Mi.boolsD (l.map fun x=>Dt.bl (p x))=some (l.map p):=fun l=>by
  induction l with
  |nil=>rfl
  |cons x t ih=>rw[qAl,Mi.boolsD,ih];rfl
 rw[this];show some (Dt.bl ((l.map p).all id))=_;rw[qEf];rfl
theorem zJF(n:Nat)(f:Nat->Nat->Int)(l:List Int)(hl:l.length<=1000)(o:Option Dt):eBi allD (aCons (eComp (iSq (eV 1)) 1 (.one 3) Mi.tYes (eCallN zC6 (aCons (eV 0) (aCons (eV 3) aNil)))) aNil) [some (mat (tab n f)),some (rowD l),o]=okR (.bl (l.all fun k=>decide (0<=k)&&decide (k<n))):=
 bi1 (zD6 Dt.int (fun k=>Dt.bl (decide (0<=k)&&decide (k<n))) l rfl rfl (fun k _=>cn2 rfl rfl (zO3 n f k)) _ rfl (by lia)) alls
theorem zEU(ks:List Nat)(i j:Nat):zB1 [.int (i:Int),.int (j:Int),rowD (numL ks)]=okR (.bl (decide (i∈ks)&&decide (j∈ks))):=by
 unfold zB1 lamF;refine Eq.trans (if_pos (by rfl)) ?_;exact an1 (b2 rfl rfl (zM9 i _)) (b2 rfl rfl (zM9 j _))
def pvA(n:Nat)(f:Nat->Nat->Int)(v:Nat):Nat->Nat->Int:=chg f fun i j=>decide (i∈zDM n f v)&&decide (j∈zDM n f v)
theorem zFE{n:Nat}{f:Nat->Nat->Int}{v:Nat}(hn:n<=10)(hb:Bits n f)(hv:v<n)(h1:f v v=1):zB3 [mat (tab n f),rowD (numL [v])]=okR (mat (tab n (pvA n f v))):=by
 have hd:=zAZ (tab n (pvA n f v));have hall:=zJF n f (numL [v]) (by simp[numL]) none;have ht:(numL [v]).all (fun k=>decide (0<=k)&&decide (k<n))=true:=by
  show(decide ((0:Int)<=(v:Int))&&decide ((v:Int)<n)&&true)=true
  simp
  lia
 rw[ht]at hall;have i0:ixD (rowD (numL [v])) (.int 0)=some (.int (v:Int)):=rfl;refine zBF rfl (sp (tn1 (tm1 hall)) (sx (ta1 (eqi (bi1 rfl rfl) rfl rfl) (eqi (b2 (b2 rfl (b2 rfl rfl i0) (ixM hv)) (b2 rfl rfl i0) (ixR hv)) rfl (decide_eq_true h1))) ?_));refine sg (cn2 rfl (b2 rfl rfl i0) (zKO n v f hn hv)) (by rw[zBY];exact qA4 1) (sr (zPC rfl rfl (zEQ _ hn hb rfl (by rw[zBY];decide) fun i j _ _=>zEU _ i j) (by lia)) ⟨hd,hd⟩)
noncomputable def sdD(n:Nat)(a b:Nat->Int):Dt:=.lst ((qA9 n).map fun i=>Dt.tup [.int (a i),.int (b i)])
theorem zN9{n:Nat}{a b:Nat->Int}{i:Nat}(h:i<n):ixD (sdD n a b) (.int (i:Int))=some (.tup [.int (a i),.int (b i)]):=by
 refine zI9 rfl ?_;simp[h]
theorem zOO(n:Nat)(a b:Nat->Int):(sdD n a b).dep<=2:=by
 unfold sdD;rw[v_dl]
 have:∀l:List Nat,Dt.depL (l.map fun i=>Dt.tup [.int (a i),.int (b i)])<=1:=fun l=>by
  induction l with
  |nil=>exact qAx _
  |cons x t ih=>
   rw[qAl,zDG]
   have:(Dt.tup [.int (a x),.int (b x)]).dep=1:=by simp
   rw[this];exact Nat.max_le.mpr ⟨qA4 1,ih⟩
 have:=this (qA9 n)
 lia
noncomputable def off(a:Nat->Int)(u:Nat):Nat->Int:=fun i=>if i=u then 0 else a i
theorem zL8{n:Nat}{a b:Nat->Int}{r:Ro}{i u:Nat}{e1:EM}(h:r[i]?=some (some (sdD n a b,2)))(h1:e1 (full r)=okR (.int (u:Int)))(hu:u<n):sItem i 1 e1 (eTup (aCons (eC (.int 0)) (aCons (eC (.int 0)) aNil))) r=okR (.nx (r.set i (some (sdD n (off a u) (off b u),2)))):=by
 unfold sItem;rw[et2 rfl rfl,zA0,h];show zA3 (e1 (full r)) _=_;rw[h1,zA0];dsimp only;rw[zK1 (by lia) (by simp;lia)];dsimp only;rw[if_pos (by simp),qBd]
 congr 5
 unfold sdD
 congr 1
 apply qCx
 intro k;rw[qCy]
 by_cases z:u=k
 ·subst z;rw[if_pos rfl,if_pos (by simp;lia)];simp[hu,off]
 ·rw[if_neg z]
  by_cases hk:k<n
  ·simp[hk,off,show ¬k=u from fun y=>z y.symm]
  ·simp[hk]
noncomputable def exB(a b:Nat->Int)(i j:Nat):Bool:=(decide (a i=1)||decide (b i=1))&&((decide (a j=1)||decide (b j=1)) && !(decide (a i=a j)&&decide (b i=b j)))
theorem zP3(x y:Int):inD false (.int 1) (.tup [.int x,.int y])=some (.bl (decide (x=1)||decide (y=1))):=by
 show(hasD (.int 1) [.int x,.int y]).map _=_
 unfold hasD;rw[if_pos (by simp)];simp[Dt.eq];rfl
theorem zOZ(x y z w:Int):neD (.tup [.int x,.int y]) (.tup [.int z,.int w])=some (.bl (!(decide (x=z)&&decide (y=w)))):=by
 unfold neD;rw[if_pos (by simp)];simp[Dt.eq,Dt.eqL];rfl
theorem zJE{n:Nat}{a b:Nat->Int}{i j:Nat}(hi:i<n)(hj:j<n):zAO [.int (i:Int),.int (j:Int),sdD n a b]=okR (.bl (exB a b i j)):=by
 unfold zAO lamF;refine Eq.trans (if_pos (by rfl)) ?_;exact an1 (b2 rfl (b2 rfl rfl (zN9 hi)) (zP3 _ _)) (an1 (b2 rfl (b2 rfl rfl (zN9 hj)) (zP3 _ _)) (b2 (b2 rfl rfl (zN9 hi)) (b2 rfl rfl (zN9 hj)) (zOZ _ _ _ _)))
noncomputable def swp(n u v:Nat):List Nat:=((qA9 n).set u v).set v u
theorem zGM(n u v:Nat):(swp n u v).length=n:=by simp[swp]
theorem zF7{n u v:Nat}(hu:u<n)(hv:v<n){i:Nat}(hi:i<n):(swp n u v).getD i 0=if i=v then u else if i=u then v else i:=by
 unfold swp;rw[qA6]
 by_cases z:i=v
 ·subst z;rw[if_pos rfl,qAc (by simp;lia)];rfl
 ·rw[if_neg z,qAd fun y=>z y.symm]
  by_cases w:i=u
  ·subst w;rw[if_pos rfl,qAc (by simp;lia)];rfl
  ·rw[if_neg w,qAd fun y=>w y.symm,List.getElem?_range hi];rfl
theorem zR9{n u v:Nat}(hu:u<n)(hv:v<n):∀k∈swp n u v,k<n:=fun k hk=>by
 obtain⟨i,hi,e⟩:=qB8.mp hk;rw[zGM]at hi
 have:=zF7 hu hv hi
 rw[qA6,qAe (by rw[zGM];exact hi),e]at this;have h2:k=if i=v then u else if i=u then v else i:=this
 rw[h2]
 split
 ·exact hu
 ·split
  ·exact hv
  ·exact hi
def sdA(f:Nat->Nat->Int)(u v:Nat)(w:Nat):Nat->Int:=off (off (f w) u) v
def pvB(n:Nat)(f:Nat->Nat->Int)(u v:Nat):Nat->Nat->Int:=sub (swp n u v) (chg f (exB (sdA f u v u) (sdA f u v v)))
theorem zME{n:Nat}{f:Nat->Nat->Int}{u v:Nat}(hn:n<=10)(hb:Bits n f)(hu:u<n)(hv:v<n):zBS [mat (tab n f),.int (u:Int),.int (v:Int)]=okR (mat (tab n (pvB n f u v))):=by
 have hlen:lenD [mat (tab n f)]=some (.int (n:Int)):=by rw[lenM,zCV]
 have hd:=zAZ (tab n (pvB n f u v));have hd2:=zAZ (tab n (chg f (exB (sdA f u v u) (sdA f u v v))));have hr:rangeD [.int (n:Int)]=some (rowD (numL (qA9 n))):=by
  rw[zPK (by lia) (by lia)];show some (Dt.lst (nums 0 (n:Int).toNat))=_;rw[qBd,zCJ,numD]
 have hc:∀o4 o5:Option Dt,eComp (iR1 (aCons (eBi lenD (aCons (eV 0) aNil)) aNil)) 1 (.one 6) Mi.tYes (eTup (aCons (eB ixD (eB ixD (eV 0) (eV 1)) (eV 6)) (aCons (eB ixD (eB ixD (eV 0) (eV 2)) (eV 6)) aNil))) [some (mat (tab n f)),some (.int (u:Int)),some (.int (v:Int)),none,o4,o5]=okR (sdD n (f u) (f v)):=fun o4 o5=>
  zC1 (fun i=>Dt.tup [.int (f u i),.int (f v i)]) n rfl rfl (fun k hk=>et2 (b2 (b2 rfl rfl (ixM hu)) rfl (ixR hk)) (b2 (b2 rfl rfl (ixM hv)) rfl (ixR hk))) _ (zE7 (n:=n) (al0 (bi1 rfl hlen)) (by lia)) (by lia)
 have hpart:=zGS n (chg f (exB (sdA f u v u) (sdA f u v v))) (swp n u v) (zR9 hu hv) (by rw[zGM];lia);rw[zGM]at hpart;have hcw:=zEQ (x:="exchanged_at") (c:=sdD n (sdA f u v u) (sdA f u v v)) (exB (sdA f u v u) (sdA f u v v)) hn hb rfl (qAh (zOO _ _ _) (by decide)) fun i j hi hj=>zJE hi hj
 have s1:∀a:List Nat,(numL a).set u (v:Int)=numL (a.set u v):=fun a=>by unfold numL;rw[qDk]
 have s2:∀a:List Nat,(numL a).set v (u:Int)=numL (a.set v u):=fun a=>by unfold numL;rw[qDk]
 have it1:=zI8 (r:=[some (mat (tab n f),0),some (.int (u:Int),0),some (.int (v:Int),0),some (sdD n (sdA f u v u) (sdA f u v v),2),some (mat (tab n (chg f (exB (sdA f u v u) (sdA f u v v)))),2),some (rowD (numL (qA9 n)),1)]) (i:=5) (m:=0) (l:=0) (a:=u) (xs:=numL (qA9 n)) (v:=(v:Int)) (e1:=eV 1) (e2:=eV 2) rfl rfl rfl (by simp[numL];lia);rw[s1]at it1;have it2:=zI8 (r:=[some (mat (tab n f),0),some (.int (u:Int),0),some (.int (v:Int),0),some (sdD n (sdA f u v u) (sdA f u v v),2),some (mat (tab n (chg f (exB (sdA f u v u) (sdA f u v v)))),2),some (rowD (numL ((qA9 n).set u v)),1)]) (i:=5) (m:=0) (l:=0) (a:=v) (xs:=numL ((qA9 n).set u v)) (v:=(u:Int)) (e1:=eV 2) (e2:=eV 1) rfl rfl rfl (by simp[numL];lia);rw[s2]at it2;exact zBF rfl (sg (hc none none) (zOO _ _ _) (sw (zL8 rfl rfl hu) (sw (zL8 rfl rfl hv) (sg (zPC rfl rfl hcw (by lia)) hd2 (sg (bi1 (bi1 rfl hlen) hr) (by rw[zBY];exact qA4 1) (sw it1 (sw it2 (sr (c2 rfl rfl hpart) ⟨hd,hd⟩))))))))
theorem zLE{n:Nat}{f:Nat->Nat->Int}{u v:Nat}(hb:Bits n f)(hs:Sym n f)(hu:u<n)(hv:v<n)(ne:u≠v)(h1:f u u=0)(h2:f v v=0)(h3:f u v=1):Pv2 n f (pvB n f u v) u v:=by
 have h4:f v u=1:=by rw[hs v u hv hu];exact h3
 have a0:∀w x,x=u\/x=v->sdA f u v w x=0:=fun w x hx=>by
  unfold sdA off
  by_cases z:x=v
  ·rw[if_pos z]
  ·rw[if_neg z,if_pos (hx.resolve_right z)]
 have a1:∀w x,x≠u->x≠v->sdA f u v w x=f w x:=fun w x z1 z2=>by
  unfold sdA off;rw[if_neg z2,if_neg z1]
 have out:∀i j,(i=u\/i=v)\/(j=u\/j=v)->chg f (exB (sdA f u v u) (sdA f u v v)) i j=f i j:=fun i j z=>by
  unfold chg;refine if_neg ?_;unfold exB
  rcases z with z|z
  ·rw[a0 u i z,a0 v i z];simp
  ·rw[a0 u j z,a0 v j z];simp
 have at':∀i j,i<n->j<n->pvB n f u v i j=chg f (exB (sdA f u v u) (sdA f u v v)) (if i=v then u else if i=u then v else i) (if j=v then u else if j=u then v else j):=fun i j hi hj=>by
  unfold pvB sub;rw[zF7 hu hv hi,zF7 hu hv hj]
 have fu:(if u=v then u else if u=u then v else u)=v:=by rw[if_neg ne,if_pos rfl]
 have fv:(if v=v then u else if v=u then v else v)=u:=if_pos rfl;have fo:∀i,i≠u->i≠v->(if i=v then u else if i=u then v else i)=i:=fun i z1 z2=>by rw[if_neg z2,if_neg z1]
 refine⟨hb,fun i j hi hj=>?_,hu,hv,ne,⟨h1,h2,h3,h4⟩,⟨?_,?_,?_,?_⟩,fun i hi z1 z2=>⟨?_,?_⟩,fun i hi z1 z2=>⟨?_,?_⟩,fun i j hi hj z1 z2 z3 z4=>?_⟩
 ·rw[at' i j hi hj];refine zKB hb _ _ ?_ ?_
  ·split
   ·exact hu
   ·split
    ·exact hv
    ·exact hi
  ·split
   ·exact hu
   ·split
    ·exact hv
    ·exact hj
 ·rw[at' u u hu hu,fu,out v v (.inl (.inr rfl))];exact h2
 ·rw[at' v v hv hv,fv,out u u (.inl (.inl rfl))];exact h1
 ·rw[at' u v hu hv,fu,fv,out v u (.inl (.inr rfl))];exact h4
 ·rw[at' v u hv hu,fu,fv,out u v (.inl (.inl rfl))];exact h3
 ·rw[at' u i hu hi,fu,fo i z1 z2,out v i (.inl (.inr rfl))]
 ·rw[at' v i hv hi,fv,fo i z1 z2,out u i (.inl (.inl rfl))]
 ·rw[at' i u hi hu,fu,fo i z1 z2,out i v (.inr (.inr rfl))]
 ·rw[at' i v hi hv,fv,fo i z1 z2,out i u (.inr (.inl rfl))]
 ·rw[at' i j hi hj,fo i z1 z2,fo j z3 z4,hs i u hi hu,hs i v hi hv];unfold chg exB;rw[a1 u i z1 z2,a1 v i z1 z2,a1 u j z3 z4,a1 v j z3 z4]
  rcases hb u i hu hi with a|a<;>rcases hb v i hv hi with b|b<;>rcases hb u j hu hj with c|c<;>rcases hb v j hv hj with d|d<;>rw[a,b,c,d]<;>simp<;>lia
theorem zFD{n:Nat}{f:Nat->Nat->Int}{u v:Nat}(hn:n<=10)(hb:Bits n f)(hs:Sym n f)(hu:u<n)(hv:v<n)(h1:f u u=0)(h2:f v v=0)(h3:f u v=1):zB3 [mat (tab n f),rowD (numL [u,v])]=okR (mat (tab n (pvB n f u v))):=by
 have h4:f v u=1:=by rw[hs v u hv hu];exact h3
 have hd:=zAZ (tab n (pvB n f u v));have hall:=zJF n f (numL [u,v]) (by simp[numL]) none;have ht:(numL [u,v]).all (fun k=>decide (0<=k)&&decide (k<n))=true:=by
  show((decide ((0:Int)<=(u:Int))&&decide ((u:Int)<n))&&((decide ((0:Int)<=(v:Int))&&decide ((v:Int)<n))&&true))=true
  simp
  lia
 rw[ht]at hall;have hp:=zGS n f [u,v] (fun k hk=>by simp at hk;lia) (by simp);have e2:mat (tab [u,v].length (sub [u,v] f))=mat [[0,1],[1,0]]:=by
  show mat [[f u u,f u v],[f v u,f v v]]=_;rw[h1,h2,h3,h4]
 rw[e2]at hp;have hl:∀ρ:Rh,eLst (aCons (eLst (aCons (eC (.int 0)) (aCons (eC (.int 1)) aNil))) (aCons (eLst (aCons (eC (.int 1)) (aCons (eC (.int 0)) aNil))) aNil)) ρ=okR (mat [[0,1],[1,0]]):=fun ρ=>el2 (el2 rfl rfl) (el2 rfl rfl)
 have heq:eqD (mat [[0,1],[1,0]]) (mat [[0,1],[1,0]])=some (.bl true):=by
  unfold eqD
  have:=zAZ [[0,1],[1,0]]
  rw[if_pos ⟨by lia,by lia⟩,zK3];rfl
 exact zBF rfl (sp (tn1 (tm1 hall)) (sp (ta0 (eqi (bi1 rfl rfl) rfl rfl)) (sx (tb1 (b2 (cn2 rfl rfl hp) (hl _) heq)) (sr (cn3 rfl (b2 rfl rfl rfl) (b2 rfl rfl rfl) (zME hn hb hu hv)) ⟨hd,hd⟩))))
structure Tb2(f:Nat->Nat->Int):Prop where
 bit:∀i j,f i j=0\/f i j=1
 sym:∀i j,f i j=f j i
theorem Tb2.bits{f:Nat->Nat->Int}(h:Tb2 f)(n:Nat):Bits n f:=fun i j _ _=>h.bit i j
theorem Tb2.sm{f:Nat->Nat->Int}(h:Tb2 f)(n:Nat):Sym n f:=fun i j _ _=>h.sym i j
theorem zrow(n:Nat)(hn:n<=1000):repD (.lst [.int 0]) (.int (n:Int))=some (rowD ((qA9 n).map fun _=>(0:Int))):=by
 unfold repD;dsimp only;rw[if_pos ⟨⟨by lia,by lia⟩,by simp;lia⟩,qBd]
 have:∀m:Nat,(qA5 m [Dt.int 0]).flatten=((qA9 m).map fun _=>(0:Int)).map Dt.int:=fun m=>by
  induction m with
  |zero=>rfl
  |succ m ih=>rw[List.replicate_succ',List.flatten_append,ih,qCm,qC5,qC5];rfl
 rw[this];rfl
theorem zJO(cs:List Int)(n:Nat)(b:Bool)(hn:n<=10)(hc:0<cs.length):∃f,Tb2 f/\zCB [rowD cs,.int (n:Int),.bl b]=okR (mat (tab n f)):=by
 have hz:eComp (iR1 (aCons (eV 1) aNil)) 1 (.one 7) Mi.tYes (eB repD (eLst (aCons (eC (.int 0)) aNil)) (eV 1)) [some (rowD cs),some (.int (n:Int)),some (.bl b),none,none,none,none]=okR (mat (tab n fun _ _=>0)):=by
  refine(zC1 (ρ:=[some (rowD cs),some (.int (n:Int)),some (.bl b),none,none,none,none]) (i:=7) (fun _=>rowD ((qA9 n).map fun _=>(0:Int))) n rfl rfl (fun k hk=>b2 (el1 rfl) rfl (zrow n (by lia))) _ (zE7 (n:=n) (al0 rfl) (by lia)) (by lia)).trans ?_;unfold mat tab;rw[qBc];rfl
 have key:nxR ((sForR (iR1 (aCons (eV 1) aNil)) 4 (sForR (iR1 (aCons (eB addD (eV 4) (eC (.int 1))) aNil)) 5 (sSeq (sSet 6 0 [0,5,4,1] (eB ixD (eV 0) (eB modD (eB addD (eB mulD (eV 4) (eV 1)) (eV 5)) (eBi lenD (aCons (eV 0) aNil)))))
 (sSeq (sSet 6 0 [6,5,4] (eB modD (eB divD (eV 6) (eB addD (eB addD (eC (.int 1)) (eB mulD (eC (.int 7)) (eV 4))) (eB mulD (eC (.int 61)) (eV 5)))) (eC (.int 2))))
 (sIf (Mi.tOr (tB (eB neD (eV 4) (eV 5))) (tM (eV 2))) (sSeq (sItem2 3 0 (eV 4) (eV 5) (eV 6))
 (sItem2 3 0 (eV 5) (eV 4) (eV 6))) sNil))))) [some (rowD cs,0),some (.int (n:Int),0),some (.bl b,0),some (mat (tab n fun _ _=>0),2),none,none,none]) (fun r=>∃f o4 o5 o6,Tb2 f/\r=[some (rowD cs,0),some (.int (n:Int),0),some (.bl b,0),some (mat (tab n f),2),o4,o5,o6]):=by
  rw[zF2,zE7 (n:=n) (al0 rfl) (by lia),zA0];refine zLT (fun _ r=>∃f o4 o5 o6,Tb2 f/\r=[some (rowD cs,0),some (.int (n:Int),0),some (.bl b,0),some (mat (tab n f),2),o4,o5,o6]) ⟨_,none,none,none,⟨fun _ _=>.inl rfl,fun _ _=>rfl⟩,rfl⟩ (fun i hi r hr=>?_) fun r hr=>hr
  obtain⟨f,o4,o5,o6,tf,rfl⟩:=hr;rw[zF2,zE7 (n:=i+1) (al0 (b2 rfl rfl (adi (by lia)))) (by lia),zA0];refine zLT (fun _ r=>∃f o5 o6,Tb2 f/\r=[some (rowD cs,0),some (.int (n:Int),0),some (.bl b,0),some (mat (tab n f),2),some (.int (i:Nat),0),o5,o6]) ⟨f,o5,o6,tf,rfl⟩ (fun j hj r hr=>?_) fun r hr=>?_
  ·obtain⟨f,o5,o6,tf,rfl⟩:=hr;have m1:mulD (.int (i:Int)) (.int (n:Int))=some (.int ((i:Int)*(n:Int))):=zNU (by lia) (by lia);have m2:mulD (.int 7) (.int (i:Int))=some (.int (7*(i:Int))):=zNU (by decide) (by decide);have m3:mulD (.int 61) (.int (j:Int))=some (.int (61*(j:Int))):=zNU (by decide) (by decide);have a1:=Int.emod_nonneg ((i:Int)*(n:Int)+(j:Int)) (show((cs.length:Nat):Int)≠0 by lia);have a2:=Int.emod_lt_of_pos ((i:Int)*(n:Int)+(j:Int)) (show(0:Int)<((cs.length:Nat):Int) by lia);have i1:ixD (rowD cs) (.int (((i:Int)*(n:Int)+(j:Int))%(cs.length:Int)))=some (.int (cs.getD (((i:Int)*(n:Int)+(j:Int))%(cs.length:Int)).toNat 0)):=zK2 a1 a2
   generalize hw:((i:Int)*(n:Int)+(j:Int))%(cs.length:Int)=w at i1
   generalize cs.getD w.toNat 0=x at i1
   refine zEK fun bb hb=>zDC (ss (b2 rfl (b2 (b2 (b2 rfl rfl m1) rfl (adi rfl)) (bi1 rfl (lenR cs)) (mdi (by lia) hw)) i1) (qA4 0)) ?_
   subst hb;refine zEK fun bb hb=>zDC (ss (b2 (b2 rfl (b2 (b2 rfl (b2 rfl rfl m2) (adi rfl)) (b2 rfl rfl m3) (adi rfl)) (dvi ⟨by lia,by lia⟩)) rfl (mdi (by decide) rfl)) (qA4 0)) ?_
   subst hb;have hv:=zQR (x/(1+7*(i:Int)+61*(j:Int)))
   generalize x/(1+7*(i:Int)+61*(j:Int))%2=y at hv ⊢
   have hor:∃t:Bool,Mi.tOr (tB (eB neD (eV 4) (eV 5))) (tM (eV 2)) (full [some (rowD cs,0),some (.int (n:Int),0),some (.bl b,0),some (mat (tab n f),2),some (.int (i:Nat),0),some (.int (j:Nat),0),some (.int y,0)])=okR t:=by
    by_cases h:(i:Int)=j
    ·exact⟨b,to0 (nei rfl rfl (by rw[decide_eq_true h];rfl)) (tm1 rfl)⟩
    ·exact⟨true,to1 (nei rfl rfl (by rw[decide_eq_false h];rfl))⟩
   obtain⟨t,ht⟩:=hor;cases t with
   |false=>exact nif0 ht (zDC (zHF _) ⟨f,_,_,tf,rfl⟩)
   |true=>
    refine nif1 ht (zEK fun bb hb=>zC8 (l:=0) (f:=f) i j (v:=y) rfl rfl rfl rfl hi (by lia) fun g1 hg1=>?_);subst hb;refine zC8 (l:=0) (f:=g1) j i (v:=y) rfl rfl rfl rfl (by lia) hi fun g2 hg2=>⟨g2,_,_,⟨fun p q=>?_,fun p q=>?_⟩,rfl⟩
    ·rw[hg2,hg1]
     show(if p=j/\q=i then y else if p=i/\q=j then y else f p q)=0\/(if p=j/\q=i then y else if p=i/\q=j then y else f p q)=1
     split
     ·exact hv
     ·split
      ·exact hv
      ·exact tf.bit p q
    ·rw[hg2,hg1]
     show(if p=j/\q=i then y else if p=i/\q=j then y else f p q)=(if q=j/\p=i then y else if q=i/\p=j then y else f q p)
     by_cases c1:p=j/\q=i
     ·rw[if_pos c1]
      by_cases c2:q=j/\p=i
      ·rw[if_pos c2]
      ·rw[if_neg c2,if_pos ⟨c1.2,c1.1⟩]
     ·rw[if_neg c1]
      by_cases c2:p=i/\q=j
      ·rw[if_pos c2,if_pos ⟨c2.2,c2.1⟩]
      ·rw[if_neg c2,if_neg (fun z=>c2 ⟨z.2,z.1⟩),if_neg (fun z=>c1 ⟨z.2,z.1⟩)];exact tf.sym p q
  ·obtain⟨f,o5,o6,tf,rfl⟩:=hr;exact⟨f,_,_,_,tf,rfl⟩
 obtain⟨r',g1,f,o4,o5,o6,tf,rfl⟩:=zDL key;refine⟨f,tf,zBF rfl (sg hz (zAZ _) (sw g1 ?_))⟩;show sRetV 2 3 _=_;unfold sRetV
 show(if _ then _ else _)=_
 rw[if_pos (.inl rfl)]
theorem nin2(v i j:Int):inD true (.int v) (.tup [.int i,.int j])=some (.bl (!(decide (i=v)||decide (j=v)))):=by
 unfold inD hasD;dsimp only;rw[if_pos (by simp)];simp[Dt.eq];rfl
theorem zQO{n:Nat}{f:Nat->Nat->Int}{ρ:Rh}{i m:Nat}(hm:m=ρ.length)(hi:ρ[i]?=some (some (mat (tab n f))))(hn:n<=1000):eComp (iSq (eV i)) 1 (.one m) Mi.tYes (eBi listD (aCons (eV m) aNil)) ρ=okR (mat (tab n f)):=by
 refine zD6 rowD rowD (tab n f) rfl hm (fun r _=>bi1 (d1:=rowD r) (v1 (by rw[hm,qA8 (qA4 _)];simp)) rfl) _ ?_ (by rw[zCV];lia);show zA3 (eV i ρ) _=_;rw[v1 hi];rfl
theorem zLZ{n v:Nat}{f:Nat->Nat->Int}(hn:n<=10)(hv:v<n)(t:Tb2 f):zCL [mat (tab n f),.int (v:Int)]=okR (mat (tab n (pvA n f v))):=by
 have hlen:lenD [mat (tab n f)]=some (.int (n:Int)):=by rw[lenM,zCV]
 have pA:∀i j,i<n->j<n->pvA n f v i j=if(i≠v/\j≠v)/\f i v=1/\f v j=1 then 1-f i j else f i j:=fun i j hi hj=>by
  unfold pvA chg
  by_cases z:(i≠v/\j≠v)/\f i v=1/\f v j=1
  ·rw[if_pos z,if_pos (by
    rw[qAs,decide_eq_true_eq,decide_eq_true_eq,zCX hi,zCX hj,t.sym v i];exact⟨⟨z.2.1,z.1.1⟩,z.2.2,z.1.2⟩)]
  ·rw[if_neg z,if_neg (fun y=>z (by
    rw[qAs,decide_eq_true_eq,decide_eq_true_eq,zCX hi,zCX hj,t.sym v i]at y;exact⟨⟨y.1.2,y.2.2⟩,y.1.1,y.2.1⟩))]
 refine zBF rfl (sg (zQO (n:=n) (f:=f) rfl rfl (by lia)) (zAZ _) (zHP fun bb hb=>?_));rw[zF2,zE7 (n:=n) (al0 (bi1 rfl hlen)) (by lia),zA0];refine zLT (fun k r=>∃g o3 o4,r=[some (mat (tab n f),0),some (.int (v:Int),0),some (mat (tab n g),2),o3,o4]/\∀i j,i<n->j<n->g i j=if i<k then pvA n f v i j else f i j) ⟨f,none,none,rfl,fun i j _ _=>by rw[if_neg (by lia)]⟩ (fun k hk r hr=>?_) fun r hr=>?_
 ·obtain⟨g,o3,o4,rfl,hg⟩:=hr;rw[zF2,zE7 (n:=n) (al0 (bi1 rfl hlen)) (by lia),zA0];refine zLT (fun m r=>∃g o4,r=[some (mat (tab n f),0),some (.int (v:Int),0),some (mat (tab n g),2),some (.int (k:Nat),0),o4]/\∀i j,i<n->j<n->g i j=if i<k\/(i=k/\j<m)then pvA n f v i j else f i j) ⟨g,o4,rfl,fun i j hi hj=>by
   rw[hg i j hi hj]
   by_cases z:i<k
   ·rw[if_pos z,if_pos (.inl z)]
   ·rw[if_neg z,if_neg (by lia)]⟩ (fun m hm r hr=>?_) fun r hr=>?_
  ·obtain⟨g,o4,rfl,hg⟩:=hr;have up:∀i j,i<n->j<n->¬(i=k/\j=m)->(if i<k\/(i=k/\j<m+1)then pvA n f v i j else f i j)=if i<k\/(i=k/\j<m)then pvA n f v i j else f i j:=fun i j _ _ z=>by
    by_cases c:i<k\/(i=k/\j<m)
    ·rw[if_pos c,if_pos (by lia)]
    ·rw[if_neg c,if_neg (by lia)]
   have x1:tB (eB (inD true) (eV 1) (eTup (aCons (eV 3) (aCons (eV 4) aNil)))) (full [some (mat (tab n f),0),some (.int (v:Int),0),some (mat (tab n g),2),some (.int (k:Nat),0),some (.int (m:Nat),0)])=okR (!(decide ((k:Int)=v)||decide ((m:Int)=v))):=tb1 (b2 rfl (et2 rfl rfl) (nin2 _ _ _));have x2:tB (eB eqD (eB ixD (eB ixD (eV 0) (eV 3)) (eV 1)) (eC (.int 1))) (full [some (mat (tab n f),0),some (.int (v:Int),0),some (mat (tab n g),2),some (.int (k:Nat),0),some (.int (m:Nat),0)])=okR (decide (f k v=1)):=eqi (b2 (b2 rfl rfl (ixM hk)) rfl (ixR hv)) rfl rfl;have x3:tB (eB eqD (eB ixD (eB ixD (eV 0) (eV 1)) (eV 4)) (eC (.int 1))) (full [some (mat (tab n f),0),some (.int (v:Int),0),some (mat (tab n g),2),some (.int (k:Nat),0),some (.int (m:Nat),0)])=okR (decide (f v m=1)):=eqi (b2 (b2 rfl rfl (ixM hv)) rfl (ixR hm)) rfl rfl
   by_cases z:(k≠v/\m≠v)/\f k v=1/\f v m=1
   ·rw[show(!(decide ((k:Int)=v)||decide ((m:Int)=v)))=true by rw[decide_eq_false (by lia),decide_eq_false (by lia)];rfl]at x1;rw[decide_eq_true z.2.1]at x2;rw[decide_eq_true z.2.2]at x3;refine nif1 (ta1 x1 (ta1 x2 x3)) (zC8 (l:=0) (f:=g) k m (v:=1-f k m) rfl rfl rfl (b2 rfl (b2 (b2 rfl rfl (ixM hk)) rfl (ixR hm)) (sbi rfl)) hk hm fun g1 hg1=>⟨g1,_,rfl,fun i j hi hj=>?_⟩);rw[hg1]
    show(if i=k/\j=m then 1-f k m else g i j)=_
    by_cases c:i=k/\j=m
    ·rw[if_pos c,if_pos (.inr ⟨c.1,by lia⟩),pA i j hi hj,c.1,c.2,if_pos z]
    ·rw[if_neg c,hg i j hi hj,up i j hi hj c]
   ·refine nif0 (c:=tAn _ (tAn _ _)) ?_ (zDC (zHF _) ⟨g,_,rfl,fun i j hi hj=>?_⟩)
    ·by_cases c1:k≠v/\m≠v
     ·rw[show(!(decide ((k:Int)=v)||decide ((m:Int)=v)))=true by rw[decide_eq_false (by lia),decide_eq_false (by lia)];rfl]at x1
      by_cases c2:f k v=1
      ·rw[decide_eq_true c2]at x2;rw[decide_eq_false (fun c3=>z ⟨c1,c2,c3⟩)]at x3;exact ta1 x1 (ta1 x2 x3)
      ·rw[decide_eq_false c2]at x2;exact ta1 x1 (ta0 x2)
     ·rw[show(!(decide ((k:Int)=v)||decide ((m:Int)=v)))=false by
       by_cases y:(k:Int)=v
       ·rw[decide_eq_true y];rfl
       ·rw[decide_eq_true (show(m:Int)=v by lia),qCp];rfl]at x1
      exact ta0 x1
    ·by_cases c:i=k/\j=m
     ·rw[hg i j hi hj,if_neg (by lia),if_pos (.inr ⟨c.1,by lia⟩),pA i j hi hj,c.1,c.2,if_neg z]
     ·rw[hg i j hi hj,up i j hi hj c]
  ·obtain⟨g,o4,rfl,hg⟩:=hr;refine⟨g,_,_,rfl,fun i j hi hj=>?_⟩;rw[hg i j hi hj]
   by_cases c:i<k+1
   ·rw[if_pos c,if_pos (by lia)]
   ·rw[if_neg c,if_neg (by lia)]
 ·obtain⟨g,o3,o4,rfl,hg⟩:=hr;subst hb;show sRetV 2 2 _=_;unfold sRetV
  show(if _ then _ else _)=_
  rw[if_pos (.inl rfl),zGL fun i j hi hj=>(hg i j hi hj).trans (if_pos hi)]
def Pg(n:Nat)(f t g:Nat->Nat->Int)(E:Nat->Nat->Prop):Prop:=∀i j,i<n->j<n->(E i j->g i j=t i j)/\(¬E i j->g i j=f i j)
theorem zHX{n:Nat}{f t g g':Nat->Nat->Int}{E:Nat->Nat->Prop}{a b:Nat}{v:Int}(h:Pg n f t g E)(hg:g'=fun x y=>if x=a/\y=b then v else g x y)(hv:v=t a b):Pg n f t g' (fun i j=>E i j\/(i=a/\j=b)):=fun i j hi hj=>by
 rw[hg]
 show(_->(if i=a/\j=b then v else g i j)=_)/\(_->(if i=a/\j=b then v else g i j)=_)
 by_cases c:i=a/\j=b
 ·rw[if_pos c];exact⟨fun _=>by rw[hv,c.1,c.2],fun z=>absurd (.inr c) z⟩
 ·rw[if_neg c];exact⟨fun z=>(h i j hi hj).1 (z.resolve_right c),fun z=>(h i j hi hj).2 fun y=>z (.inl y)⟩
theorem zPZ{n:Nat}{f t g:Nat->Nat->Int}{E:Nat->Nat->Prop}{a b:Nat}(h:Pg n f t g E)(hv:t a b=f a b):Pg n f t g (fun i j=>E i j\/(i=a/\j=b)):=fun i j hi hj=>by
 by_cases e:E i j
 ·exact⟨fun _=>(h i j hi hj).1 e,fun z=>absurd (.inl e) z⟩
 ·refine⟨fun z=>?_,fun _=>(h i j hi hj).2 e⟩;have c:=z.resolve_left e;rw[(h i j hi hj).2 e,c.1,c.2,hv]
theorem zLI{n:Nat}{f t g:Nat->Nat->Int}{E E':Nat->Nat->Prop}(h:Pg n f t g E)(e:∀i j,i<n->j<n->(E i j↔E' i j)):Pg n f t g E':=fun i j hi hj=>⟨fun z=>(h i j hi hj).1 ((e i j hi hj).mpr z),fun z=>(h i j hi hj).2 fun y=>z ((e i j hi hj).mp y)⟩
theorem zS2{n u v i j:Nat}{f:Nat->Nat->Int}(hu:u<n)(hv:v<n)(hi:i<n)(hj:j<n)(z1:i≠u)(z2:i≠v)(z3:j≠u)(z4:j≠v):pvB n f u v i j=if exB (f u) (f v) i j=true then 1-f i j else f i j:=by
 unfold pvB sub;rw[zF7 hu hv hi,zF7 hu hv hj,if_neg z2,if_neg z1,if_neg z4,if_neg z3];unfold chg exB sdA off;rw[if_neg z2,if_neg z1,if_neg z4,if_neg z3,if_neg z2,if_neg z1,if_neg z4,if_neg z3]
theorem ninL(a b c d:Int):inLD true (.tup [.int 0,.int 0]) (.lst [.tup [.int a,.int b],.tup [.int c,.int d]])=some (.bl (!((decide (a=0)&&decide (b=0))||(decide (c=0)&&decide (d=0))))):=by
 unfold inLD;dsimp only;rw[if_pos (by simp)];simp[Dt.eq,Dt.eqL];rfl
theorem zUX{f:Nat->Nat->Int}(t:Tb2 f)(u v i j:Nat):(!decide ((i:Int)=(j:Int))&&(!((decide (f i u=0)&&decide (f i v=0))||(decide (f j u=0)&&decide (f j v=0))) && !(decide (f i u=f j u)&&decide (f i v=f j v))))=exB (f u) (f v) i j:=by
 unfold exB;rw[t.sym i u,t.sym i v,t.sym j u,t.sym j v]
 by_cases e:i=j
 ·subst e;simp
 ·rw[decide_eq_false (show ¬(i:Int)=(j:Int) by lia)]
  rcases t.bit u i with a|a<;>rcases t.bit v i with b|b<;>rcases t.bit u j with c|c<;>rcases t.bit v j with d|d<;>rw[a,b,c,d]<;>decide
theorem zLY{n u v:Nat}{f:Nat->Nat->Int}(hn:n<=10)(hu:u<n)(hv:v<n)(ne:u≠v)(t:Tb2 f)(h1:f u u=0)(h2:f v v=0)(h3:f u v=1):zCK [mat (tab n f),.int (u:Int),.int (v:Int)]=okR (mat (tab n (pvB n f u v))):=by
 have hlen:lenD [mat (tab n f)]=some (.int (n:Int)):=by rw[lenM,zCV]
 have pv:=zLE (t.bits n) (t.sm n) hu hv ne h1 h2 h3
 generalize hks:((qA9 n).filter fun k:Nat=>!(decide ((u:Int)=(k:Int))||decide ((v:Int)=(k:Int))))=ks
 have mk:∀k,k∈ks↔k<n/\k≠u/\k≠v:=fun k=>by
  rw[<- hks,qCj,qCs];simp
  lia
 have lk:ks.length<=10:=by
  rw[<- hks]
  have:=qDl (fun k:Nat=>!(decide ((u:Int)=(k:Int))||decide ((v:Int)=(k:Int)))) (qA9 n)
  rw[qCb]at this
  lia
 have hc:∀o:Option Dt,eComp (iR1 (aCons (eBi lenD (aCons (eV 0) aNil)) aNil)) 1 (.one 8) (tB (eB (inD true) (eV 8) (eTup (aCons (eV 1) (aCons (eV 2) aNil))))) (eV 8) [some (mat (tab n f)),some (.int (u:Int)),some (.int (v:Int)),o,none,none,none,none]=okR (rowD (numL ks)):=fun o=>by
  rw[zC4 (ρ:=[some (mat (tab n f)),some (.int (u:Int)),some (.int (v:Int)),o,none,none,none,none]) (i:=8) (fun k:Nat=>Dt.int (k:Int)) (fun k:Nat=>Dt.int (k:Int)) (fun k=>!(decide ((u:Int)=(k:Int))||decide ((v:Int)=(k:Int)))) (qA9 n) rfl (fun k _=>tb1 (b2 rfl (et2 rfl rfl) (nin2 _ _ _))) (fun k _ _=>rfl) _ (by rw[zE7 (n:=n) (al0 (bi1 rfl hlen)) (by lia),zCJ]) (by simp;lia),hks,numD]
 have itk:∀(ρ:Rh),ρ[4]?=some (some (rowD (numL ks)))->iSq (eV 4) ρ=okR (ks.map fun k:Nat=>Dt.int (k:Int)):=fun ρ h=>by
  show zA3 (eV 4 ρ) _=_;rw[v1 h,zA0];show okR ((numL ks).map Dt.int)=_;unfold numL;rw[qBc];rfl
 have hd3:=zAZ (tab n f);refine zBF rfl (sg (zQO (n:=n) (f:=f) rfl rfl (by lia)) hd3 (sg (hc _) (by rw[zBY];exact qA4 1) (zHP fun bb hb=>?_)));rw[zHG];rw[itk _ rfl,zA0];refine zGW (fun k:Nat=>Dt.int (k:Int)) ks (fun m r=>∃g o5 o6 o7,r=[some (mat (tab n f),0),some (.int (u:Int),0),some (.int (v:Int),0),some (mat (tab n g),2),some (rowD (numL ks),0),o5,o6,o7]/\Pg n f (pvB n f u v) g fun i j=>(∃a,a<m/\ks[a]?=some i)\/((i=u\/i=v)/\∃a,a<m/\ks[a]?=some j)) ⟨f,none,none,none,rfl,fun i j _ _=>⟨fun z=>by
   rcases z with⟨a,ha,_⟩|⟨_,a,ha,_⟩<;>lia,fun _=>rfl⟩⟩ (fun m x hx r hr=>?_) fun r hr=>?_
 ·obtain⟨g,o5,o6,o7,rfl,hg⟩:=hr;obtain⟨xn,xu,xv⟩:=(mk x).mp (qAq hx);have rx:=pv.row x xn xu xv;have cx:=pv.col x xn xu xv;refine zEK fun bb2 hb2=>zC8 (l:=0) (f:=g) u x (v:=f v x) rfl rfl rfl (b2 (b2 rfl rfl (ixM hv)) rfl (ixR xn)) hu xn fun g1 hg1=>?_
  subst hb2;have p1:=zHX hg hg1 rx.1.symm;refine zEK fun bb2 hb2=>zC8 (l:=0) (f:=g1) x u (v:=f v x) rfl rfl rfl (b2 (b2 rfl rfl (ixM hv)) rfl (ixR xn)) xn hu fun g2 hg2=>?_
  subst hb2;have p2:=zHX p1 hg2 (by rw[cx.1];exact t.sym v x);refine zEK fun bb2 hb2=>zC8 (l:=0) (f:=g2) v x (v:=f u x) rfl rfl rfl (b2 (b2 rfl rfl (ixM hu)) rfl (ixR xn)) hv xn fun g3 hg3=>?_
  subst hb2;have p3:=zHX p2 hg3 rx.2.symm;refine zEK fun bb2 hb2=>zC8 (l:=0) (f:=g3) x v (v:=f u x) rfl rfl rfl (b2 (b2 rfl rfl (ixM hu)) rfl (ixR xn)) xn hv fun g4 hg4=>?_
  subst hb2;have p4:=zHX p3 hg4 (by rw[cx.2];exact t.sym u x);rw[zHG,itk _ rfl,zA0];refine zGW (fun k:Nat=>Dt.int (k:Int)) ks (fun m' r=>∃g o6 o7,r=[some (mat (tab n f),0),some (.int (u:Int),0),some (.int (v:Int),0),some (mat (tab n g),2),some (rowD (numL ks),0),some (.int (x:Int),0),o6,o7]/\Pg n f (pvB n f u v) g fun i j=>((((((∃a,a<m/\ks[a]?=some i)\/((i=u\/i=v)/\∃a,a<m/\ks[a]?=some j))\/(i=u/\j=x))\/(i=x/\j=u))\/(i=v/\j=x))\/(i=x/\j=v))\/(i=x/\∃a,a<m'/\ks[a]?=some j)) ⟨g4,o6,o7,rfl,zLI p4 fun i j _ _=>⟨fun z=>.inl z,fun z=>z.resolve_right fun⟨_,a,ha,_⟩=>by lia⟩⟩ (fun m' y hy r hr=>?_) fun r hr=>?_
  ·obtain⟨g,o6,o7,rfl,hg⟩:=hr;obtain⟨yn,yu,yv⟩:=(mk y).mp (qAq hy);have tin:=zS2 (f:=f) hu hv xn yn xu xv yu yv;have hd7:(Dt.lst [.tup [.int (f x u),.int (f x v)],.tup [.int (f y u),.int (f y v)]]).dep<=2:=by simp
   refine zEK fun bb2 hb2=>zDC (ss (el2 (et2 (b2 (b2 rfl rfl (ixM xn)) rfl (ixR hu)) (b2 (b2 rfl rfl (ixM xn)) rfl (ixR hv))) (et2 (b2 (b2 rfl rfl (ixM yn)) rfl (ixR hu)) (b2 (b2 rfl rfl (ixM yn)) rfl (ixR hv)))) hd7) ?_
   subst hb2;have ext:∀{G:Nat->Nat->Int},(Pg n f (pvB n f u v) G fun i j=>(((((((∃a,a<m/\ks[a]?=some i)\/((i=u\/i=v)/\∃a,a<m/\ks[a]?=some j))\/(i=u/\j=x))\/(i=x/\j=u))\/(i=v/\j=x))\/(i=x/\j=v))\/(i=x/\∃a,a<m'/\ks[a]?=some j))\/(i=x/\j=y))->Pg n f (pvB n f u v) G fun i j=>((((((∃a,a<m/\ks[a]?=some i)\/((i=u\/i=v)/\∃a,a<m/\ks[a]?=some j))\/(i=u/\j=x))\/(i=x/\j=u))\/(i=v/\j=x))\/(i=x/\j=v))\/(i=x/\∃a,a<m'+1/\ks[a]?=some j):=fun h=>zLI h fun i j _ _=>by
    constructor
    ·rintro((z|⟨z,a,ha,e⟩)|⟨z,e⟩)
     ·exact .inl z
     ·exact .inr ⟨z,a,by lia,e⟩
     ·exact .inr ⟨z,m',by lia,by rw[e];exact hy⟩
    ·rintro(z|⟨z,a,ha,e⟩)
     ·exact .inl (.inl z)
     ·by_cases c:a=m'
      ·rw[c,hy]at e;cases e;exact .inr ⟨z,rfl⟩
      ·exact .inl (.inr ⟨z,a,by lia,e⟩)
   have b1:tB (eB neD (eV 5) (eV 6)) (full [some (mat (tab n f),0),some (.int (u:Int),0),some (.int (v:Int),0),some (mat (tab n g),2),some (rowD (numL ks),0),some (.int (x:Int),0),some (.int (y:Int),0),some (.lst [.tup [.int (f x u),.int (f x v)],.tup [.int (f y u),.int (f y v)]],2)])=okR (!decide ((x:Int)=(y:Int))):=nei rfl rfl rfl;have b3:tB (eB (inLD true) (eTup (aCons (eC (.int 0)) (aCons (eC (.int 0)) aNil))) (eV 7)) (full [some (mat (tab n f),0),some (.int (u:Int),0),some (.int (v:Int),0),some (mat (tab n g),2),some (rowD (numL ks),0),some (.int (x:Int),0),some (.int (y:Int),0),some (.lst [.tup [.int (f x u),.int (f x v)],.tup [.int (f y u),.int (f y v)]],2)])=okR (!((decide (f x u=0)&&decide (f x v=0))||(decide (f y u=0)&&decide (f y v=0)))):=tb1 (b2 (et2 rfl rfl) rfl (ninL _ _ _ _));have b4:tB (eB neD (eB ixD (eV 7) (eC (.int 0))) (eB ixD (eV 7) (eC (.int 1)))) (full [some (mat (tab n f),0),some (.int (u:Int),0),some (.int (v:Int),0),some (mat (tab n g),2),some (rowD (numL ks),0),some (.int (x:Int),0),some (.int (y:Int),0),some (.lst [.tup [.int (f x u),.int (f x v)],.tup [.int (f y u),.int (f y v)]],2)])=okR (!(decide (f x u=f y u)&&decide (f x v=f y v))):=tb1 (b2 (b2 rfl rfl rfl) (b2 rfl rfl rfl) (zOZ _ _ _ _));have an:∀{p q:TM}{ρ:Rh}{a b:Bool},p ρ=okR a->q ρ=okR b->tAn p q ρ=okR (a&&b):=fun{p q ρ a b} e1 e2=>by
    cases a
    ·exact ta0 e1
    ·exact ta1 e1 e2
   have ht:=an b1 (an b3 b4);rw[zUX t u v x y]at ht;cases e:exB (f u) (f v) x y with
   |true=>
    rw[e]at ht tin;rw[if_pos rfl]at tin;refine nif1 ht (zC8 (l:=0) (f:=g) x y (v:=1-f x y) rfl rfl rfl (b2 rfl (b2 (b2 rfl rfl (ixM xn)) rfl (ixR yn)) (sbi rfl)) xn yn fun g5 hg5=>⟨g5,_,_,rfl,ext (zHX hg hg5 tin.symm)⟩)
   |false=>
    rw[e]at ht tin;rw[if_neg qAb]at tin;exact nif0 ht (zDC (zHF _) ⟨g,_,_,rfl,ext (zPZ hg tin)⟩)
  ·obtain⟨g,o6,o7,rfl,hg⟩:=hr;refine⟨g,_,_,_,rfl,zLI hg fun i j hi hj=>?_⟩;constructor
   ·rintro((((((⟨a,ha,e⟩|⟨z,a,ha,e⟩)|⟨z,e⟩)|⟨z,e⟩)|⟨z,e⟩)|⟨z,e⟩)|⟨z,a,ha,e⟩)
    ·exact .inl ⟨a,by lia,e⟩
    ·exact .inr ⟨z,a,by lia,e⟩
    ·exact .inr ⟨.inl z,m,by lia,by rw[e];exact hx⟩
    ·exact .inl ⟨m,by lia,by rw[z];exact hx⟩
    ·exact .inr ⟨.inr z,m,by lia,by rw[e];exact hx⟩
    ·exact .inl ⟨m,by lia,by rw[z];exact hx⟩
    ·exact .inl ⟨m,by lia,by rw[z];exact hx⟩
   ·rintro(⟨a,ha,e⟩|⟨z,a,ha,e⟩)
    ·by_cases c:a=m
     ·rw[c,hx]at e;cases e
      by_cases ju:j=u
      ·exact .inl (.inl (.inl (.inr ⟨rfl,ju⟩)))
      ·by_cases jv:j=v
       ·exact .inl (.inr ⟨rfl,jv⟩)
       ·obtain⟨k,hk,ek⟩:=qB8.mp ((mk j).mpr ⟨hj,ju,jv⟩);exact .inr ⟨rfl,k,hk,by rw[qAe hk,ek]⟩
     ·exact .inl (.inl (.inl (.inl (.inl (.inl ⟨a,by lia,e⟩)))))
    ·by_cases c:a=m
     ·rw[c,hx]at e;cases e
      rcases z with z|z
      ·exact .inl (.inl (.inl (.inl (.inr ⟨z,rfl⟩))))
      ·exact .inl (.inl (.inr ⟨z,rfl⟩))
     ·exact .inl (.inl (.inl (.inl (.inl (.inr ⟨z,a,by lia,e⟩)))))
 ·obtain⟨g,o5,o6,o7,rfl,hg⟩:=hr;subst hb;show sRetV 2 3 _=_;unfold sRetV
  show(if _ then _ else _)=_
  rw[if_pos (.inl rfl),zGL fun i j hi hj=>?_];have all:∀k,k<n->k≠u->k≠v->∃a,a<ks.length/\ks[a]?=some k:=fun k hk z1 z2=>by
   obtain⟨a,ha,e⟩:=qB8.mp ((mk k).mpr ⟨hk,z1,z2⟩);exact⟨a,ha,by rw[qAe ha,e]⟩
  by_cases c:(∃a,a<ks.length/\ks[a]?=some i)\/((i=u\/i=v)/\∃a,a<ks.length/\ks[a]?=some j)
  ·exact(hg i j hi hj).1 c
  ·rw[(hg i j hi hj).2 c];have iuv:i=u\/i=v:=by
    by_cases z1:i=u
    ·exact .inl z1
    ·by_cases z2:i=v
     ·exact .inr z2
     ·exact absurd (.inl (all i hi z1 z2)) c
   have juv:j=u\/j=v:=by
    by_cases z1:j=u
    ·exact .inl z1
    ·by_cases z2:j=v
     ·exact .inr z2
     ·exact absurd (.inr ⟨iuv,all j hj z1 z2⟩) c
   obtain⟨g1,g2,g3,g4⟩:=pv.gd
   rcases iuv with rfl|rfl<;>rcases juv with rfl|rfl
   ·rw[g1,h1]
   ·rw[g3,h3]
   ·rw[g4,t.sym];exact h3
   ·rw[g2,h2]
theorem ch2{n:Nat}{k:Int}{e c:EM}{ρ:Rh}(h1:e ρ=okR (.int k))(h2:c ρ=okR (.int (n:Int))):eChain (cmpD fun i j=>decide (i<=j)) (cmpD fun i j=>decide (i<j)) (eC (.int 0)) e c ρ=okR (.bl (decide (0<=k)&&decide (k<n))):=by
 show zA3 (okR (Dt.int 0)) _=_;rw[zA0,h1,zA0];show zA3 (okR (Dt.bl (decide (0<=k)))) _=_;rw[zA0]
 by_cases z:0<=k
 ·show(if decide (0<=k)=true then _ else _)=_
  rw[if_pos (decide_eq_true z),h2,zA0,decide_eq_true z,qE2];rfl
 ·show(if decide (0<=k)=true then _ else _)=_
  rw[if_neg (by simpa using z),decide_eq_false z,qCt]
def GdA(n:Nat)(f:Nat->Nat->Int)(v:Nat):Prop:=v<n/\f v v=1
def GdB(n:Nat)(f:Nat->Nat->Int)(u v:Nat):Prop:=u<n/\v<n/\u≠v/\f u v=1/\f u u=0/\f v v=0
inductive Du(n:Nat)(f:Nat->Nat->Int):List Int->Option (Nat->Nat->Int)->Prop where
 |one {v:Nat} (h:GdA n f v):Du n f [(v:Int)] (some (pvA n f v))
 |two {u v:Nat} (h:GdB n f u v):Du n f [(u:Int),(v:Int)] (some (pvB n f u v))
 |no {l:List Int} (h1:∀v:Nat,l=[(v:Int)]->¬GdA n f v) (h2:∀u v:Nat,l=[(u:Int),(v:Int)]->¬GdB n f u v):Du n f l none
theorem zTE(n:Nat)(f:Nat->Nat->Int)(l:List Int):∃o,Du n f l o:=by
 by_cases h1:∃v:Nat,l=[(v:Int)]/\GdA n f v
 ·obtain⟨v,rfl,h⟩:=h1;exact⟨_,.one h⟩
 ·by_cases h2:∃u v:Nat,l=[(u:Int),(v:Int)]/\GdB n f u v
  ·obtain⟨u,v,rfl,h⟩:=h2;exact⟨_,.two h⟩
  ·exact⟨_,.no (fun v e h=>h1 ⟨v,e,h⟩) fun u v e h=>h2 ⟨u,v,e,h⟩⟩
theorem lenI(l:List Int):lenD [rowD l]=some (.int (l.length:Int)):=lenR l
theorem zO9{n:Nat}{f:Nat->Nat->Int}{l:List Int}{o:Option (Nat->Nat->Int)}(hn:n<=10)(t:Tb2 f)(d:Du n f l o):zCM [mat (tab n f),rowD l]=okR (match o with|some g=>mat (tab n g)|none=>.non):=by
 have hlen:lenD [mat (tab n f)]=some (.int (n:Int)):=by rw[lenM,zCV]
 have z0:(Dt.non).dep<=2/\(Dt.non).dep<=2:=⟨qAx _,qAx _⟩
 cases d with
 |@one v h=>
  have hd:=zAZ (tab n (pvA n f v));have i0:ixD (rowD [(v:Int)]) (.int 0)=some (.int (v:Int)):=rfl;refine zBF rfl (sx (ta1 (eqi (bi1 rfl (lenI _)) rfl rfl) (ta1 (tb1 ((ch2 (b2 rfl rfl i0) (bi1 rfl hlen)).trans ?_)) (eqi (b2 (b2 rfl (b2 rfl rfl i0) (ixM h.1)) (b2 rfl rfl i0) (ixR h.1)) rfl (decide_eq_true h.2)))) (sr (c2 rfl (b2 rfl rfl i0) (zLZ hn h.1 t)) ⟨hd,hd⟩));rw[decide_eq_true (show(0:Int)<=(v:Int) by lia),decide_eq_true (show(v:Int)<(n:Int) by have:=h.1;lia)];rfl
 |@two u v h=>
  obtain⟨hu,hv,ne,e1,e2,e3⟩:=h;have hd:=zAZ (tab n (pvB n f u v));have i0:ixD (rowD [(u:Int),(v:Int)]) (.int 0)=some (.int (u:Int)):=rfl;have i1:ixD (rowD [(u:Int),(v:Int)]) (.int 1)=some (.int (v:Int)):=rfl;have mn:minL [rowD [(u:Int),(v:Int)]]=some (.int (min (u:Int) (v:Int))):=rfl;have mx:maxL [rowD [(u:Int),(v:Int)]]=some (.int (max (u:Int) (v:Int))):=rfl;have hun:sUnpL [2,3] [1] (eV 1) [some (mat (tab n f),0),some (rowD [(u:Int),(v:Int)],0),none,none]=okR (.nx [some (mat (tab n f),0),some (rowD [(u:Int),(v:Int)],0),some (.int (u:Int),0),some (.int (v:Int),0)]):=rfl;refine zBF rfl (sp (ta0 (eqi (bi1 rfl (lenI _)) rfl rfl)) (sp (to0 (nei (bi1 rfl (lenI _)) rfl rfl) (to0 (eqi (b2 rfl rfl i0) (b2 rfl rfl i1) (decide_eq_false (by lia))) (to0 (tb1 (b2 (bi1 rfl mn) rfl (cmi (decide_eq_false (by lia))))) (tb1 (b2 (bi1 rfl mx) (bi1 rfl hlen) (cmi (decide_eq_false (by lia)))))))) (sw hun (sx (ta1 (eqi (b2 (b2 rfl rfl (ixM hu)) rfl (ixR hv)) rfl (decide_eq_true e1)) (ta1 (eqi (b2 (b2 rfl rfl (ixM hu)) rfl (ixR hu)) rfl (decide_eq_true e2)) (eqi (b2 (b2 rfl rfl (ixM hv)) rfl (ixR hv)) rfl (decide_eq_true e3)))) (sr (c3 rfl rfl rfl (zLY hn hu hv ne t e2 e3 e1)) ⟨hd,hd⟩)))))
 |no h1 h2=>
  match l,h1,h2 with
  |[],_,_=>exact zBF rfl (sp (ta0 (eqi (bi1 rfl (lenI _)) rfl rfl)) (sx (to1 (nei (bi1 rfl (lenI _)) rfl rfl)) (sr rfl z0)))
  |[a],h1,_=>
   have i0:ixD (rowD [a]) (.int 0)=some (.int a):=rfl;refine zBF rfl (sp (ta1 (eqi (bi1 rfl (lenI _)) rfl rfl) ?_) (sx (to1 (nei (bi1 rfl (lenI _)) rfl rfl)) (sr rfl z0)));have hc:=tb1 (ch2 (ρ:=full [some (mat (tab n f),0),some (rowD [a],0),none,none]) (e:=eB ixD (eV 1) (eC (.int 0))) (c:=eBi lenD (aCons (eV 0) aNil)) (b2 rfl rfl i0) (bi1 rfl hlen))
   by_cases c:0<=a/\a<n
   ·obtain⟨v,rfl⟩:∃v:Nat,a=(v:Int):=⟨a.toNat,by lia⟩
    have hv:v<n:=by lia
    rw[decide_eq_true c.1,decide_eq_true c.2]at hc;exact ta1 hc (eqi (b2 (b2 rfl (b2 rfl rfl i0) (ixM hv)) (b2 rfl rfl i0) (ixR hv)) rfl (decide_eq_false fun y=>h1 v rfl ⟨hv,y⟩))
   ·rw[show(decide (0<=a)&&decide (a<(n:Int)))=false by
     by_cases c1:0<=a
     ·rw[decide_eq_false (show ¬a<(n:Int) from fun y=>c ⟨c1,y⟩),qBv]
     ·rw[decide_eq_false c1,qCt]]at hc
    exact ta0 hc
  |[a,b],_,h2=>
   have i0:ixD (rowD [a,b]) (.int 0)=some (.int a):=rfl;have i1:ixD (rowD [a,b]) (.int 1)=some (.int b):=rfl;have mn:minL [rowD [a,b]]=some (.int (min a b)):=rfl;have mx:maxL [rowD [a,b]]=some (.int (max a b)):=rfl;refine zBF rfl (sp (ta0 (eqi (bi1 rfl (lenI _)) rfl rfl)) ?_);have x0:tB (eB neD (eBi lenD (aCons (eV 1) aNil)) (eC (.int 2))) (full [some (mat (tab n f),0),some (rowD [a,b],0),none,none])=okR false:=nei (bi1 rfl (lenI _)) rfl rfl
   by_cases c1:a=b
   ·exact sx (to0 x0 (to1 (eqi (b2 rfl rfl i0) (b2 rfl rfl i1) (decide_eq_true c1)))) (sr rfl z0)
   ·by_cases c2:min a b<0
    ·exact sx (to0 x0 (to0 (eqi (b2 rfl rfl i0) (b2 rfl rfl i1) (decide_eq_false c1)) (to1 (tb1 (b2 (bi1 rfl mn) rfl (cmi (decide_eq_true c2))))))) (sr rfl z0)
    ·by_cases c3:(n:Int)<=max a b
     ·exact sx (to0 x0 (to0 (eqi (b2 rfl rfl i0) (b2 rfl rfl i1) (decide_eq_false c1)) (to0 (tb1 (b2 (bi1 rfl mn) rfl (cmi (decide_eq_false c2)))) (tb1 (b2 (bi1 rfl mx) (bi1 rfl hlen) (cmi (decide_eq_true c3))))))) (sr rfl z0)
     ·obtain⟨u,rfl⟩:∃u:Nat,a=(u:Int):=⟨a.toNat,by lia⟩
      obtain⟨v,rfl⟩:∃v:Nat,b=(v:Int):=⟨b.toNat,by lia⟩
      have hu:u<n:=by lia
      have hv:v<n:=by lia
      have hun:sUnpL [2,3] [1] (eV 1) [some (mat (tab n f),0),some (rowD [(u:Int),(v:Int)],0),none,none]=okR (.nx [some (mat (tab n f),0),some (rowD [(u:Int),(v:Int)],0),some (.int (u:Int),0),some (.int (v:Int),0)]):=rfl;refine sp (to0 x0 (to0 (eqi (b2 rfl rfl i0) (b2 rfl rfl i1) (decide_eq_false c1)) (to0 (tb1 (b2 (bi1 rfl mn) rfl (cmi (decide_eq_false c2)))) (tb1 (b2 (bi1 rfl mx) (bi1 rfl hlen) (cmi (decide_eq_false c3))))))) (sw hun (sp ?_ (sr rfl z0)))
      by_cases d1:f u v=1
      ·by_cases d2:f u u=0
       ·exact ta1 (eqi (b2 (b2 rfl rfl (ixM hu)) rfl (ixR hv)) rfl (decide_eq_true d1)) (ta1 (eqi (b2 (b2 rfl rfl (ixM hu)) rfl (ixR hu)) rfl (decide_eq_true d2)) (eqi (b2 (b2 rfl rfl (ixM hv)) rfl (ixR hv)) rfl (decide_eq_false fun d3=>h2 u v rfl ⟨hu,hv,fun y=>c1 (by rw[y]),d1,d2,d3⟩)))
       ·exact ta1 (eqi (b2 (b2 rfl rfl (ixM hu)) rfl (ixR hv)) rfl (decide_eq_true d1)) (ta0 (eqi (b2 (b2 rfl rfl (ixM hu)) rfl (ixR hu)) rfl (decide_eq_false d2)))
      ·exact ta0 (eqi (b2 (b2 rfl rfl (ixM hu)) rfl (ixR hv)) rfl (decide_eq_false d1))
  |a::b::c::r,_,_=>
   have e1:¬(((a::b::c::r).length:Nat):Int)=1:=by simp only[qAz];lia
   have e2:¬(((a::b::c::r).length:Nat):Int)=2:=by simp only[qAz];lia
   exact zBF rfl (sp (ta0 (eqi (bi1 rfl (lenI _)) rfl (decide_eq_false e1))) (sx (to1 (nei (bi1 rfl (lenI _)) rfl (by rw[decide_eq_false e2];rfl))) (sr rfl z0)))
theorem zOS(r:Ro)(x:Str):sRaise0 "NoPivot" (aCons (eC (.str x)) aNil) r=some (.error ⟨"NoPivot","",.non⟩):=by
 unfold sRaise0;rw[al0 (d:=.str x) rfl,zA0,if_pos (by simp)]
theorem zNG{b:SM}{r:Ro}{c:TM}{x:Str}(hc:c (full r)=okR true):sSeq (sIf c (sRaise0 "NoPivot" (aCons (eC (.str x)) aNil)) sNil) b r=some (.error ⟨"NoPivot","",.non⟩):=by
 rw[zEI,zJ1,hc,zA0,if_pos rfl,zOS];rfl
theorem zOQ{P n:Nat}{b:SM}{ds:List Dt}{x:Xn}(h:ds.length=P)(hb:b (startO n ds)=some (.error x)):runF P n b ds=some (.error x):=by
 unfold runF;rw[if_pos h,hb];rfl
theorem zJZ:∀{l:List Int},(∀k∈l,0<=k)->∃ks:List Nat,l=numL ks
 |[],_=>⟨[],rfl⟩
 |k::r,h=>by
  obtain⟨ks,e⟩:=zJZ (l:=r) fun x hx=>h x (by simp[hx])
  have:=h k (by simp)
  exact⟨k.toNat::ks,by rw[e];show k::numL ks=((k.toNat:Nat):Int)::numL ks;rw[Int.toNat_of_nonneg this]⟩
theorem zS6{n:Nat}{f:Nat->Nat->Int}{l:List Int}(hl:l.length<=100)(h1:∀v:Nat,l=[(v:Int)]->¬GdA n f v)(h2:∀u v:Nat,l=[(u:Int),(v:Int)]->¬GdB n f u v):zB3 [mat (tab n f),rowD l]=some (.error ⟨"NoPivot","",.non⟩):=by
 have hall:=zJF n f l (by lia) none;refine zOQ rfl ?_;cases c:l.all (fun k=>decide (0<=k)&&decide (k<n))with
 |false=>rw[c]at hall;exact zNG (tn1 (tm1 hall))
 |true=>
  rw[c]at hall;have hin:∀k∈l,0<=k/\k<n:=fun k hk=>by
   have:=(qCf.mp c) k hk
   simpa only[qAs,decide_eq_true_eq]using this
  obtain⟨ks,rfl⟩:=zJZ fun k hk=>(hin k hk).1
  have hk:∀k∈ks,k<n:=fun k hk=>by
   have:=(hin (k:Int) (qC0.mpr ⟨k,hk,rfl⟩)).2
   lia
  have hkl:(numL ks).length=ks.length:=by unfold numL;rw[qAn]
  rw[hkl]at hl;have hp:=zGS n f ks hk (by lia);have hd:=zAZ (tab ks.length (sub ks f));have hle:∀ρ:Rh,eLst (aCons (eLst (aCons (eC (.int 0)) (aCons (eC (.int 1)) aNil))) (aCons (eLst (aCons (eC (.int 1)) (aCons (eC (.int 0)) aNil))) aNil)) ρ=okR (mat [[0,1],[1,0]]):=fun ρ=>el2 (el2 rfl rfl) (el2 rfl rfl)
  have hne:¬tab ks.length (sub ks f)=[[0,1],[1,0]]:=fun e=>by
   have l2:ks.length=2:=by have:=congrArg qFr e;rw[zCV]at this;exact this
   match ks,l2 with
   |[u,v],_=>
    have e':[[f u u,f u v],[f v u,f v v]]=[[0,1],[1,0]]:=e;simp only[qEu,and_true]at e';obtain⟨⟨a1,a2⟩,a3,a4⟩:=e';refine h2 u v rfl ⟨hk u (by simp),hk v (by simp),fun z=>?_,a2,a1,a4⟩;rw[z]at a2
    lia
  have heq:eqD (mat (tab ks.length (sub ks f))) (mat [[0,1],[1,0]])=some (.bl false):=by
   unfold eqD
   have:=zAZ [[0,1],[1,0]]
   rw[if_pos ⟨by lia,by lia⟩,zK3,decide_eq_false hne]
  have last:=sp (c:=tB (eB eqD (eCallN zBR (aCons (eV 0) (aCons (eV 1) aNil))) (eLst (aCons (eLst (aCons (eC (.int 0)) (aCons (eC (.int 1)) aNil))) (aCons (eLst (aCons (eC (.int 1)) (aCons (eC (.int 0)) aNil))) aNil))))) (a:=sRet 2 2 [0,1] (eCallN zBS (aCons (eV 0) (aCons (eB ixD (eV 1) (eC (.int 0))) (aCons (eB ixD (eV 1) (eC (.int 1))) aNil))))) (r:=[some (mat (tab n f),0),some (rowD (numL ks),0),none]) (tb1 (b2 (cn2 rfl rfl hp) (hle _) heq)) (zOS _ "no pivot at these numbers");refine sp (tn1 (tm1 hall)) (sp ?_ last)
  by_cases l1:ks.length=1
  ·match ks,l1 with
   |[v],_=>
    have hv:=hk v (by simp);have i0:ixD (rowD (numL [v])) (.int 0)=some (.int (v:Int)):=rfl;exact ta1 (eqi (bi1 rfl (lenI _)) rfl rfl) (eqi (b2 (b2 rfl (b2 rfl rfl i0) (ixM hv)) (b2 rfl rfl i0) (ixR hv)) rfl (decide_eq_false fun y=>h1 v rfl ⟨hv,y⟩))
  ·exact ta0 (eqi (bi1 rfl (lenI _)) rfl (decide_eq_false (by rw[hkl];lia)))
theorem zPX{n:Nat}{f:Nat->Nat->Int}{l:List Int}{o:Option (Nat->Nat->Int)}(hn:n<=10)(hl:l.length<=100)(t:Tb2 f)(d:Du n f l o):zB3 [mat (tab n f),rowD l]=match o with|some g=>okR (mat (tab n g))|none=>some (.error ⟨"NoPivot","",.non⟩):=by
 cases d with
 |one h=>exact zFE hn (t.bits n) h.1 h.2
 |two h=>exact zFD hn (t.bits n) (t.sm n) h.1 h.2.1 h.2.2.2.2.1 h.2.2.2.2.2 h.2.2.2.1
 |no h1 h2=>exact zS6 hl h1 h2
theorem zV2{n v:Nat}{f:Nat->Nat->Int}(hb:Bits n f)(h:GdA n f v):Bits n (pvA n f v)/\pvA n f v v v=1/\tab n (pvA n (pvA n f v) v)=tab n f:=by
 have nv:¬v∈zDM n f v:=fun z=>((zCX h.1).mp z).2 rfl
 have rw':∀k,pvA n f v v k=f v k:=fun k=>by
  unfold pvA chg;exact if_neg (by simp[nv])
 have en:zDM n (pvA n f v) v=zDM n f v:=by
  unfold zDM;refine List.filter_congr fun k _=>?_
  rw[rw' k]
 refine⟨zKB hb,by rw[rw'];exact h.2,zGL fun i j hi hj=>?_⟩;show chg (pvA n f v) (fun i j=>decide (i∈zDM n (pvA n f v) v)&&decide (j∈zDM n (pvA n f v) v)) i j=f i j;rw[en];unfold pvA chg
 by_cases c:(decide (i∈zDM n f v)&&decide (j∈zDM n f v))=true
 ·rw[if_pos c,if_pos c];lia
 ·rw[if_neg c,if_neg c]
theorem zPD{x y:Int}(hx:x=0\/x=1)(hy:y=0\/y=1)(h:x%2=y%2):x=y:=by lia
theorem zPU{n u v:Nat}{f g:Nat->Nat->Int}(p:Pv2 n f g u v)(hs:Sym n f):Sym n g:=fun i j hi hj=>by
 obtain⟨g1,g2,g3,g4⟩:=p.gd
 by_cases iu:i=u
 ·subst iu
  by_cases ju:j=i
  ·rw[ju]
  ·by_cases jv:j=v
   ·rw[jv,g3,g4]
   ·rw[(p.row j hj ju jv).1,(p.col j hj ju jv).1,hs v j p.lv hj]
 ·by_cases iv:i=v
  ·subst iv
   by_cases ju:j=u
   ·rw[ju,g3,g4]
   ·by_cases jv:j=i
    ·rw[jv]
    ·rw[(p.row j hj ju jv).2,(p.col j hj ju jv).2,hs u j p.lu hj]
  ·by_cases ju:j=u
   ·rw[ju,(p.row i hi iu iv).1,(p.col i hi iu iv).1,hs v i p.lv hi]
   ·by_cases jv:j=v
    ·rw[jv,(p.row i hi iu iv).2,(p.col i hi iu iv).2,hs u i p.lu hi]
    ·refine zPD (p.bg i j hi hj) (p.bg j i hj hi) ?_;rw[p.inn i j hi hj iu iv ju jv,p.inn j i hj hi ju jv iu iv,hs i j hi hj,hs i u hi p.lu,hs i v hi p.lv,hs j u hj p.lu,hs j v hj p.lv,qFp (f v j),qFp (f u j)]
     lia
theorem zNH{n u v:Nat}{g h f:Nat->Nat->Int}(p:Pv2 n g h u v)(q:Pv2 n g f u v):tab n h=tab n f:=zGL fun i j hi hj=>by
 obtain⟨g1,g2,g3,g4⟩:=p.gd;obtain⟨f1,f2,f3,f4⟩:=q.gd
 by_cases iu:i=u
 ·subst iu
  by_cases ju:j=i
  ·rw[ju,g1,f1]
  ·by_cases jv:j=v
   ·rw[jv,g3,f3]
   ·rw[(p.row j hj ju jv).1,(q.row j hj ju jv).1]
 ·by_cases iv:i=v
  ·subst iv
   by_cases ju:j=u
   ·rw[ju,g4,f4]
   ·by_cases jv:j=i
    ·rw[jv,g2,f2]
    ·rw[(p.row j hj ju jv).2,(q.row j hj ju jv).2]
  ·by_cases ju:j=u
   ·rw[ju,(p.col i hi iu iv).1,(q.col i hi iu iv).1]
   ·by_cases jv:j=v
    ·rw[jv,(p.col i hi iu iv).2,(q.col i hi iu iv).2]
    ·exact zPD (p.bg i j hi hj) (q.bg i j hi hj) ((p.inn i j hi hj iu iv ju jv).trans (q.inn i j hi hj iu iv ju jv).symm)
theorem zNL{n:Nat}{f g:Nat->Nat->Int}{l:List Int}(hn:n<=10)(t:Tb2 f)(d:Du n f l (some g)):zB3 [mat (tab n g),rowD l]=okR (mat (tab n f)):=by
 cases d with
 |one h=>
  obtain⟨b1,b2',b3⟩:=zV2 (t.bits n) h;rw[<- b3];exact zFE hn b1 h.1 b2'
 |@two u v h=>
  obtain⟨hu,hv,ne,e1,e2,e3⟩:=h;have p:=zLE (t.bits n) (t.sm n) hu hv ne e2 e3 e1;have sg:=zPU p (t.sm n);have p2:=zLE p.bg sg hu hv ne p.gd.1 p.gd.2.1 p.gd.2.2.1;rw[<- zNH p2 p.symm];exact zFD hn p.bg sg hu hv p.gd.1 p.gd.2.1 p.gd.2.2.1
theorem zHV{A:List (List Int)}{l:List Int}(h:zB3 [mat A,rowD l]=some (.error ⟨"NoPivot","",.non⟩)):zBQ [mat A,rowD l]=okR (.bl true):=by
 have e3:∀{e1 e2 e3:EM}{ρ:Rh}{d1 d2 d3:Dt},e1 ρ=okR d1->e2 ρ=okR d2->e3 ρ=okR d3->eLst (aCons e1 (aCons e2 (aCons e3 aNil))) ρ=okR (.lst [d1,d2,d3]):=fun h1 h2 h3=>by simp[h1,h2,h3]
 have isx:∀(ys ns:List Str)(ρ:Rh)(b:Bool),ρ[3]?=some (some (.exc "NoPivot" "" .non))->(if(("NoPivot":Str)∈ys)then okR (Dt.bl true)else if(("NoPivot":Str)∈ns)then okR (Dt.bl false)else none)=okR (.bl b)->eIsX ys ns (eV 3) ρ=okR (.bl b):=fun ys ns ρ b h1 h2=>by
  unfold eIsX;rw[v1 h1,zA0];exact h2
 have hsuite:sSet 2 1 [3] (eLst (aCons (eIsX ["NoPivot"] ["RoundError","NoCross"] (eV 3)) (aCons (eIsX ["RoundError","NoCross","NoPivot"] [] (eV 3)) (aCons (eIsX ["NoCross"] ["RoundError","NoPivot"] (eV 3)) aNil)))) [some (mat A,0),some (rowD l,0),some (.lst [],9),some (.exc "NoPivot" "" .non,0)]=okR (.nx [some (mat A,0),some (rowD l,0),some (.lst [.bl true,.bl true,.bl false],1),some (.exc "NoPivot" "" .non,0)]):=
  ss (e3 (isx _ _ _ true rfl (if_pos (by decide))) (isx _ _ _ true rfl (if_pos (by decide))) (isx _ _ _ false rfl (by rw[if_neg (by decide),if_pos (by decide)]))) (by simp)
 have htry:sTry [0,1] none (eCall zB3 (aCons (eV 0) (aCons (eV 1) aNil))) ["RoundError","NoCross","NoPivot"] 3 (sSet 2 1 [3] (eLst (aCons (eIsX ["NoPivot"] ["RoundError","NoCross"] (eV 3)) (aCons (eIsX ["RoundError","NoCross","NoPivot"] [] (eV 3)) (aCons (eIsX ["NoCross"] ["RoundError","NoPivot"] (eV 3)) aNil))))) [some (mat A,0),some (rowD l,0),some (.lst [],9),none]=okR (.nx [some (mat A,0),some (rowD l,0),some (.lst [.bl true,.bl true,.bl false],1),none]):=by
  unfold sTry;rw[c2 (d1:=mat A) (d2:=rowD l) rfl rfl h]
  show(if(("NoPivot":Str)∈(["RoundError","NoCross","NoPivot"]:List Str))then _ else none)=_
  rw[if_pos (by decide)];show zA3 (sSet 2 1 [3] _ [some (mat A,0),some (rowD l,0),some (.lst [],9),some (.exc "NoPivot" "" .non,0)]) _=_;rw[hsuite,zA0];rfl
 exact zBF rfl (sg el0 (by decide) (sw htry (sr (b2 rfl (e3 rfl rfl rfl) rfl) ⟨qA4 0,qA4 0⟩)))
theorem zQ5{γ:Type}{i j:Nat}{b:SM}{r:Ro}{X:Ro->Prop}(e1 e2:γ->Dt)(ns:List γ)(Pv:Ro->Prop)(h:Pv r)(hs:∀x∈ns,∀r,Pv r->nxR (b ((r.set i (some (e1 x,0))).set j (some (e2 x,0)))) Pv)(hK:∀r',Pv r'->X r'):nxR (forGo (.tup [i,j]) b (ns.map fun x=>Dt.tup [e1 x,e2 x]) r) X:=by
 obtain⟨r',h1,h2⟩:=zFS (tg:=.tup [i,j]) (b:=b) (fun _=>Pv) (ns.map fun x=>Dt.tup [e1 x,e2 x]) 0 r h fun k d r hd hp=>by
  rw[qAg]at hd;cases e:ns[k]? with
  |none=>rw[e]at hd;cases hd
  |some q=>
   rw[e]at hd;cases hd;obtain⟨r',g1,g2⟩:=zDL (hs q (qAq e) r hp);exact⟨_,r',rfl,g1,g2⟩
 rw[h1];exact hK r' h2
theorem zDS(A:List (List Int)):zBK [mat A,mat A]=okR (.bl true):=by
 have hd:=zAZ A;have hlen:lenD [mat A]=some (.int (A.length:Int)):=lenM A;have hz:zipD (A.map rowD) (A.map rowD)=A.map fun r=>Dt.tup [rowD r,rowD r]:=by
  induction A with
  |nil=>rfl
  |cons r t ih=>rw[qAl,zipD,qAl,ih (zAZ t) (lenM t)]
 refine zBF rfl (sp (to0 (tn1 (k:=true) (tm1 rfl)) (nei (bi1 rfl hlen) (bi1 rfl hlen) (by simp))) (zHP fun bb hb=>?_));rw[zHG];show nxR (zA3 (okR (zipD (A.map rowD) (A.map rowD))) fun ds=>forGo (.tup [2,3]) _ ds [some (mat A,0),some (mat A,0),none,none,none]) _;rw[zA0,hz];refine zQ5 rowD rowD A (fun r=>∃o2 o3 o4,r=[some (mat A,0),some (mat A,0),o2,o3,o4]) ⟨none,none,none,rfl⟩ (fun x _ r hr=>?_) fun r hr=>?_
 ·obtain⟨o2,o3,o4,rfl⟩:=hr;refine nsw (sf (to0 (tn1 (k:=true) (tm1 rfl)) (nei (bi1 rfl (lenR x)) (bi1 rfl (lenR x)) (by simp)))) ?_;rw[zHG];show nxR (zA3 (okR (x.map Dt.int)) fun ds=>forGo (.one 4) _ ds [some (mat A,0),some (mat A,0),some (rowD x,0),some (rowD x,0),o4]) _;rw[zA0];refine zGW Dt.int x (fun _ r=>∃o4,r=[some (mat A,0),some (mat A,0),some (rowD x,0),some (rowD x,0),o4]) ⟨o4,rfl⟩ (fun k y _ r hr=>?_) fun r hr=>?_
  ·obtain⟨o4,rfl⟩:=hr;exact zDC (sf (to0 (tn1 (k:=true) (tm1 rfl)) (tm1 rfl))) ⟨_,rfl⟩
  ·obtain⟨o4,rfl⟩:=hr;exact⟨_,_,_,rfl⟩
 ·obtain⟨o2,o3,o4,rfl⟩:=hr;subst hb;refine sr (b2 rfl rfl ?_) ⟨qA4 0,qA4 0⟩;unfold eqD;rw[if_pos ⟨by lia,by lia⟩,zK3,decide_eq_true rfl]
theorem zGI(c:Int):∀A:List (List Int),(∀r∈A,r.length<=1000)->addAll c (A.map rowD)=some (A.map fun r=>rowD (r++[c]))
 |[],_=>rfl
 |r::A,h=>by
  have h1:=h r (by simp);rw[qAl];show addAll c (.lst (r.map Dt.int)::A.map rowD)=_;rw[addAll,if_pos (by rw[qAn];lia),zGI c A fun x hx=>h x (by simp[hx])];show some (_::_)=_;rw[qAl];unfold rowD;rw[qC5];rfl
theorem eqM(A:List (List Int)):eqD (mat A) (mat A)=some (.bl true):=by
 have:=zAZ A
 unfold eqD;rw[if_pos ⟨by lia,by lia⟩,zK3,decide_eq_true rfl]
theorem eqR(l:List Int):eqD (rowD l) (rowD l)=some (.bl true):=by
 unfold eqD;rw[if_pos ⟨by rw[zBY];decide,by rw[zBY];decide⟩,zTC,decide_eq_true rfl]
theorem zHR{n:Nat}{f:Nat->Nat->Int}(hn:n<=10)(t:Tb2 f)(l:List Int)(hl:l.length<=100):zC3 [mat (tab n f),rowD l]=okR (.bl true):=by
 obtain⟨o,d⟩:=zTE n f l;have hdue:=zO9 hn t d;have hpiv:=zPX hn hl t d;have cp:∀(o2 o6:Option Dt),eComp (iSq (eV 0)) 1 (.one 7) Mi.tYes (eBi listD (aCons (eV 7) aNil)) [some (mat (tab n f)),some (rowD l),o2,none,none,none,o6]=okR (mat (tab n f)):=fun o2 o6=>zQO (n:=n) (f:=f) rfl rfl (by lia)
 have hd:=zAZ (tab n f);have hr1:(rowD l).dep<=1:=by rw[zBY];exact qA4 1
 cases o with
 |none=>
  refine zBF rfl (sg (cn2 rfl rfl hdue) (qAx _) (sg (cp _ _) hd (sg (bi1 rfl (zSS l)) hr1 (sx (tb1 (b2 rfl rfl rfl)) (sr (an1 (cn2 rfl rfl (zHV hpiv)) (an1 (b2 rfl rfl (eqM _)) (b2 rfl rfl (eqR l)))) ⟨qA4 0,qA4 0⟩)))))
 |some g=>
  have hdg:=zAZ (tab n g);have hback:=zNL hn t d;have hrows:∀r∈tab n g,r.length<=1000:=fun r hr=>by
   unfold tab at hr;obtain⟨i,_,rfl⟩:=qC0.mp hr;rw[qAn,qCb];lia
  have happ:sForApp 5 6 2 [some (mat (tab n f),0),some (rowD l,0),some (mat (tab n g),2),some (mat (tab n f),2),some (rowD l,1),some (mat (tab n g),2),none]=okR (.nx [some (mat (tab n f),0),some (rowD l,0),some (mat (tab n g),2),some (mat (tab n f),2),some (rowD l,1),some (.lst ((tab n g).map fun r=>rowD (r++[2])),2),none]):=by
   unfold sForApp
   show(match addAll 2 ((tab n g).map rowD)with|some rs'=>_|none=>_)=_
   rw[zGI 2 _ hrows];rfl
  exact zBF rfl (sg (cn2 rfl rfl hdue) hdg (sg (cp _ _) hd (sg (bi1 rfl (zSS l)) hr1 (sp (tb1 (b2 rfl rfl rfl)) (sg (c2 rfl rfl hpiv) hdg (sp (to0 (tn1 (tm1 (cn2 rfl rfl (zDS _)))) (tn1 (tm1 (cn2 (c2 rfl rfl hback) rfl (zDS _))))) (sw happ (sw (r':=[some (mat (tab n f),0),some (rowD l,0),some (mat (tab n g),2),some (mat (tab n f),2),some (rowD l,1),some (.lst [],2),none]) rfl (sr (an1 (b2 rfl rfl (eqM _)) (b2 rfl rfl (eqR l))) ⟨qA4 0,qA4 0⟩)))))))))
theorem zU7{i n:Nat}{vs:List Nat}{e:EM}{r:Ro}{d:Dt}(he:e (full r)=okR d)(hd:¬d.dep<=n)(he2:e (frz (frzAt vs r))=okR d):sSet i n vs e r=okR (.nx ((frzAt vs r).set i (some (d,n)))):=by
 rw[zJR,he,zA0,if_neg hd,he2,zA0]
theorem ac{e:EM}{r:AM}{ρ:Rh}{d:Dt}{ds:List Dt}(h1:e ρ=okR d)(h2:r ρ=okR ds):aCons e r ρ=okR (d::ds):=by rw[zBJ,h1,zA0,h2];rfl
theorem elA{a:AM}{ρ:Rh}{ds:List Dt}(h:a ρ=okR ds)(hl:ds.length<=100):eLst a ρ=okR (.lst ds):=by
 unfold eLst;rw[h,zA0,if_pos (by lia)]
theorem zPF{A B:List (List Int)}(h:A.length+B.length<=1000):addD (mat A) (mat B)=some (mat (A++B)):=by
 show addD (.lst (A.map rowD)) (.lst (B.map rowD))=_;unfold addD;dsimp only;rw[if_pos (by rw[qAn,qAn];lia),<- qC5];rfl
theorem zLX{A:List (List Int)}(h:A≠[]):¬(mat A).dep<=1:=by
 cases A with
 |nil=>exact absurd rfl h
 |cons r t=>
  unfold mat;rw[qAl,v_dl,zDG,zBY]
  lia
theorem zNY(ns:List Int)(hl:ns.length<=63)(hw:∀i∈ns,i.natAbs.log2<2 ^ 20):zI4 [.scr ns]=okR (.bl true):=by
 have hmix:=zLW ns 20 (by decide) hl;have hcl:(mixL ns (max 20 ns.length)).length=max 20 ns.length:=by unfold mixL;rw[qAn,qCb]
 generalize mixL ns (max 20 ns.length)=cs at hmix hcl
 have hmix:zBV [.scr ns,.int 20]=okR (rowD cs):=hmix;have hc20:20<=cs.length:=by rw[hcl];exact qEp _ _
 have hi0:=zT4 cs 0 (by lia);have hi1:=zT4 cs 1 (by lia);obtain⟨n,hn⟩:∃n:Nat,(n:Int)=cs.getD 0 0%9:=⟨(cs.getD 0 0%9).toNat,by lia⟩
 have hn8:n<=8:=by lia
 have hsl:slD (rowD cs) (some 2) none=some (rowD (cs.drop 2)):=by
  show some (Dt.lst (cutA (cs.map Dt.int) (some ((2:Nat):Int)) none))=_;rw[zOF,<- List.map_drop];rfl
 obtain⟨f,t,hf⟩:=zJO (cs.drop 2) n (decide (0<cs.getD 1 0%4)) (by lia) (by rw[qEi];lia);have hd:=zAZ (tab n f);have hpow:powD (.int 10) (.int 30)=some (.int (10 ^ 30)):=by
  unfold powD;dsimp only;rw[if_pos ⟨by decide,by decide,by decide⟩];rfl
 obtain⟨far,hfar⟩:∃far:Int,far=cs.getD 1 0%10 ^ 30:=⟨_,rfl⟩
 have hlist:∀ρ:Rh,ρ[2]?=some (some (.int (n:Int)))->ρ[4]?=some (some (.int far))->eLst (aCons (eLst aNil) (aCons (eLst (aCons (eV 2) aNil)) (aCons (eLst (aCons (eU negD (eC (.int 1))) aNil)) (aCons (eLst (aCons (eB addD (eV 4) (eV 2)) aNil)) (aCons (eLst (aCons (eC (.int 0)) (aCons (eV 2) aNil))) (aCons (eLst (aCons (eU negD (eC (.int 1))) (aCons (eC (.int 0)) aNil))) (aCons (eLst (aCons (eC (.int 0)) (aCons (eC (.int 1)) (aCons (eC (.int 2)) aNil)))) (aCons (eLst (aCons (eC (.int 0)) (aCons (eC (.int 1)) (aCons (eC (.int 0)) aNil)))) (aCons (eLst (aCons (eC (.int 0)) (aCons (eB subD (eB subD (eC (.int 0)) (eV 4)) (eC (.int 1))) aNil))) aNil))))))))) ρ=okR (mat [[],[(n:Int)],[-1],[far+n],[0,(n:Int)],[-1,0],[0,1,2],[0,1,0],[0,0-far-1]]):=fun ρ h2 h4=>by
  have v2:=v1 h2;have v4:=v1 h4;have ng:eU negD (eC (.int 1)) ρ=okR (.int (-1)):=rfl;exact elA (ac el0 (ac (el1 v2) (ac (el1 ng) (ac (el1 (b2 v4 v2 (adi rfl))) (ac (el2 rfl v2) (ac (el2 ng rfl) (ac (elA (ac rfl (ac rfl (ac rfl rfl))) (by decide)) (ac (elA (ac rfl (ac rfl (ac rfl rfl))) (by decide)) (ac (el2 rfl (b2 (b2 rfl v4 (sbi rfl)) rfl (sbi rfl))) rfl))))))))) (by simp)
 refine zBF rfl (sg (c2 rfl rfl hmix) (by rw[zBY];decide) (sg (b2 (b2 rfl rfl hi0) rfl (mdi (by decide) hn.symm)) (qA4 0) (sg (c3 (sl1 rfl rfl hsl) rfl (b2 (b2 (b2 rfl rfl hi1) rfl (mdi (by decide) rfl)) rfl (cmi rfl)) hf) hd (sg (b2 (b2 rfl rfl hi1) (b2 rfl rfl hpow) (mdi (by decide) hfar.symm)) (qA4 0) (sgf (hlist _ rfl rfl) (zLX (by simp)) (hlist _ rfl rfl) (zHP fun bb hb=>?_))))));rw[zF2,zE7 (n:=n) (al0 rfl) (by lia),zA0];refine zLT (fun k r=>∃LL l5 o6,r=[some (.scr ns,0),some (rowD cs,9),some (.int (n:Int),0),some (mat (tab n f),2),some (.int far,0),some (mat LL,l5),o6,none]/\LL≠[]/\LL.length<=9+11*k/\∀l∈LL,l.length<=3) ⟨_,1,none,rfl,by simp,by simp,fun l hl=>by
  simp only[qAk,qB0,or_false]at hl
  rcases hl with rfl|rfl|rfl|rfl|rfl|rfl|rfl|rfl|rfl<;>simp⟩ (fun k hk r hr=>?_) fun r hr=>?_
 ·obtain⟨LL,l5,o6,rfl,h1,h2,h3⟩:=hr;have hcomp:∀ρ:Rh,ρ.length=8->ρ[2]?=some (some (.int (n:Int)))->ρ[6]?=some (some (.int (k:Int)))->eComp (iR1 (aCons (eV 2) aNil)) 1 (.one 8) Mi.tYes (eLst (aCons (eV 6) (aCons (eV 8) aNil))) ρ=okR (mat ((qA9 n).map fun j:Nat=>[(k:Int),(j:Int)])):=fun ρ h0 h2 h6=>by
   refine(zC1 (fun j=>rowD [(k:Int),(j:Int)]) n rfl h0.symm (fun j hj=>el2 (v1 (by rw[qAa (by lia)];exact h6)) (v1 (by rw[<- h0,qA8 (qA4 _)];simp))) _ (zE7 (n:=n) (al0 (v1 h2)) (by lia)) (by lia)).trans ?_;unfold mat;rw[qBc];rfl
  have hval:∀ρ:Rh,ρ.length=8->ρ[2]?=some (some (.int (n:Int)))->ρ[5]?=some (some (mat LL))->ρ[6]?=some (some (.int (k:Int)))->eB addD (eB addD (eV 5) (eLst (aCons (eLst (aCons (eV 6) aNil)) aNil))) (eComp (iR1 (aCons (eV 2) aNil)) 1 (.one 8) Mi.tYes (eLst (aCons (eV 6) (aCons (eV 8) aNil)))) ρ=okR (mat (LL++[[(k:Int)]]++(qA9 n).map fun j:Nat=>[(k:Int),(j:Int)])):=fun ρ h0 h2' h5 h6=>
   b2 (b2 (v1 h5) (el1 (el1 (v1 h6))) (zPF (B:=[[(k:Int)]]) (by simp;lia))) (hcomp ρ h0 h2' h6) (zPF (by simp;lia))
  refine zDC (zU7 (hval _ rfl rfl rfl rfl) (zLX (by simp)) (hval _ rfl rfl rfl rfl)) ⟨_,1,_,rfl,by simp,by simp;lia,fun l hl=>?_⟩;simp only[qBm,qAk,qB0,or_false,qC0]at hl
  rcases hl with(hl|rfl)|⟨j,_,rfl⟩
  ·exact h3 l hl
  ·simp
  ·simp
 ·obtain⟨LL,l5,o6,rfl,h1,h2,h3⟩:=hr;subst hb;refine zHP fun bb hb=>?_
  rw[zHG];show nxR (zA3 (okR (LL.map rowD)) fun ds=>forGo (.one 7) _ ds [some (.scr ns,0),some (rowD cs,9),some (.int (n:Int),0),some (mat (tab n f),2),some (.int far,0),some (mat LL,0),o6,none]) _;rw[zA0];refine zGW rowD LL (fun _ r=>∃o7,r=[some (.scr ns,0),some (rowD cs,9),some (.int (n:Int),0),some (mat (tab n f),2),some (.int far,0),some (mat LL,0),o6,o7]) ⟨none,rfl⟩ (fun k x hx r hr=>?_) fun r hr=>?_
  ·obtain⟨o7,rfl⟩:=hr
   have:=h3 x (qAq hx)
   exact zDC (sf (tn1 (tm1 (c2 rfl rfl (zHR (by lia) t x (by lia)))))) ⟨_,rfl⟩
  ·obtain⟨o7,rfl⟩:=hr;subst hb;exact sr rfl ⟨qA4 0,qA4 0⟩
end Mp
set_option maxHeartbeats 4000000
namespace Q57
open PySem PyProof.Rows
open L2 hiding Rep RepL
open L3
open Mp
noncomputable def top(i:Nat):Stmt:=qCv.main.body.getD i (.Pass ⟨0,0,0,0⟩)
theorem S__law_any_web:FnScope ["_law_cells","_law_size","_law_slant","_law_web","_law_i","_law_j","_law_bit"] ["_law_cells","_law_size","_law_slant"] (zA5 (top 17)):=fsc
theorem S__law_mixed:FnScope ["_law_script","_law_least","_law_made","_law_k","_law_cell","_law_first"] ["_law_script","_law_least"] (zA5 (top 16)):=fsc
theorem S__law_one:FnScope ["_law_table","_law_v","_law_made","_law_i","_law_j"] ["_law_table","_law_v"] (zA5 (top 19)):=fsc
theorem S__law_two:FnScope ["_law_table","_law_u","_law_v","_law_made","_law_others","_law_i","_law_j","_law_kinds"] ["_law_table","_law_u","_law_v"] (zA5 (top 20)):=fsc
theorem S__law_due:FnScope ["_law_table","_law_numbers","_law_u","_law_v"] ["_law_table","_law_numbers"] (zA5 (top 21)):=fsc
theorem S_changed_where:FnScope ["table","is_changed","size"] ["table","is_changed"] (zA5 (top 14)):=fsc
theorem zMY:FnScope ["table","numbers"] ["table","numbers"] (zA5 (top 7)):=fsc
theorem S_exchanged_at:FnScope ["table","one","other","sides","changed","order"] ["table","one","other"] (zA5 (top 12)):=fsc
theorem zKY:FnScope ["thing"] ["thing"] (zA5 (top 5)):=fsc
theorem zIZ:FnScope ["table","number"] ["table","number"] (zA5 (top 8)):=fsc
theorem zMZ:FnScope ["row"] ["row"] (zA5 (top 9)):=fsc
theorem zN0:FnScope ["table","number"] ["table","number"] (zA5 (top 13)):=fsc
theorem S_pivoted:FnScope ["table","numbers","near"] ["table","numbers"] (zA5 (top 11)):=fsc
theorem S__law_refused:FnScope ["_law_table","_law_numbers","_law_kinds","e"] ["_law_table","_law_numbers"] (zA5 (top 22)):=fsc
theorem S__law_table_is:FnScope ["_law_found","_law_due_here","_law_row","_law_other","_law_number"] ["_law_found","_law_due_here"] (zA5 (top 18)):=fsc
theorem S__law_right:FnScope ["_law_table","_law_numbers","_law_due_here","_law_handed","_law_kept","_law_found","_law_row"] ["_law_table","_law_numbers"] (zA5 (top 23)):=fsc
theorem S_law:FnScope ["_law_script","_law_cells","_law_size","_law_table","_law_far","_law_some","_law_i","_law_numbers"] ["_law_script"] (zA5 (top 24)):=fsc
section
variable{P:Program}{w:World}{K:qA0}{mg:Str->Option Value}{base:Heap}
structure Bd(K:qA0)(mg:Str->Option Value):Prop where
 d0:Def K mg "_law_any_web" (top 17)
 d1:Def K mg "_law_mixed" (top 16)
 d2:Def K mg "_law_one" (top 19)
 d3:Def K mg "_law_two" (top 20)
 d4:Def K mg "_law_due" (top 21)
 d5:Def K mg "changed_where" (top 14)
 d6:Def K mg "part_at" (top 7)
 d7:MkrE K mg "exchanged_at" (top 12)
 d8:Def K mg "is_whole" (top 5)
 d9:Def K mg "has_number" (top 8)
 d10:Def K mg "ones_in" (top 9)
 d11:Def K mg "near_to" (top 13)
 d12:MkrE K mg "pivoted" (top 11)
 d13:Def K mg "_law_refused" (top 22)
 d14:Def K mg "_law_table_is" (top 18)
 d15:Def K mg "_law_right" (top 23)
 e0:mg "ValueError" = none
 e1:mg "all" = none
 e2:mg "bool" = none
 e3:mg "int" = none
 e4:mg "isinstance" = none
 e5:mg "len" = none
 e6:mg "list" = none
 e7:mg "max" = none
 e8:mg "min" = none
 e9:mg "range" = none
 e10:mg "zip" = none
structure Bn(P:Program)(w:World)(K:qA0)(mg:Str->Option Value)(base:Heap):Type where
 S:Bd K mg
 a_NoPivot:Addr
 a_NoCross:Addr
 a_RoundError:Addr
 z_NoPivot:XNo K mg "NoPivot" a_NoPivot
 n_RoundError:XCls K mg "RoundError" a_RoundError
 n_NoCross:XCls K mg "NoCross" a_NoCross
 n_NoPivot:XCls K mg "NoPivot" a_NoPivot
 q0:(∀c∈(["NoPivot"]:List Str),∃C,clK K c=some C/\Xc.XIs K C/\kitV K C (V.ref a_NoPivot)=some true)/\(∀c∈(["RoundError","NoCross"]:List Str),∃C,clK K c=some C/\Xc.XIs K C/\kitV K C (V.ref a_NoPivot)=some false)
 q1:(∀c∈(["RoundError","NoCross","NoPivot"]:List Str),∃C,clK K c=some C/\Xc.XIs K C/\kitV K C (V.ty "ValueError")=some true)/\(∀c∈([]:List Str),∃C,clK K c=some C/\Xc.XIs K C/\kitV K C (V.ty "ValueError")=some false)
 q2:(∀c∈(["NoCross"]:List Str),∃C,clK K c=some C/\Xc.XIs K C/\kitV K C (V.ref a_NoCross)=some true)/\(∀c∈(["RoundError","NoPivot"]:List Str),∃C,clK K c=some C/\Xc.XIs K C/\kitV K C (V.ref a_NoCross)=some false)
 q3:(∀c∈(["RoundError","NoCross","NoPivot"]:List Str),∃C,clK K c=some C/\qBw K (.ref C) (.ref a_RoundError)=some true)
variable(B:Bn P w K mg base)
include B
theorem zEV:LamOk K mg 0 "exchanged_at" zAO:=by
 obtain⟨T,g⟩:=B.S.d7;refine⟨⟨(_,_,_,"sides"),["i","j"],_,g.lam.trans rfl,lsc,fun _ _ _ _ _=>uw2 fun _ _=>rfl,rfl,?_⟩⟩;intro X q f cdv cl s H hK hm hr;subst hK hm
 letI:Kc:=⟨X.K⟩
 have hu:=hr.units;exact⟨_,(zHY (zBX (u_in (K:=X.K)) zAA (zAM (zAL (K:=X.K)) (pn 2) (pn 0) (fun _ _=>rfl)) rfl) (zHY (zBX (u_in (K:=X.K)) zAA (zAM (zAL (K:=X.K)) (pn 2) (pn 1) (fun _ _=>rfl)) rfl) (zG9 (zBX (u_ne hu) (zAM (zAL (K:=X.K)) (pn 2) (pn 0) (fun _ _=>rfl)) (zAM (zAL (K:=X.K)) (pn 2) (pn 1) (fun _ _=>rfl)) (zAU _))))),(dz (zEP (dz (zA7 zKJ (dz zAC) (zA7 zAN (de_v 2) (de_v 0)))) (zEP (dz (zA7 zKJ (dz zAC) (zA7 zAN (de_v 2) (de_v 1)))) (zA7 zHQ (zA7 zAN (de_v 2) (de_v 0)) (zA7 zAN (de_v 2) (de_v 1))))))⟩
theorem zJD:LamOk K mg 0 "pivoted" zB1:=by
 obtain⟨T,g⟩:=B.S.d12;refine⟨⟨(_,_,_,"near"),["i","j"],_,g.lam.trans rfl,lsc,fun _ _ _ _ _=>uw2 fun _ _=>rfl,rfl,?_⟩⟩;intro X q f cdv cl s H hK hm hr;subst hK hm
 letI:Kc:=⟨X.K⟩
 have hu:=hr.units;exact⟨_,(zHY (zBX (u_in (K:=X.K)) (pn 0) (pn 2) rfl) (zG9 (zBX (u_in (K:=X.K)) (pn 1) (pn 2) rfl))),(dz (zEP (dz (zA7 zKJ (de_v 0) (de_v 2))) (zA7 zKJ (de_v 1) (de_v 2))))⟩
theorem lams:∀y gm,([("exchanged_at",zAO),("pivoted",zB1)]:List (Str×Mi.FM)).lookup y=some gm->LamOk K mg 0 y gm:=lam2 (zEV B) (lam1 (zJD B))
theorem zFH:Has P w K mg base "_law_any_web" 1 ["_law_cells","_law_size","_law_slant"] (sp0 K mg 2 zCB):=by
 letI:Kc:=⟨K⟩
 exact dfM B.S.d0 S__law_any_web (fun _ _ _ _ _ _=>uw3 fun _ _ _=>rfl) fun hr hu h=>⟨_,(zAB (zCD (i:=3) S__law_any_web.nd rfl oi rfl (cn ["0","_law_size","2","3","4","5","6","_law_k"] 1 (by kernel_rfl)) (zAY rfl B.S.e9 (zA1 (pn 1) zA4)) (fun _ _ _ _=>(pgn 7)) (fun _ _ _ _=>zC2) (fun _ _ _ _=>(zB4 zU3 (zBA (zA1 zAA zA4)) (pn 1))))
   (zAB (zBW PassesOwn.never rfl (zAY rfl B.S.e9 (zA1 (pn 1) zA4)) (zBD (i:=4) S__law_any_web.nd rfl oi) (zAI (zBW PassesOwn.never rfl (zAY rfl B.S.e9 (zA1 (zB4 zF4 (pn 4) zAA) zA4)) (zBD (i:=5) S__law_any_web.nd rfl oi) (zAB (pst 6 S__law_any_web.nd (zAM (zAL (K:=K)) (pn 0) (zB4 zGK (zB4 zF4 (zB4 zDR (pn 4) (pn 1)) (pn 5)) (zAJ (zBG (K:=K)) rfl B.S.e5 boot_len (zA1 (pn 0) zA4))) (fun _ _=>rfl)))
   (zAB (pst 6 S__law_any_web.nd (zB4 zGK (zB4 zR3 (pn 6) (zB4 zF4 (zB4 zF4 zAA (zB4 zDR zAA (pn 4))) (zB4 zDR zAA (pn 5)))) zAA))
   (zAI (zD9 (pt_w (zHW (zBU (u_ne hu) (pn 4) (pn 5) (zAU _)) (zG7 (pt_m (pn 2))))) (zAB (zCE (pn 6) (zCR (zAM (zAL (K:=K)) (pn 3) (pn 4) (fun _ _=>rfl)) (pn 5) zET))
   (zAI (zCE (pn 6) (zCR (zAM (zAL (K:=K)) (pn 3) (pn 5) (fun _ _=>rfl)) (pn 4) zET)))) zBC)))))))
   (zAI (zAX (pn 3))))),(zBT (zAK (zAW (n:=2) [1] (zBM (n:=1) (zEF (zA2 (de_v 1) zA6)) (zB0 7) zD0 (zA7 zRK (zBB (n:=0) (zA2 zAC zA6)) (de_v 1))))
   (zAK (zEE (zEF (zA2 (de_v 1) zA6)) (zEE (zEF (zA2 (zAT (zA7 zCW (de_v 4) (dz zAC))) zA6)) (zAK (zAW (n:=0) [0,5,4,1] (zA7 zAN (de_v 0) (dz (zA7 zDV (zA7 zCW (dz (zA7 zDU (de_v 4) (de_v 1))) (de_v 5)) (dz (zBN zBI (zA2 (de_v 0) zA6)))))))
   (zAK (zAW (n:=0) [6,5,4] (zA7 zDV (dz (zA7 zRM (de_v 6) (zA7 zCW (zA7 zCW (dz zAC) (dz (zA7 zDU (dz zAC) (de_v 4)))) (dz (zA7 zDU (dz zAC) (de_v 5)))))) (dz zAC)))
   (zDA (zIC (dt_b (dz (zA7 zHQ (de_v 4) (de_v 5)))) (dt_m (de_v 2))) (zAK (zC9 3 (n:=0) (de_v 4) (de_v 5) (de_v 6))
   (zC9 3 (n:=0) (de_v 5) (de_v 4) (de_v 6))) zBZ)))))
   (zH3 3))) h)⟩
theorem zGV:Has P w K mg base "_law_mixed" 1 ["_law_script","_law_least"] (sp0 K mg 9 zBV):=by
 letI:Kc:=⟨K⟩
 exact dfM B.S.d1 S__law_mixed (fun _ _ _ _ _ _=>uw2 fun _ _=>rfl) fun hr hu h=>⟨_,(zAB (pst 2 S__law_mixed.nd (zBA zA4))
   (zAB (zBW PassesOwn.never rfl (zAY rfl B.S.e9 (zA1 (zAJ (zIK rfl) rfl B.S.e7 boot_max (zA1 (pn 1) (zA1 (zAJ (zMP rfl) rfl B.S.e8 boot_min (zA1 zAA (zA1 (zAJ (zBG (K:=K)) rfl B.S.e5 boot_len (zA1 (pn 0) zA4)) zA4))) zA4))) zA4)) (zBD (i:=3) S__law_mixed.nd rfl oi) (zAB (pst 4 S__law_mixed.nd zAA)
   (zAB (zD9 (zBU u_lt (pn 3) (zAJ (zBG (K:=K)) rfl B.S.e5 boot_len (zA1 (pn 0) zA4)) (zAU _)) (zAI (pst 4 S__law_mixed.nd (zB4 zGK (zAM (zAL (K:=K)) (pn 0) (pn 3) (fun _ _=>rfl)) zAA))) zBC)
   (zAB (pst 5 S__law_mixed.nd (zB4 zGK (zB4 zDR (zB4 zGK (zB4 zF4 (zB4 zDR (zB4 zF4 (pn 4) zAA) zAA) (zB4 zDR (zB4 zDR (pn 3) (pn 3)) zAA)) zAA) zAA) zAA))
   (zAI (zJ6 (zSD qC7 qCz qD0 zLV (pn 2) (zA1 (zB4 zF4 (zB4 zDR (pn 5) zAA) (zB4 zGK (zB4 zF4 (zB4 zDR (pn 5) zAA) (pn 3)) zAA)) zA4))))))))
   (zAI (zAX (pn 2))))),(zBT (zAK (zAW (n:=9) [] (zBB (n:=8) zA6))
   (zAK (zEE (zEF (zA2 (zBN zTQ (zA2 (de_v 1) (zA2 (zBN zTP (zA2 zAC (zA2 (zBN zBI (zA2 (de_v 0) zA6)) zA6))) zA6))) zA6)) (zAK (zAW (n:=0) [] zAC)
   (zAK (zDA (dt_b (dz (zA7 zEL (de_v 3) (dz (zBN zBI (zA2 (de_v 0) zA6)))))) (zAW (n:=0) [0,3] (zA7 zDV (zA7 zAN (de_v 0) (de_v 3)) (dz zAC))) zBZ)
   (zAK (zAW (n:=0) [4,3] (zA7 zDV (dz (zA7 zDU (dz (zA7 zDV (zA7 zCW (dz (zA7 zDU (zA7 zCW (de_v 4) (dz zAC)) (dz zAC))) (dz (zA7 zDU (dz (zA7 zDU (de_v 3) (de_v 3))) (dz zAC)))) (dz zAC))) (dz zAC))) (dz zAC)))
   (zTH 2 (n:=1) (zA7 zCW (dz (zA7 zDU (de_v 5) (dz zAC))) (dz (zA7 zDV (zA7 zCW (dz (zA7 zDU (de_v 5) (dz zAC))) (de_v 3)) (dz zAC)))))))))
   (zH3 2))) h)⟩
theorem zJ9:Has P w K mg base "_law_one" 1 ["_law_table","_law_v"] (sp0 K mg 2 zCL):=by
 letI:Kc:=⟨K⟩
 exact dfM B.S.d2 S__law_one (fun _ _ _ _ _ _=>uw2 fun _ _=>rfl) fun hr hu h=>⟨_,(zAB (zCD (i:=2) S__law_one.nd rfl oi rfl (cn ["0","1","2","3","4","_law_row"] 1 (by kernel_rfl)) (zCQ (K:=K) (pn 0)) (fun _ _ _ _=>(pgn 5)) (fun _ _ _ _=>zC2) (fun _ _ _ _=>(zCF (zFN (K:=K) rfl) rfl B.S.e6 boot_list (zA1 (pn 5) zA4))))
   (zAB (zBW PassesOwn.never rfl (zAY rfl B.S.e9 (zA1 (zAJ (zBG (K:=K)) rfl B.S.e5 boot_len (zA1 (pn 0) zA4)) zA4)) (zBD (i:=3) S__law_one.nd rfl oi) (zAI (zBW PassesOwn.never rfl (zAY rfl B.S.e9 (zA1 (zAJ (zBG (K:=K)) rfl B.S.e5 boot_len (zA1 (pn 0) zA4)) zA4)) (zBD (i:=4) S__law_one.nd rfl oi) (zAI (zD9 (pt_w (zDW (zBU (zL2 (K:=K)) (pn 1) (zEM (zA1 (pn 3) (zA1 (pn 4) zA4))) rfl) (zDW (zBU (u_eq hu) (zAM (zAL (K:=K)) (zAM (zAL (K:=K)) (pn 0) (pn 3) (fun _ _=>rfl)) (pn 1) (fun _ _=>rfl)) zAA (zAU _)) (zFB (zBU (u_eq hu) (zAM (zAL (K:=K)) (zAM (zAL (K:=K)) (pn 0) (pn 1) (fun _ _=>rfl)) (pn 4) (fun _ _=>rfl)) zAA (zAU _)))))) (zAI (zCE (zB4 zN3 zAA (zAM (zAL (K:=K)) (zAM (zAL (K:=K)) (pn 0) (pn 3) (fun _ _=>rfl)) (pn 4) (fun _ _=>rfl))) (zCR (zAM (zAL (K:=K)) (pn 2) (pn 3) (fun _ _=>rfl)) (pn 4) zET))) zBC)))))
   (zAI (zAX (pn 2))))),(zBT (zAK (zAW (n:=2) [0] (zBM (n:=1) (zD1 (de_v 0)) (zB0 5) zD0 (zBN zH8 (zA2 (de_v 5) zA6))))
   (zAK (zEE (zEF (zA2 (zBN zBI (zA2 (de_v 0) zA6)) zA6)) (zEE (zEF (zA2 (zBN zBI (zA2 (de_v 0) zA6)) zA6)) (zDA (zE2 (dt_b (dz (zA7 zKJ (de_v 1) (zEO (n:=0) (zA2 (de_v 3) (zA2 (de_v 4) zA6)))))) (zE2 (dt_b (dz (zA7 zCU (zA7 zAN (zA7 zAN (de_v 0) (de_v 3)) (de_v 1)) (dz zAC)))) (dt_b (dz (zA7 zCU (zA7 zAN (zA7 zAN (de_v 0) (de_v 1)) (de_v 4)) (dz zAC)))))) (zC9 2 (n:=0) (de_v 3) (de_v 4) (zA7 zJU (dz zAC) (zA7 zAN (zA7 zAN (de_v 0) (de_v 3)) (de_v 4)))) zBZ)))
   (zH3 2))) h)⟩
theorem zJ8:Has P w K mg base "_law_two" 1 ["_law_table","_law_u","_law_v"] (sp0 K mg 2 zCK):=by
 letI:Kc:=⟨K⟩
 exact dfM B.S.d3 S__law_two (fun _ _ _ _ _ _=>uw3 fun _ _ _=>rfl) fun hr hu h=>⟨_,(zAB (zCD (i:=3) S__law_two.nd rfl oi rfl (cn ["0","1","2","3","4","5","6","7","_law_row"] 1 (by kernel_rfl)) (zCQ (K:=K) (pn 0)) (fun _ _ _ _=>(pgn 8)) (fun _ _ _ _=>zC2) (fun _ _ _ _=>(zCF (zFN (K:=K) rfl) rfl B.S.e6 boot_list (zA1 (pn 8) zA4))))
   (zAB (zCD (i:=4) S__law_two.nd rfl oi rfl (cn ["0","_law_u","_law_v","3","4","5","6","7","_law_k"] 1 (by kernel_rfl)) (zAY rfl B.S.e9 (zA1 (zAJ (zBG (K:=K)) rfl B.S.e5 boot_len (zA1 (pn 0) zA4)) zA4)) (fun _ _ _ _=>(pgn 8)) (fun _ _ _ _=>zJ5 (zBU (zL2 (K:=K)) (pn 8) (zEM (zA1 (pn 1) (zA1 (pn 2) zA4))) rfl)) (fun _ _ _ _=>(pn 8)))
   (zAB (zBW PassesOwn.never rfl (zCQ (K:=K) (pn 4)) (zBD (i:=5) S__law_two.nd rfl oi) (zAB (zCE (zAM (zAL (K:=K)) (zAM (zAL (K:=K)) (pn 0) (pn 2) (fun _ _=>rfl)) (pn 5) (fun _ _=>rfl)) (zCR (zAM (zAL (K:=K)) (pn 3) (pn 1) (fun _ _=>rfl)) (pn 5) zET))
   (zAB (zCE (zAM (zAL (K:=K)) (zAM (zAL (K:=K)) (pn 0) (pn 2) (fun _ _=>rfl)) (pn 5) (fun _ _=>rfl)) (zCR (zAM (zAL (K:=K)) (pn 3) (pn 5) (fun _ _=>rfl)) (pn 1) zET))
   (zAB (zCE (zAM (zAL (K:=K)) (zAM (zAL (K:=K)) (pn 0) (pn 1) (fun _ _=>rfl)) (pn 5) (fun _ _=>rfl)) (zCR (zAM (zAL (K:=K)) (pn 3) (pn 2) (fun _ _=>rfl)) (pn 5) zET))
   (zAB (zCE (zAM (zAL (K:=K)) (zAM (zAL (K:=K)) (pn 0) (pn 1) (fun _ _=>rfl)) (pn 5) (fun _ _=>rfl)) (zCR (zAM (zAL (K:=K)) (pn 3) (pn 5) (fun _ _=>rfl)) (pn 2) zET))
   (zAI (zBW PassesOwn.never rfl (zCQ (K:=K) (pn 4)) (zBD (i:=6) S__law_two.nd rfl oi) (zAB (pst 7 S__law_two.nd (zBA (zA1 (zEM (zA1 (zAM (zAL (K:=K)) (zAM (zAL (K:=K)) (pn 0) (pn 5) (fun _ _=>rfl)) (pn 1) (fun _ _=>rfl)) (zA1 (zAM (zAL (K:=K)) (zAM (zAL (K:=K)) (pn 0) (pn 5) (fun _ _=>rfl)) (pn 2) (fun _ _=>rfl)) zA4))) (zA1 (zEM (zA1 (zAM (zAL (K:=K)) (zAM (zAL (K:=K)) (pn 0) (pn 6) (fun _ _=>rfl)) (pn 1) (fun _ _=>rfl)) (zA1 (zAM (zAL (K:=K)) (zAM (zAL (K:=K)) (pn 0) (pn 6) (fun _ _=>rfl)) (pn 2) (fun _ _=>rfl)) zA4))) zA4))))
   (zAI (zD9 (pt_w (zDW (zBU (u_ne hu) (pn 5) (pn 6) (zAU _)) (zDW (zBU (zN4 hu) (zEM (zA1 zAA (zA1 zAA zA4))) (pn 7) rfl) (zFB (zBU (u_ne hu) (zAM (zAL (K:=K)) (pn 7) zAA (fun _ _=>rfl)) (zAM (zAL (K:=K)) (pn 7) zAA (fun _ _=>rfl)) (zAU _)))))) (zAI (zCE (zB4 zN3 zAA (zAM (zAL (K:=K)) (zAM (zAL (K:=K)) (pn 0) (pn 5) (fun _ _=>rfl)) (pn 6) (fun _ _=>rfl))) (zCR (zAM (zAL (K:=K)) (pn 3) (pn 5) (fun _ _=>rfl)) (pn 6) zET))) zBC))))))))))
   (zAI (zAX (pn 3)))))),(zBT (zAK (zAW (n:=2) [0] (zBM (n:=1) (zD1 (de_v 0)) (zB0 8) zD0 (zBN zH8 (zA2 (de_v 8) zA6))))
   (zAK (zAW (n:=1) [0,1,2] (zBM (n:=0) (zEF (zA2 (zBN zBI (zA2 (de_v 0) zA6)) zA6)) (zB0 8) (dt_b (dz (zA7 zKJ (de_v 8) (zEO (n:=0) (zA2 (de_v 1) (zA2 (de_v 2) zA6)))))) (de_v 8)))
   (zAK (zIE [4] (zD1 (de_v 4)) (zB0 5) (zAK (zC9 3 (n:=0) (de_v 1) (de_v 5) (zA7 zAN (zA7 zAN (de_v 0) (de_v 2)) (de_v 5)))
   (zAK (zC9 3 (n:=0) (de_v 5) (de_v 1) (zA7 zAN (zA7 zAN (de_v 0) (de_v 2)) (de_v 5)))
   (zAK (zC9 3 (n:=0) (de_v 2) (de_v 5) (zA7 zAN (zA7 zAN (de_v 0) (de_v 1)) (de_v 5)))
   (zAK (zC9 3 (n:=0) (de_v 5) (de_v 2) (zA7 zAN (zA7 zAN (de_v 0) (de_v 1)) (de_v 5)))
   (zIE [4] (zD1 (de_v 4)) (zB0 6) (zAK (zAW (n:=2) [1,2,0,5,6] (zBB (n:=1) (zA2 (zEO (n:=0) (zA2 (zA7 zAN (zA7 zAN (de_v 0) (de_v 5)) (de_v 1)) (zA2 (zA7 zAN (zA7 zAN (de_v 0) (de_v 5)) (de_v 2)) zA6))) (zA2 (zEO (n:=0) (zA2 (zA7 zAN (zA7 zAN (de_v 0) (de_v 6)) (de_v 1)) (zA2 (zA7 zAN (zA7 zAN (de_v 0) (de_v 6)) (de_v 2)) zA6))) zA6))))
   (zDA (zE2 (dt_b (dz (zA7 zHQ (de_v 5) (de_v 6)))) (zE2 (dt_b (dz (zA7 zPQ (zAT (zEO (n:=0) (zA2 zAC (zA2 zAC zA6)))) (de_v 7)))) (dt_b (dz (zA7 zHQ (zA7 zAN (de_v 7) (dz zAC)) (zA7 zAN (de_v 7) (dz zAC))))))) (zC9 3 (n:=0) (de_v 5) (de_v 6) (zA7 zJU (dz zAC) (zA7 zAN (zA7 zAN (de_v 0) (de_v 5)) (de_v 6)))) zBZ))))))))
   (zH3 3)))) h)⟩
theorem zJA:Has P w K mg base "_law_due" 2 ["_law_table","_law_numbers"] (sp0 K mg 2 zCM):=by
 letI:Kc:=⟨K⟩
 exact dfM B.S.d4 S__law_due (fun _ _ _ _ _ _=>uw2 fun _ _=>rfl) fun hr hu h=>⟨_,(zAB (zD9 (pt_w (zDW (zBU (u_eq hu) (zAJ (zBG (K:=K)) rfl B.S.e5 boot_len (zA1 (pn 1) zA4)) zAA (zAU _)) (zDW (zS3 u_le u_lt zAA (zAM (zAL (K:=K)) (pn 1) zAA (fun _ _=>rfl)) (zAJ (zBG (K:=K)) rfl B.S.e5 boot_len (zA1 (pn 0) zA4))) (zFB (zBU (u_eq hu) (zAM (zAL (K:=K)) (zAM (zAL (K:=K)) (pn 0) (zAM (zAL (K:=K)) (pn 1) zAA (fun _ _=>rfl)) (fun _ _=>rfl)) (zAM (zAL (K:=K)) (pn 1) zAA (fun _ _=>rfl)) (fun _ _=>rfl)) zAA (zAU _)))))) (zAI (zAX (zDJ (zJ9 B) (by decide) hr rfl (zA1 (pn 0) (zA1 (zAM (zAL (K:=K)) (pn 1) zAA (fun _ _=>rfl)) zA4))))) zBC)
   (zAB (zD9 (pt_w (zHW (zBU (u_ne hu) (zAJ (zBG (K:=K)) rfl B.S.e5 boot_len (zA1 (pn 1) zA4)) zAA (zAU _)) (zHW (zBU (u_eq hu) (zAM (zAL (K:=K)) (pn 1) zAA (fun _ _=>rfl)) (zAM (zAL (K:=K)) (pn 1) zAA (fun _ _=>rfl)) (zAU _)) (zHW (zBU u_lt (zAJ (zSY rfl) rfl B.S.e8 boot_min (zA1 (pn 1) zA4)) zAA (zAU _)) (zG7 (zBU u_ge (zAJ (zSZ rfl) rfl B.S.e7 boot_max (zA1 (pn 1) zA4)) (zAJ (zBG (K:=K)) rfl B.S.e5 boot_len (zA1 (pn 0) zA4)) (zAU _))))))) (zAI (zAX zLK)) zBC)
   (zAB (zCE (pn 1) (zS8 (K:=K) rfl (zEX (zBD (i:=2) S__law_due.nd rfl oi) (zEX (zBD (i:=3) S__law_due.nd rfl oi) zLH))))
   (zAB (zD9 (pt_w (zDW (zBU (u_eq hu) (zAM (zAL (K:=K)) (zAM (zAL (K:=K)) (pn 0) (pn 2) (fun _ _=>rfl)) (pn 3) (fun _ _=>rfl)) zAA (zAU _)) (zDW (zBU (u_eq hu) (zAM (zAL (K:=K)) (zAM (zAL (K:=K)) (pn 0) (pn 2) (fun _ _=>rfl)) (pn 2) (fun _ _=>rfl)) zAA (zAU _)) (zFB (zBU (u_eq hu) (zAM (zAL (K:=K)) (zAM (zAL (K:=K)) (pn 0) (pn 3) (fun _ _=>rfl)) (pn 3) (fun _ _=>rfl)) zAA (zAU _)))))) (zAI (zAX (zDJ (zJ8 B) (by decide) hr rfl (zA1 (pn 0) (zA1 (pn 2) (zA1 (pn 3) zA4)))))) zBC)
   (zAI (zAX zLK)))))),(zBT (zAK (zDA (zE2 (dt_b (dz (zA7 zCU (dz (zBN zBI (zA2 (de_v 1) zA6))) (dz zAC)))) (zE2 (dt_b (dz (zK7 zEL zEL (dz zAC) (zA7 zAN (de_v 1) (dz zAC)) (dz (zBN zBI (zA2 (de_v 0) zA6)))))) (dt_b (dz (zA7 zCU (zA7 zAN (zA7 zAN (de_v 0) (zA7 zAN (de_v 1) (dz zAC))) (zA7 zAN (de_v 1) (dz zAC))) (dz zAC)))))) (zB7 (n:=2) [0,1] (zD3 (zA2 (de_v 0) (zA2 (zA7 zAN (de_v 1) (dz zAC)) zA6)))) zBZ)
   (zAK (zDA (zIC (dt_b (dz (zA7 zHQ (dz (zBN zBI (zA2 (de_v 1) zA6))) (dz zAC)))) (zIC (dt_b (dz (zA7 zCU (zA7 zAN (de_v 1) (dz zAC)) (zA7 zAN (de_v 1) (dz zAC))))) (zIC (dt_b (dz (zA7 zEL (dz (zBN zQP (zA2 (de_v 1) zA6))) (dz zAC)))) (dt_b (dz (zA7 zEL (dz (zBN zQQ (zA2 (de_v 1) zA6))) (dz (zBN zBI (zA2 (de_v 0) zA6))))))))) (zB7 (n:=2) [] zMJ) zBZ)
   (zAK (zQN [1] (zEW 2 (zEW 3 zL4)) rfl (de_v 1))
   (zAK (zDA (zE2 (dt_b (dz (zA7 zCU (zA7 zAN (zA7 zAN (de_v 0) (de_v 2)) (de_v 3)) (dz zAC)))) (zE2 (dt_b (dz (zA7 zCU (zA7 zAN (zA7 zAN (de_v 0) (de_v 2)) (de_v 2)) (dz zAC)))) (dt_b (dz (zA7 zCU (zA7 zAN (zA7 zAN (de_v 0) (de_v 3)) (de_v 3)) (dz zAC)))))) (zB7 (n:=2) [0,2,3] (zD3 (zA2 (de_v 0) (zA2 (de_v 2) (zA2 (de_v 3) zA6))))) zBZ)
   (zB7 (n:=2) [] zMJ))))) h)⟩
theorem zCS:Has P w K mg base "changed_where" 2 ["table","is_changed"] (sp0 K mg 2 zB6):=by
 letI:Kc:=⟨K⟩
 exact dfM B.S.d5 S_changed_where (fun _ _ _ _ _ _=>uw2 fun _ _=>rfl) fun hr hu h=>⟨_,(zAB (pst 2 S_changed_where.nd (zAJ (zBG (K:=K)) rfl B.S.e5 boot_len (zA1 (pn 0) zA4)))
   (zAI (zAX (zCH rfl (cn ["table","is_changed","size","i"] 1 (by kernel_rfl)) (zAY rfl B.S.e9 (zA1 (pn 2) zA4)) (fun _ _ _ _=>(pgn 3)) (fun _ _ _ _=>zC2) (fun _ _ _ _=>(zCH rfl (cn ["table","is_changed","2","i","j"] 1 (by kernel_rfl)) (zAY rfl B.S.e9 (zA1 (pn 2) zA4)) (fun _ _ _ _=>(pgn 4)) (fun _ _ _ _=>zC2) (fun _ _ _ _=>(zB4 zU2 (zAM (zAL (K:=K)) (zAM (zAL (K:=K)) (pn 0) (pn 3) (fun _ _=>rfl)) (pn 4) (fun _ _=>rfl)) (zNO (pt_m (pcf 1 (lamR rfl rfl (hr.mono (by decide)) (lams B)) (zA1 (pn 3) (zA1 (pn 4) zA4)))) zAA zAA))))))))),(zBT (zAK (zAW (n:=0) [0] (zBN zBI (zA2 (de_v 0) zA6)))
   (zB7 (n:=2) [2,0,1] (zBM (n:=1) (zEF (zA2 (de_v 2) zA6)) (zB0 3) zD0 (zBM (n:=0) (zEF (zA2 (de_v 2) zA6)) (zB0 4) zD0 (zA7 zRJ (zA7 zAN (zA7 zAN (de_v 0) (de_v 3)) (de_v 4)) (dz (zTN (dt_m (dz (zOD (zA2 (de_v 3) (zA2 (de_v 4) zA6))))) zAC zAC))))))) h)⟩
theorem zGA:Has P w K mg base "part_at" 1 ["table","numbers"] (sp0 K mg 2 zBR):=by
 letI:Kc:=⟨K⟩
 exact dfM B.S.d6 zMY (fun _ _ _ _ _ _=>uw2 fun _ _=>rfl) fun hr hu h=>⟨_,(zAI (zAX (zCH rfl (cn ["table","numbers","i"] 1 (by kernel_rfl)) (zCQ (K:=K) (pn 1)) (fun _ _ _ _=>(pgn 2)) (fun _ _ _ _=>zC2) (fun _ _ _ _=>(zCH rfl (cn ["table","1","i","j"] 1 (by kernel_rfl)) (zCQ (K:=K) (pn 1)) (fun _ _ _ _=>(pgn 3)) (fun _ _ _ _=>zC2) (fun _ _ _ _=>(zAM (zAL (K:=K)) (zAM (zAL (K:=K)) (pn 0) (pn 2) (fun _ _=>rfl)) (pn 3) (fun _ _=>rfl)))))))),(zBT (zB7 (n:=2) [1,0] (zBM (n:=1) (zD1 (de_v 1)) (zB0 2) zD0 (zBM (n:=0) (zD1 (de_v 1)) (zB0 3) zD0 (zA7 zAN (zA7 zAN (de_v 0) (de_v 2)) (de_v 3))))) h)⟩
theorem zFF:Has P w K mg base "exchanged_at" 3 ["table","one","other"] (sp0 K mg 2 zBS):=by
 obtain⟨T,g⟩:=B.S.d7
 letI:Kc:=⟨K⟩
 exact dfL g S_exchanged_at (fun _ _ _ _ _ _=>uw3 fun _ _ _=>rfl) fun hC hr hu h=>⟨_,(zAB (pst 3 S_exchanged_at.nd (zCH rfl (cn ["table","one","other","3","4","5","i"] 1 (by kernel_rfl)) (zAY rfl B.S.e9 (zA1 (zAJ (zBG (K:=K)) rfl B.S.e5 boot_len (zA1 (pn 0) zA4)) zA4)) (fun _ _ _ _=>(pgn 6)) (fun _ _ _ _=>zC2) (fun _ _ _ _=>(zEM (zA1 (zAM (zAL (K:=K)) (zAM (zAL (K:=K)) (pn 0) (pn 1) (fun _ _=>rfl)) (pn 6) (fun _ _=>rfl)) (zA1 (zAM (zAL (K:=K)) (zAM (zAL (K:=K)) (pn 0) (pn 2) (fun _ _=>rfl)) (pn 6) (fun _ _=>rfl)) zA4))))))
   (zAB (zCE (zEM (zA1 zAA (zA1 zAA zA4))) (zCR (pn 3) (pn 1) zET))
   (zAB (zCE (zEM (zA1 zAA (zA1 zAA zA4))) (zCR (pn 3) (pn 2) zET))
   (zAB (pst 4 S_exchanged_at.nd (zOV 3 (zCS B) (by decide) hr rfl (zA1 (pn 0) (zA1 (zLM hC) zA4))))
   (zAB (pst 5 S_exchanged_at.nd (zCF (zFN (K:=K) rfl) rfl B.S.e6 boot_list (zA1 (zCF zQD rfl B.S.e9 boot_range (zA1 (zAJ (zBG (K:=K)) rfl B.S.e5 boot_len (zA1 (pn 0) zA4)) zA4)) zA4)))
   (zAB (zCE (pn 2) (zCR (pn 5) (pn 1) zET))
   (zAB (zCE (pn 1) (zCR (pn 5) (pn 2) zET))
   (zAI (zAX (zDJ (zGA B) (by decide) hr rfl (zA1 (pn 4) (zA1 (pn 5) zA4)))))))))))),(zBT (zAK (zAW (n:=2) [0,1,2] (zBM (n:=1) (zEF (zA2 (zBN zBI (zA2 (de_v 0) zA6)) zA6)) (zB0 6) zD0 (zEO (n:=0) (zA2 (zA7 zAN (zA7 zAN (de_v 0) (de_v 1)) (de_v 6)) (zA2 (zA7 zAN (zA7 zAN (de_v 0) (de_v 2)) (de_v 6)) zA6)))))
   (zAK (zH4 3 (n:=1) (de_v 1) (zEO (n:=0) (zA2 zAC (zA2 zAC zA6))))
   (zAK (zH4 3 (n:=1) (de_v 2) (zEO (n:=0) (zA2 zAC (zA2 zAC zA6))))
   (zAK (zAW (n:=2) [0,3] (zK8 g (de_v 0)))
   (zAK (zAW (n:=1) [0] (zIG (zA2 (zBN zBI (zA2 (de_v 0) zA6)) zA6)))
   (zAK (zH4 5 (n:=0) (de_v 1) (de_v 2))
   (zAK (zH4 5 (n:=0) (de_v 2) (de_v 1))
   (zB7 (n:=2) [4,5] (zD3 (zA2 (de_v 4) (zA2 (de_v 5) zA6))))))))))) h)⟩
theorem zJ7:Has P w K mg base "is_whole" 1 ["thing"] (sp0 K mg 0 zC7):=by
 letI:Kc:=⟨K⟩
 exact dfM B.S.d8 zKY (fun _ _ _ _ _ _=>uw1 fun _=>rfl) fun hr hu h=>⟨_,(zAI (zAX (zHY (zAJ zBH rfl B.S.e4 boot_isinstance (zA1 (pn 0) (zA1 (zDK (v:=.ty "int") rfl B.S.e3 boot_int rfl) zA4))) (zG9 (zUG (zAJ zBH rfl B.S.e4 boot_isinstance (zA1 (pn 0) (zA1 (zDK (v:=.ty "bool") rfl B.S.e2 boot_bool rfl) zA4)))))))),(zBT (zB7 (n:=0) [0] (zEP (dz (zGG (by decide) (de_v 0))) (zTM (dz (zGG (by decide) (de_v 0)))))) h)⟩
theorem zGT:Has P w K mg base "has_number" 2 ["table","number"] (sp0 K mg 0 zC6):=by
 letI:Kc:=⟨K⟩
 exact dfM B.S.d9 zIZ (fun _ _ _ _ _ _=>uw2 fun _ _=>rfl) fun hr hu h=>⟨_,(zAI (zAX (zHY (zDJ (zJ7 B) (by decide) hr rfl (zA1 (pn 1) zA4)) (zG9 (zSF u_le u_lt zAA (pn 1) (zAJ (zBG (K:=K)) rfl B.S.e5 boot_len (zA1 (pn 0) zA4))))))),(zBT (zB7 (n:=0) [1,0] (zEP (zD3 (zA2 (de_v 1) zA6)) (zK7 zEL zEL (dz zAC) (de_v 1) (dz (zBN zBI (zA2 (de_v 0) zA6)))))) h)⟩
theorem zKM:Has P w K mg base "ones_in" 1 ["row"] (sp0 K mg 1 zCY):=by
 letI:Kc:=⟨K⟩
 exact dfM B.S.d10 zMZ (fun _ _ _ _ _ _=>uw1 fun _=>rfl) fun hr hu h=>⟨_,(zAI (zAX (zCH rfl (cn ["row","j"] 1 (by kernel_rfl)) (zAY rfl B.S.e9 (zA1 (zAJ (zBG (K:=K)) rfl B.S.e5 boot_len (zA1 (pn 0) zA4)) zA4)) (fun _ _ _ _=>(pgn 1)) (fun _ _ _ _=>zJ5 (zBU (u_eq hu) (zAM (zAL (K:=K)) (pn 0) (pn 1) (fun _ _=>rfl)) zAA (zAU _))) (fun _ _ _ _=>(pn 1))))),(zBT (zB7 (n:=1) [0] (zBM (n:=0) (zEF (zA2 (zBN zBI (zA2 (de_v 0) zA6)) zA6)) (zB0 1) (dt_b (dz (zA7 zCU (zA7 zAN (de_v 0) (de_v 1)) (dz zAC)))) (de_v 1))) h)⟩
theorem zKN:Has P w K mg base "near_to" 2 ["table","number"] (sp0 K mg 1 zFJ):=by
 letI:Kc:=⟨K⟩
 exact dfM B.S.d11 zN0 (fun _ _ _ _ _ _=>uw2 fun _ _=>rfl) fun hr hu h=>⟨_,(zAI (zAX (zCH rfl (cn ["0","number","i"] 1 (by kernel_rfl)) (zCQ (K:=K) (zDJ (zKM B) (by decide) hr rfl (zA1 (zAM (zAL (K:=K)) (pn 0) (pn 1) (fun _ _=>rfl)) zA4))) (fun _ _ _ _=>(pgn 2)) (fun _ _ _ _=>zJ5 (zBU (u_ne hu) (pn 2) (pn 1) (zAU _))) (fun _ _ _ _=>(pn 2))))),(zBT (zB7 (n:=1) [1,0] (zBM (n:=0) (zD1 (zD3 (zA2 (zA7 zAN (de_v 0) (de_v 1)) zA6))) (zB0 2) (dt_b (dz (zA7 zHQ (de_v 2) (de_v 1)))) (de_v 2))) h)⟩
theorem zEB:HasX P w K mg base "pivoted" 4 ["table","numbers"] (spE K mg 2 zB3):=by
 obtain⟨T,g⟩:=B.S.d12
 letI:Kc:=⟨K⟩
 exact dfLX g S_pivoted (fun _ _ _ _ _ _=>uw2 fun _ _=>rfl) fun hC hr hu h=>⟨_,(zAB (zD9 (zFC (pt_m (zAJ (zUS rfl) rfl B.S.e1 boot_all (zA1 (zCH rfl (cn ["table","1","2","number"] 1 (by kernel_rfl)) (zCQ (K:=K) (pn 1)) (fun _ _ _ _=>(pgn 3)) (fun _ _ _ _=>zC2) (fun _ _ _ _=>(zDJ (zGT B) (by decide) hr rfl (zA1 (pn 0) (zA1 (pn 3) zA4))))) zA4)))) (zAI (zJX (zOU B.z_NoPivot rfl (zA1 zOT zA4)) zDZ rfl)) zBC)
   (zAB (zD9 (pt_w (zDW (zBU (u_eq hu) (zAJ (zBG (K:=K)) rfl B.S.e5 boot_len (zA1 (pn 1) zA4)) zAA (zAU _)) (zFB (zBU (u_eq hu) (zAM (zAL (K:=K)) (zAM (zAL (K:=K)) (pn 0) (zAM (zAL (K:=K)) (pn 1) zAA (fun _ _=>rfl)) (fun _ _=>rfl)) (zAM (zAL (K:=K)) (pn 1) zAA (fun _ _=>rfl)) (fun _ _=>rfl)) zAA (zAU _))))) (zAB (pst 2 S_pivoted.nd (zDJ (zKN B) (by decide) hr rfl (zA1 (pn 0) (zA1 (zAM (zAL (K:=K)) (pn 1) zAA (fun _ _=>rfl)) zA4))))
   (zAI (zAX (zOV 2 (zCS B) (by decide) hr rfl (zA1 (pn 0) (zA1 (zLM hC) zA4)))))) zBC)
   (zAB (zD9 (zBU (u_eq hu) (zDJ (zGA B) (by decide) hr rfl (zA1 (pn 0) (zA1 (pn 1) zA4))) (zBA (zA1 (zBA (zA1 zAA (zA1 zAA zA4))) (zA1 (zBA (zA1 zAA (zA1 zAA zA4))) zA4))) (zAU _)) (zAI (zAX (zDJ (zFF B) (by decide) hr rfl (zA1 (pn 0) (zA1 (zAM (zAL (K:=K)) (pn 1) zAA (fun _ _=>rfl)) (zA1 (zAM (zAL (K:=K)) (pn 1) zAA (fun _ _=>rfl)) zA4)))))) zBC)
   (zAI (zJX (zOU B.z_NoPivot rfl (zA1 zOT zA4)) zDZ rfl))))),(zBT (zAK (zDA (zFU (dt_m (dz (zBN zTR (zA2 (zAT (zBM (n:=0) (zD1 (de_v 1)) (zB0 3) zD0 (zCA (zA2 (de_v 0) (zA2 (de_v 3) zA6))))) zA6))))) (zID B.z_NoPivot (zA2 zP9 zA6)) zBZ)
   (zAK (zDA (zE2 (dt_b (dz (zA7 zCU (dz (zBN zBI (zA2 (de_v 1) zA6))) (dz zAC)))) (dt_b (dz (zA7 zCU (zA7 zAN (zA7 zAN (de_v 0) (zA7 zAN (de_v 1) (dz zAC))) (zA7 zAN (de_v 1) (dz zAC))) (dz zAC))))) (zAK (zAW (n:=1) [0,1] (zCA (zA2 (de_v 0) (zA2 (zA7 zAN (de_v 1) (dz zAC)) zA6))))
   (zB7 (n:=2) [0,2] (zK8 g (de_v 0)))) zBZ)
   (zAK (zDA (dt_b (dz (zA7 zCU (zCA (zA2 (de_v 0) (zA2 (de_v 1) zA6))) (zBB (n:=1) (zA2 (zBB (n:=0) (zA2 zAC (zA2 zAC zA6))) (zA2 (zBB (n:=0) (zA2 zAC (zA2 zAC zA6))) zA6)))))) (zB7 (n:=2) [0,1] (zCA (zA2 (de_v 0) (zA2 (zA7 zAN (de_v 1) (dz zAC)) (zA2 (zA7 zAN (de_v 1) (dz zAC)) zA6))))) zBZ)
   (zID B.z_NoPivot (zA2 zP9 zA6))))) h)⟩
theorem zFG:Has P w K mg base "_law_refused" 5 ["_law_table","_law_numbers"] (sp0 K mg 0 zBQ):=by
 letI:Kc:=⟨K⟩
 exact dfM B.S.d13 S__law_refused (fun _ _ _ _ _ _=>uw2 fun _ _=>rfl) fun hr hu h=>⟨_,(zAB (pst 2 S__law_refused.nd (zBA zA4))
   (zAB (zNK (i:=3) (zNI (zNJ (zSA (zEB B) (by decide) hr rfl (zA1 (pn 0) (zA1 (pn 1) zA4))))) ⟨rfl,rfl⟩ (qEo B.n_RoundError.gm) rfl S__law_refused.nd rfl rfl (fun _=>(zAI (pst 2 S__law_refused.nd (zBA (zA1 (zAJ zFV rfl B.S.e4 boot_isinstance (zA1 (pn 3) (zA1 (zOW rfl B.n_NoPivot.gm) zA4))) (zA1 (zAJ zFV rfl B.S.e4 boot_isinstance (zA1 (pn 3) (zA1 (zDK (v:=.ty "ValueError") rfl B.S.e0 zFW rfl) zA4))) (zA1 (zAJ zFV rfl B.S.e4 boot_isinstance (zA1 (pn 3) (zA1 (zOW rfl B.n_NoCross.gm) zA4))) zA4))))))))
   (zAI (zAX (zBX (u_eq hu) (pn 2) (zBA (zA1 zGR (zA1 zGR (zA1 zGR zA4)))) (zAU _)))))),(zBT (zAK (zAW (n:=9) [] (zBB (n:=8) zA6))
   (zAK (zTF (te:=fun E'=>zG1 (spE K mg 2 zB3) [] E' _) none [0,1] B.q3 (fun _=>zAT (n:=2) (zF0 (zA2 (de_v 0) (zA2 (de_v 1) zA6)))) (zAW (n:=1) [3] (zBB (n:=0) (zA2 (zMK B.q0.1 B.q0.2 (de_v 3)) (zA2 (zMK B.q1.1 B.q1.2 (de_v 3)) (zA2 (zMK B.q2.1 B.q2.2 (de_v 3)) zA6))))))
   (zB7 (n:=0) [2] (zA7 zCU (de_v 2) (zBB (n:=0) (zA2 zH5 (zA2 zH5 (zA2 zH5 zA6)))))))) h)⟩
theorem zCT:Has P w K mg base "_law_table_is" 1 ["_law_found","_law_due_here"] (sp0 K mg 0 zBK):=by
 letI:Kc:=⟨K⟩
 exact dfM B.S.d14 S__law_table_is (fun _ _ _ _ _ _=>uw2 fun _ _=>rfl) fun hr hu h=>⟨_,(zAB (zD9 (pt_w (zHW (zFC (pt_m (zAJ zBH rfl B.S.e4 boot_isinstance (zA1 (pn 0) (zA1 (zDK (v:=.ty "list") rfl B.S.e6 boot_list rfl) zA4))))) (zG7 (zBU (u_ne hu) (zAJ (zBG (K:=K)) rfl B.S.e5 boot_len (zA1 (pn 0) zA4)) (zAJ (zBG (K:=K)) rfl B.S.e5 boot_len (zA1 (pn 1) zA4)) (zAU _))))) (zAI (zAX zGR)) zBC)
   (zAB (zBW PassesOwn.never rfl (zS7 (K:=K) rfl B.S.e10 (zA1 (pn 0) (zA1 (pn 1) zA4))) (zPY (K:=K) rfl (zEX (zBD (i:=2) S__law_table_is.nd rfl oi) (zEX (zBD (i:=3) S__law_table_is.nd rfl oi) zLH))) (zAB (zD9 (pt_w (zHW (zFC (pt_m (zAJ zBH rfl B.S.e4 boot_isinstance (zA1 (pn 2) (zA1 (zDK (v:=.ty "list") rfl B.S.e6 boot_list rfl) zA4))))) (zG7 (zBU (u_ne hu) (zAJ (zBG (K:=K)) rfl B.S.e5 boot_len (zA1 (pn 2) zA4)) (zAJ (zBG (K:=K)) rfl B.S.e5 boot_len (zA1 (pn 3) zA4)) (zAU _))))) (zAI (zAX zGR)) zBC)
   (zAI (zBW PassesOwn.never rfl (zCQ (K:=K) (pn 2)) (zBD (i:=4) S__law_table_is.nd rfl oi) (zAI (zD9 (pt_w (zHW (zFC (pt_m (zAJ zBH rfl B.S.e4 boot_isinstance (zA1 (pn 4) (zA1 (zDK (v:=.ty "int") rfl B.S.e3 boot_int rfl) zA4))))) (zG7 (pt_m (zAJ zBH rfl B.S.e4 boot_isinstance (zA1 (pn 4) (zA1 (zDK (v:=.ty "bool") rfl B.S.e2 boot_bool rfl) zA4))))))) (zAI (zAX zGR)) zBC))))))
   (zAI (zAX (zBX (u_eq hu) (pn 0) (pn 1) (zAU _)))))),(zBT (zAK (zDA (zIC (zFU (dt_m (dz (zGG (by decide) (de_v 0))))) (dt_b (dz (zA7 zHQ (dz (zBN zBI (zA2 (de_v 0) zA6))) (dz (zBN zBI (zA2 (de_v 1) zA6))))))) (zB7 (n:=0) [] zH5) zBZ)
   (zAK (zIE [0,1] (zTJ (zA2 (de_v 0) (zA2 (de_v 1) zA6))) (zR6 (zEW 2 (zEW 3 zL4)) rfl) (zAK (zDA (zIC (zFU (dt_m (dz (zGG (by decide) (de_v 2))))) (dt_b (dz (zA7 zHQ (dz (zBN zBI (zA2 (de_v 2) zA6))) (dz (zBN zBI (zA2 (de_v 3) zA6))))))) (zB7 (n:=0) [] zH5) zBZ)
   (zIE [2] (zD1 (de_v 2)) (zB0 4) (zDA (zIC (zFU (dt_m (dz (zGG (by decide) (de_v 4))))) (dt_m (dz (zGG (by decide) (de_v 4))))) (zB7 (n:=0) [] zH5) zBZ))))
   (zB7 (n:=0) [0,1] (zA7 zCU (de_v 0) (de_v 1))))) h)⟩
theorem zGU:HasX P w K mg base "_law_right" 6 ["_law_table","_law_numbers"] (spE K mg 0 zC3):=by
 letI:Kc:=⟨K⟩
 exact dfX B.S.d15 S__law_right (fun _ _ _ _ _ _=>uw2 fun _ _=>rfl) fun hr hu h=>⟨_,(zAB (pst 2 S__law_right.nd (zDJ (zJA B) (by decide) hr rfl (zA1 (pn 0) (zA1 (pn 1) zA4))))
   (zAB (zCD (i:=3) S__law_right.nd rfl oi rfl (cn ["0","1","2","3","4","5","6","_law_row"] 1 (by kernel_rfl)) (zCQ (K:=K) (pn 0)) (fun _ _ _ _=>(pgn 7)) (fun _ _ _ _=>zC2) (fun _ _ _ _=>(zCF (zFN (K:=K) rfl) rfl B.S.e6 boot_list (zA1 (pn 7) zA4))))
   (zAB (pst 4 S__law_right.nd (zCF (zFN (K:=K) rfl) rfl B.S.e6 boot_list (zA1 (pn 1) zA4)))
   (zAB (zD9 (zBU zSM (pn 2) zLK (zAU _)) (zAI (zAX (zHY (zDJ (zFG B) (by decide) hr rfl (zA1 (pn 3) (zA1 (pn 1) zA4))) (zHY (zBX (u_eq hu) (pn 3) (pn 0) (zAU _)) (zG9 (zBX (u_eq hu) (pn 1) (pn 4) (zAU _))))))) zBC)
   (zAB (pst 5 S__law_right.nd (zLN (zEB B) (by decide) hr zDZ rfl (zA1 (pn 3) (zA1 (pn 1) zA4))))
   (zAB (zD9 (pt_w (zHW (zFC (pt_m (zDJ (zCT B) (by decide) hr rfl (zA1 (pn 5) (zA1 (pn 2) zA4))))) (zG7 (zFC (pt_m (zDJ (zCT B) (by decide) hr rfl (zA1 (zLN (zEB B) (by decide) hr zDZ rfl (zA1 (pn 5) (zA1 (pn 1) zA4))) (zA1 (pn 0) zA4)))))))) (zAI (zAX zGR)) zBC)
   (zAB (zBW zQ0 rfl (zCQ (K:=K) (pn 5)) (zBD (i:=6) S__law_right.nd rfl oi) (zAI (zJ6 (zSD qC7 qCz qD0 zLV (pn 6) (zA1 zAA zA4)))))
   (zAB (zJ6 (zSC qC7 PySem.F.slot_list_clear PySem.F.type_list_clear zQ8 (pn 5)))
   (zAI (zAX (zHY (zBX (u_eq hu) (pn 3) (pn 0) (zAU _)) (zG9 (zBX (u_eq hu) (pn 1) (pn 4) (zAU _)))))))))))))),(zBT (zAK (zAW (n:=2) [0,1] (zCA (zA2 (de_v 0) (zA2 (de_v 1) zA6))))
   (zAK (zAW (n:=2) [6,0] (zBM (n:=1) (zD1 (de_v 0)) (zB0 7) zD0 (zBN zH8 (zA2 (de_v 7) zA6))))
   (zAK (zAW (n:=1) [1] (zBN zH8 (zA2 (de_v 1) zA6)))
   (zAK (zDA (dt_b (dz (zA7 zUE (de_v 2) (dz zMJ)))) (zB7 (n:=0) [3,1,0,4] (zEP (zCA (zA2 (de_v 3) (zA2 (de_v 1) zA6))) (zEP (dz (zA7 zCU (de_v 3) (de_v 0))) (zA7 zCU (de_v 1) (de_v 4))))) zBZ)
   (zAK (zAW (n:=2) [3,1] (zF0 (zA2 (de_v 3) (zA2 (de_v 1) zA6))))
   (zAK (zDA (zIC (zFU (dt_m (zCA (zA2 (de_v 5) (zA2 (de_v 2) zA6))))) (zFU (dt_m (zCA (zA2 (zAT (zF0 (zA2 (de_v 5) (zA2 (de_v 1) zA6)))) (zA2 (de_v 0) zA6)))))) (zB7 (n:=0) [] zH5) zBZ)
   (zAK (zMF 5 6 2)
   (zAK (zTG 5)
   (zB7 (n:=0) [3,0,1,4] (zEP (dz (zA7 zCU (de_v 3) (de_v 0))) (zA7 zCU (de_v 1) (de_v 4)))))))))))) h)⟩
theorem zSQ{f:Addr}{fd:FuncData}(F:Fun K "law" "law" (top 24) f fd):FnOk P w K mg base CX0 7 f fd ["_law_script"] (zG5 K):=by
 letI:Kc:=⟨K⟩
 refine(F.ok S_law (sp:=sp0 K mg 0 zI4) (fun vs H Q E h=>zF8 h) (fun cdv A outer s H vs Q E hr h=>?_)).imp (zNZ zNY);have hu:=hr.units;exact zQJ (zCN ⟨(pst 1 S_law.nd (zDJ (zGV B) (by decide) hr rfl (zA1 (pn 0) (zA1 zAA zA4))))⟩
   (zCN ⟨(pst 2 S_law.nd (zB4 zGK (zAM (zAL (K:=K)) (pn 1) zAA (fun _ _=>rfl)) zAA))⟩
   (zCN ⟨(pst 3 S_law.nd (zDJ (zFH B) (by decide) hr rfl (zA1 (zNN (u_sl (K:=K)) (pn 1) (zPV zAA) zPW) (zA1 (pn 2) (zA1 (zBX u_gt (zB4 zGK (zAM (zAL (K:=K)) (pn 1) zAA (fun _ _=>rfl)) zAA) zAA (zAU _)) zA4)))))⟩
   (zCN ⟨(pst 4 S_law.nd (zB4 zGK (zAM (zAL (K:=K)) (pn 1) zAA (fun _ _=>rfl)) (zB4 zU4 zAA zAA)))⟩
   (zCN ⟨(pst 5 S_law.nd (zBA (zA1 (zBA zA4) (zA1 (zBA (zA1 (pn 2) zA4)) (zA1 (zBA (zA1 (zSB zR2 zAA) zA4)) (zA1 (zBA (zA1 (zB4 zF4 (pn 4) (pn 2)) zA4)) (zA1 (zBA (zA1 zAA (zA1 (pn 2) zA4))) (zA1 (zBA (zA1 (zSB zR2 zAA) (zA1 zAA zA4))) (zA1 (zBA (zA1 zAA (zA1 zAA (zA1 zAA zA4)))) (zA1 (zBA (zA1 zAA (zA1 zAA (zA1 zAA zA4)))) (zA1 (zBA (zA1 zAA (zA1 (zB4 zN3 (zB4 zN3 zAA (pn 4)) zAA) zA4))) zA4)))))))))))⟩
   (zCN ⟨(zBW PassesOwn.never rfl (zAY rfl B.S.e9 (zA1 (pn 2) zA4)) (zBD (i:=6) S_law.nd rfl oi) (zAI (pst 5 S_law.nd (zB4 zF4 (zB4 zF4 (pn 5) (zBA (zA1 (zBA (zA1 (pn 6) zA4)) zA4))) (zCH rfl (cn ["0","1","2","3","4","5","_law_i","7","_law_j"] 1 (by kernel_rfl)) (zAY rfl B.S.e9 (zA1 (pn 2) zA4)) (fun _ _ _ _=>(pgn 8)) (fun _ _ _ _=>zC2) (fun _ _ _ _=>(zBA (zA1 (pn 6) (zA1 (pn 8) zA4)))))))))⟩
   (zCN ⟨(zBW PassesOwn.never rfl (zCQ (K:=K) (pn 5)) (zBD (i:=7) S_law.nd rfl oi) (zAI (zD9 (zFC (pt_m (zLN (zGU B) (by decide) hr zTB rfl (zA1 (pn 3) (zA1 (pn 7) zA4))))) (zAI (zAX zGR)) zBC)))⟩
   (zQM ⟨(zAX zGR)⟩)))))))) (zBT (zAK (zAW (n:=9) [0] (zD3 (zA2 (de_v 0) (zA2 zAC zA6))))
   (zAK (zAW (n:=0) [1] (zA7 zDV (zA7 zAN (de_v 1) (dz zAC)) (dz zAC)))
   (zAK (zAW (n:=2) [2,1] (zD3 (zA2 (zAT (zV1 (de_v 1) (do_e (dz zAC)) zV0)) (zA2 (de_v 2) (zA2 (zA7 zEL (dz (zA7 zDV (zA7 zAN (de_v 1) (dz zAC)) (dz zAC))) (dz zAC)) zA6)))))
   (zAK (zAW (n:=0) [1] (zA7 zDV (zA7 zAN (de_v 1) (dz zAC)) (dz (zA7 zRL (dz zAC) (dz zAC)))))
   (zAK (zAW (n:=1) [2,4] (zBB (n:=0) (zA2 (zAT (zBB (n:=8) zA6)) (zA2 (zAT (zBB (n:=0) (zA2 (de_v 2) zA6))) (zA2 (zAT (zBB (n:=0) (zA2 (zTK zOR (dz zAC)) zA6))) (zA2 (zAT (zBB (n:=1) (zA2 (zA7 zCW (de_v 4) (de_v 2)) zA6))) (zA2 (zAT (zBB (n:=0) (zA2 zAC (zA2 (de_v 2) zA6)))) (zA2 (zAT (zBB (n:=0) (zA2 (zTK zOR (dz zAC)) (zA2 zAC zA6)))) (zA2 (zAT (zBB (n:=0) (zA2 zAC (zA2 zAC (zA2 zAC zA6))))) (zA2 (zAT (zBB (n:=0) (zA2 zAC (zA2 zAC (zA2 zAC zA6))))) (zA2 (zAT (zBB (n:=0) (zA2 zAC (zA2 (zA7 zJU (dz (zA7 zJU (dz zAC) (de_v 4))) (dz zAC)) zA6)))) zA6)))))))))))
   (zAK (zEE (zEF (zA2 (de_v 2) zA6)) (zAW (n:=1) [5,6,2] (zA7 zCW (zA7 zCW (de_v 5) (zBB (n:=1) (zA2 (zBB (n:=0) (zA2 (de_v 6) zA6)) zA6))) (zBM (n:=1) (zEF (zA2 (de_v 2) zA6)) (zB0 8) zD0 (zBB (n:=0) (zA2 (de_v 6) (zA2 (de_v 8) zA6)))))))
   (zAK (zIE [5] (zD1 (de_v 5)) (zB0 7) (zDA (zFU (dt_m (zF0 (zA2 (de_v 3) (zA2 (de_v 7) zA6))))) (zB7 (n:=0) [] zH5) zBZ))
   (zB7 (n:=0) [] zH5)))))))) h)
end
theorem all_mk{l:qCn}{w:World}{K:qA0}{h:Heap}{mg:Str->Option Value}{fa f16 a_RoundError a_NoCross a_NoPivot:Addr}{dd_RoundError dd_NoCross dd_NoPivot:Option Addr}{cd_RoundError cd_NoCross cd_NoPivot:ClassData}{sl_RoundError sl_NoCross sl_NoPivot:Array (Option Value)}(X:K.In h)(G:h.Ns mainGlobals mg)(hfa:mg "law" = some (.ref fa))
  {od16 an16:Option Addr} {sl16:Array (Option Value)} {oc16 kV16 dc16 pm16 cd16 ct16:Value}
  (S:Bd K mg)
  (a16:qBb K mainGlobals "law" = some (some (.ref f16)))
  (l16:K.lookup f16=some ⟨oc16,od16,.func (qAw "law" "law" (zBL (top 24)) (zAR (top 24)) (zA5 (top 24)) .none kV16 dc16 pm16 an16 cd16 ct16),sl16⟩)
  (c16:qBu K cd16 "law" = true)
  (k16:qAp K (.ref f16)=true)
  (xa_RoundError:qBb K mainGlobals "RoundError" = some (some (.ref a_RoundError)))
  (xl_RoundError:K.lookup a_RoundError=some ⟨.type "type",dd_RoundError,.cls cd_RoundError,sl_RoundError⟩)
  (xd_RoundError:xcD a_RoundError cd_RoundError sl_RoundError=true)
  (xn_RoundError:qBf K a_RoundError=some cd_RoundError)
  (xo_RoundError:PySem.W.excTail cd_RoundError.mro=true)
  (xt_RoundError:qBh K (.ref a_RoundError)=some (.type "type"))
  (xg_RoundError:qAi K (.ref a_RoundError) "__getattribute__" = some (some (.builtin "BaseException.__getattribute__")))
  (xh_RoundError:qAi K (.ref a_RoundError) "__getattr__" = some none)
  (xj_RoundError:qC9 K a_RoundError=true)
  (xm_RoundError:qAi K (.ref a_RoundError) "__class__" = some (some (.builtin "object.__class__")))
  (xp_RoundError:qCi K a_RoundError (.type "object")=some true)
  (xv_RoundError:qAm K (.ref a_RoundError) (.type "ValueError")=some true)
  (xw_RoundError:qAm K (.ref a_RoundError) (.type "BaseException")=some true)
  (xa_NoCross:qBb K mainGlobals "NoCross" = some (some (.ref a_NoCross)))
  (xl_NoCross:K.lookup a_NoCross=some ⟨.type "type",dd_NoCross,.cls cd_NoCross,sl_NoCross⟩)
  (xd_NoCross:xcD a_NoCross cd_NoCross sl_NoCross=true)
  (xn_NoCross:qBf K a_NoCross=some cd_NoCross)
  (xo_NoCross:PySem.W.excTail cd_NoCross.mro=true)
  (xt_NoCross:qBh K (.ref a_NoCross)=some (.type "type"))
  (xg_NoCross:qAi K (.ref a_NoCross) "__getattribute__" = some (some (.builtin "BaseException.__getattribute__")))
  (xh_NoCross:qAi K (.ref a_NoCross) "__getattr__" = some none)
  (xj_NoCross:qC9 K a_NoCross=true)
  (xm_NoCross:qAi K (.ref a_NoCross) "__class__" = some (some (.builtin "object.__class__")))
  (xp_NoCross:qCi K a_NoCross (.type "object")=some true)
  (xv_NoCross:qAm K (.ref a_NoCross) (.type "ValueError")=some true)
  (xw_NoCross:qAm K (.ref a_NoCross) (.type "BaseException")=some true)
  (xa_NoPivot:qBb K mainGlobals "NoPivot" = some (some (.ref a_NoPivot)))
  (xl_NoPivot:K.lookup a_NoPivot=some ⟨.type "type",dd_NoPivot,.cls cd_NoPivot,sl_NoPivot⟩)
  (xd_NoPivot:xcD a_NoPivot cd_NoPivot sl_NoPivot=true)
  (xn_NoPivot:qBf K a_NoPivot=some cd_NoPivot)
  (xo_NoPivot:PySem.W.excTail cd_NoPivot.mro=true)
  (xt_NoPivot:qBh K (.ref a_NoPivot)=some (.type "type"))
  (xg_NoPivot:qAi K (.ref a_NoPivot) "__getattribute__" = some (some (.builtin "BaseException.__getattribute__")))
  (xh_NoPivot:qAi K (.ref a_NoPivot) "__getattr__" = some none)
  (xj_NoPivot:qC9 K a_NoPivot=true)
  (xm_NoPivot:qAi K (.ref a_NoPivot) "__class__" = some (some (.builtin "object.__class__")))
  (xp_NoPivot:qCi K a_NoPivot (.type "object")=some true)
  (xv_NoPivot:qAm K (.ref a_NoPivot) (.type "ValueError")=some true)
  (xw_NoPivot:qAm K (.ref a_NoPivot) (.type "BaseException")=some true)
  (ycg:qBs K (.builtin "object.__class__") "__get__" = some (some (.builtin "getset_descriptor.__get__")))
  (yct:qDe K (.builtin "object.__class__")=some true)
  (zk_NoPivot:qAp K (.ref a_NoPivot)=true)
  (zi_NoPivot:qAi K (.ref a_NoPivot) "__init__" = some (some (.builtin "ValueError.__init__")))
  (s_NoPivot_NoPivot:qAm K (.ref a_NoPivot) (.ref a_NoPivot)=some true)
  (s_RoundError_NoPivot:qAm K (.ref a_RoundError) (.ref a_NoPivot)=some false)
  (e_RoundError_NoPivot:(a_RoundError==a_NoPivot)=false)
  (s_NoCross_NoPivot:qAm K (.ref a_NoCross) (.ref a_NoPivot)=some false)
  (e_NoCross_NoPivot:(a_NoCross==a_NoPivot)=false)
  (s_NoCross_NoCross:qAm K (.ref a_NoCross) (.ref a_NoCross)=some true)
  (s_RoundError_NoCross:qAm K (.ref a_RoundError) (.ref a_NoCross)=some false)
  (e_RoundError_NoCross:(a_RoundError==a_NoCross)=false)
  (s_NoPivot_NoCross:qAm K (.ref a_NoPivot) (.ref a_NoCross)=some false)
  (e_NoPivot_NoCross:(a_NoPivot==a_NoCross)=false)
  (s_RoundError_RoundError:qAm K (.ref a_RoundError) (.ref a_RoundError)=some true)
  (s_NoCross_RoundError:qAm K (.ref a_NoCross) (.ref a_RoundError)=some true)
  (s_NoPivot_RoundError:qAm K (.ref a_NoPivot) (.ref a_RoundError)=some true)
  :∃fd:FuncData,(∀(s:Shared)(v:Value),BindsTo s fd ⟨[v],[]⟩ [("_law_script",v)])/\∀base:Heap,K.In base->base.Ns mainGlobals mg->FnOk l.prog w K mg base CX0 7 fa fd ["_law_script"] (zG5 K):=by
 have e:=hfa.symm.trans (qC6 X G a16);cases e;have i_RoundError:Xc.XIs K a_RoundError:=⟨zJ0 xl_RoundError xd_RoundError,xg_RoundError,xh_RoundError,xj_RoundError,xm_RoundError,ycg,yct,xp_RoundError⟩
 have i_NoCross:Xc.XIs K a_NoCross:=⟨zJ0 xl_NoCross xd_NoCross,xg_NoCross,xh_NoCross,xj_NoCross,xm_NoCross,ycg,yct,xp_NoCross⟩
 have i_NoPivot:Xc.XIs K a_NoPivot:=⟨zJ0 xl_NoPivot xd_NoPivot,xg_NoPivot,xh_NoPivot,xj_NoPivot,xm_NoPivot,ycg,yct,xp_NoPivot⟩
 have n_RoundError:XCls K mg "RoundError" a_RoundError:=⟨zDO xa_RoundError,qC6 X G xa_RoundError,i_RoundError⟩
 have n_NoCross:XCls K mg "NoCross" a_NoCross:=⟨zDO xa_NoCross,qC6 X G xa_NoCross,i_NoCross⟩
 have n_NoPivot:XCls K mg "NoPivot" a_NoPivot:=⟨zDO xa_NoPivot,qC6 X G xa_NoPivot,i_NoPivot⟩
 have z_NoPivot:XNo K mg "NoPivot" a_NoPivot:=⟨n_NoPivot,zk_NoPivot,zi_NoPivot⟩
 have q0_y:(∀c∈(["NoPivot"]:List Str),∃C,clK K c=some C/\Xc.XIs K C/\kitV K C (V.ref a_NoPivot)=some true):=by
  intro c h;simp only[qAk,qB0,or_false]at h;subst h;exact⟨a_NoPivot,zDO xa_NoPivot,i_NoPivot,(zK0 xn_NoPivot xt_NoPivot s_NoPivot_NoPivot)⟩
 have q0_n:(∀c∈(["RoundError","NoCross"]:List Str),∃C,clK K c=some C/\Xc.XIs K C/\kitV K C (V.ref a_NoPivot)=some false):=by
  intro c h;simp only[qAk,qB0,or_false]at h
  rcases h with rfl|rfl
  ·exact⟨a_RoundError,zDO xa_RoundError,i_RoundError,(zEY xn_NoPivot xt_NoPivot s_RoundError_NoPivot e_RoundError_NoPivot)⟩
  ·exact⟨a_NoCross,zDO xa_NoCross,i_NoCross,(zEY xn_NoPivot xt_NoPivot s_NoCross_NoPivot e_NoCross_NoPivot)⟩
 have q0:(∀c∈(["NoPivot"]:List Str),∃C,clK K c=some C/\Xc.XIs K C/\kitV K C (V.ref a_NoPivot)=some true)/\(∀c∈(["RoundError","NoCross"]:List Str),∃C,clK K c=some C/\Xc.XIs K C/\kitV K C (V.ref a_NoPivot)=some false):=⟨q0_y,q0_n⟩
 have q1_y:(∀c∈(["RoundError","NoCross","NoPivot"]:List Str),∃C,clK K c=some C/\Xc.XIs K C/\kitV K C (V.ty "ValueError")=some true):=by
  intro c h;simp only[qAk,qB0,or_false]at h
  rcases h with rfl|rfl|rfl
  ·exact⟨a_RoundError,zDO xa_RoundError,i_RoundError,(zFL xv_RoundError)⟩
  ·exact⟨a_NoCross,zDO xa_NoCross,i_NoCross,(zFL xv_NoCross)⟩
  ·exact⟨a_NoPivot,zDO xa_NoPivot,i_NoPivot,(zFL xv_NoPivot)⟩
 have q1_n:(∀c∈([]:List Str),∃C,clK K c=some C/\Xc.XIs K C/\kitV K C (V.ty "ValueError")=some false):=by
  intro c h;simp only[qAk,qB0,or_false]at h
 have q1:(∀c∈(["RoundError","NoCross","NoPivot"]:List Str),∃C,clK K c=some C/\Xc.XIs K C/\kitV K C (V.ty "ValueError")=some true)/\(∀c∈([]:List Str),∃C,clK K c=some C/\Xc.XIs K C/\kitV K C (V.ty "ValueError")=some false):=⟨q1_y,q1_n⟩
 have q2_y:(∀c∈(["NoCross"]:List Str),∃C,clK K c=some C/\Xc.XIs K C/\kitV K C (V.ref a_NoCross)=some true):=by
  intro c h;simp only[qAk,qB0,or_false]at h;subst h;exact⟨a_NoCross,zDO xa_NoCross,i_NoCross,(zK0 xn_NoCross xt_NoCross s_NoCross_NoCross)⟩
 have q2_n:(∀c∈(["RoundError","NoPivot"]:List Str),∃C,clK K c=some C/\Xc.XIs K C/\kitV K C (V.ref a_NoCross)=some false):=by
  intro c h;simp only[qAk,qB0,or_false]at h
  rcases h with rfl|rfl
  ·exact⟨a_RoundError,zDO xa_RoundError,i_RoundError,(zEY xn_NoCross xt_NoCross s_RoundError_NoCross e_RoundError_NoCross)⟩
  ·exact⟨a_NoPivot,zDO xa_NoPivot,i_NoPivot,(zEY xn_NoCross xt_NoCross s_NoPivot_NoCross e_NoPivot_NoCross)⟩
 have q2:(∀c∈(["NoCross"]:List Str),∃C,clK K c=some C/\Xc.XIs K C/\kitV K C (V.ref a_NoCross)=some true)/\(∀c∈(["RoundError","NoPivot"]:List Str),∃C,clK K c=some C/\Xc.XIs K C/\kitV K C (V.ref a_NoCross)=some false):=⟨q2_y,q2_n⟩
 have q3:(∀c∈(["RoundError","NoCross","NoPivot"]:List Str),∃C,clK K c=some C/\qBw K (.ref C) (.ref a_RoundError)=some true):=by
  intro c h;simp only[qAk,qB0,or_false]at h
  rcases h with rfl|rfl|rfl
  ·exact⟨a_RoundError,zDO xa_RoundError,zFT xw_RoundError xn_RoundError xt_RoundError s_RoundError_RoundError⟩
  ·exact⟨a_NoCross,zDO xa_NoCross,zFT xw_RoundError xn_RoundError xt_RoundError s_NoCross_RoundError⟩
  ·exact⟨a_NoPivot,zDO xa_NoPivot,zFT xw_RoundError xn_RoundError xt_RoundError s_NoPivot_RoundError⟩
 refine⟨qAw "law" "law" (zBL (top 24)) (zAR (top 24)) (zA5 (top 24)) .none kV16 dc16 pm16 an16 cd16 ct16,fun s v=>.of_eq rfl,fun base _ _=>?_⟩;exact zSQ ⟨S,_,_,_,z_NoPivot,n_RoundError,n_NoCross,n_NoPivot,q0,q1,q2,q3⟩ (zMC (st:=(top 24)) l16 c16 k16)
theorem walk{l:qCn}{q:Program}{loose:List Str}{XP:(Str->Option Value)->Heap->Prop}{d:DefRec}{K:Params->qA0}{as ts:List Addr}{e:∀P,as=(K P).map (·.1)}(hn:l.most=some 63)(hdf:d.params.defaults=[])(hts:∀P∈ts,P∉as)
  (F:∀(w:World)(mg:Str->Option Value)(fa:Addr)(h:Heap),(K w.params).In h->h.Ns mainGlobals mg->mg d.name=some (.ref fa) ->
   TbE (K w.params) ts/\∃fd:FuncData,(∀(s:Shared)(u:Value),BindsTo s fd ⟨[u],[]⟩ [("_law_script",u)])/\∀base:Heap,(K w.params).In base->base.Ns mainGlobals mg->FnOk l.prog w (K w.params) mg base CX0 7 fa fd ["_law_script"] (zG5 (K w.params))) :
  qE3 q loose XP (qF7 K as e ts).says l.row.toRowW d [] (fun f vs=>qEb f vs):=
 L3.walk_ofM (n:=63) (k:=7) (x:="_law_script") hn (by decide) hdf ⟨rfl,by decide,by decide⟩ hts F
end Q57
open PySem PySem.W PyProof.Rows
set_option maxRecDepth 100000 in
set_option maxHeartbeats 0 in
theorem PySem.Challenge.cw_fourway_k57_pivots_and_back_holds : PySem.Challenge.rw_fourway_k57_pivots_and_back.Holds := by
 w_on;o_law;k_head;(case hw=>w_witness2)
 k_fill
 refine Q57.walk (l:=qBi) rfl rfl (by decide) ?F
 case F=>
  intro w mg fa h KX G hmg;refine' L3.with1 (L3.mkS (nm:="exchanged_at") (st:=Q57.top 12) KX G (by k_is) (by k_is) (by k_is) (by k_is) (by k_is) (by rfl) (by rfl) (by rfl) (by decide)) ?_;intro M0;refine' L3.with1 (L3.mkS (nm:="pivoted") (st:=Q57.top 11) KX G (by k_is) (by k_is) (by k_is) (by k_is) (by k_is) (by rfl) (by rfl) (by rfl) (by decide)) ?_;intro M1;have T:=L3.Tb.mk (L3.mk1_none (by k_is)) (M0.mk1) (M1.mk1);refine' ⟨⟨_,_,_,T⟩,Q57.all_mk KX G hmg (by constructor<;>first|exact L3.mkD KX G (by k_is) (by k_is) (by k_is) (by k_is)|exact PySem.W.mg_none_of KX G (by k_is)|exact M0.mkr ((T.eq _).trans rfl)|exact M1.mkr ((T.eq _).trans rfl)) (by k_is) (by k_is) (by k_is) (by k_is) (by k_is) (by k_is) (by rfl) (by k_is) (by rfl) (by k_is) (by k_is) (by k_is) (by k_is) (by k_is) (by k_is) (by k_is) (by k_is) (by k_is) (by k_is) (by rfl) (by k_is) (by rfl) (by k_is) (by k_is) (by k_is) (by k_is) (by k_is) (by k_is) (by k_is) (by k_is) (by k_is) (by k_is) (by rfl) (by k_is) (by rfl) (by k_is) (by k_is) (by k_is) (by k_is) (by k_is) (by k_is) (by k_is) (by k_is) (by k_is) (by k_is) (by k_is) (by k_is) (by k_is) (by k_is) (by rfl) (by k_is) (by rfl) (by k_is) (by k_is) (by rfl) (by k_is) (by rfl) (by k_is) (by k_is) (by k_is)⟩
