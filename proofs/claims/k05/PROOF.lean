import PyProof.Rows.All
import Wide.All
import OpenK.AllK
import Wide.FinOn
import Lean
import PyProof.EqAt
import PyProof.EqKinds
import PyProof.TupleCall
import PyProof.NeKinds
import PySem.Challenge.RW_fourway_k05_texts_refused
set_option Elab.async false
set_option linter.all false
set_option maxRecDepth 100000
open Array renaming getElem?_eq_some_iff→qBf,length_toList→qBn,getElem?_toList→qC8,toList→qEt
open Bool renaming false_ne_true→qAe,and_eq_true→qBk,and_false→qCf,eq_iff_iff→qCo,and_true→qDr,or_true→qEb,or_eq_true→qF8
open Char renaming toNat→qGg
open Classical renaming propDecidable→qA0,byContradiction→qCh
open False renaming elim→qAf
open ForInStep renaming yield→qC9
open Int renaming emod_nonneg→qBi,emod_lt_of_pos→qBj,mul_one→qGd
open List renaming getElem?_eq_some_iff→qA2,getD_eq_getElem?_getD→qA3,range→qA4,replicate→qA6,mem_cons→qA9,getElem?_eq_getElem→qAa,size_toArray→qAc,getElem?_append_right→qAd,getElem?_append_left→qAg,mem_cons_of_mem→qAh,length_cons→qAi,getElem?_set_self→qAj,getElem?_set_ne→qAk,getElem?_map→qAl,length_map→qAm,map_cons→qAp,mem_range→qAq,mem_map→qAs,length_append→qAt,mem_append_right→qAu,map_map→qB1,map_congr_left→qB2,mem_cons_self→qB3,not_mem_nil→qB6,nodup_cons→qBa,contains_cons→qBb,mem_of_getElem?→qBd,lookup_cons→qBe,drop_eq_getElem_cons→qBh,getElem?_replicate→qBl,mem_append→qBr,find?_cons→qBu,eraseIdx_cons_succ→qC1,pairwise_cons→qC4,mem_filter→qC5,any_cons→qCc,append_assoc→qCd,length_pos_iff→qCi,append_nil→qCp,all_cons→qCq,length_nil→qCr,getElem?_cons_zero→qCt,pairwise_lt_range→qCv,eraseIdxIfInBounds_toArray→qCw,drop_zero→qCx,length_replicate→qCz,take_append_drop→qD1,cons_append→qD4,mem_flatMap→qD6,mem_append_left→qD7,filterMap_cons→qD8,of_mem_zip→qD9,lookup→qDb,mergeSort_perm→qDc,length_eraseIdx_of_lt→qDe,perm_ext_iff_of_nodup→qDf,mem_singleton→qDj,getElem_range→qDk,find?_eq_none→qDl,extract_eq_drop_take→qDm,pairwise_map→qDp,pairwise_mergeSort→qDs,getElem?_cons_succ→qDu,filter_cons_of_pos→qDv,filter_cons_of_neg→qDw,filter_cons→qDy,all_eq_true→qE0,nodup_range→qE1,range_succ_eq_map→qE2,take_of_length_le→qE3,length_set→qE7,length_singleton→qE8,forIn_cons→qE9,map_append→qEa,length_eraseIdx→qEe,length→qEh,map_id→qEk,getElem?_range→qEl,mem_filterMap→qEm,map_set→qEv,length_take→qEy,any_eq_true→qF2,take_length→qF3,drop_length→qF4,range'→qF9,nil_append→qFe,drop_drop→qFr,sum_cons→qG7,map_nil→qGa,all_map→qGc,Nodup→qGh
open List.Pairwise renaming nil→qEr
open Nat renaming le_refl→qA7,lt_of_lt_of_le→qAb,ne_of_lt→qAn,le_trans→qAo,zero_le→qAy,ne_of_gt→qBo,le_of_eq→qBx,lt_irrefl→qBy,le_of_lt→qC6,le_succ→qDa,lt_of_le_of_lt→qDi,lt_succ_of_lt→qEs,min_self→qEu,zero_add→qEw,le_add_right→qF0,lt_succ_self→qF1,le_zero→qFd
open Nat.succ renaming inj→qCl
open Ne renaming symm→qCn
open Option renaming map_eq_some_iff→qBg,isSome_iff_exists→qBt,isSome_map→qBv,bind_some→qD5,isSome_some→qDh,getD_some→qDz,map_eq_none_iff→qE4,map_some→qEd,none→qEi,getD_none→qEz,map_none→qFf
open Option.some renaming inj→qAx,injEq→qGf
open Or renaming inr→qG4,inl→qGb
open Prod renaming fst→qGe
open PyProof.Rows renaming callWith_type1→qC7,callWith_builtin1→qD0,envOfC→qEj,split_pos→qG8
open PySem renaming mem_of_lookup→qC0,call→qG5,Within→qG9
open PySem.Challenge renaming rw_fourway_k05_texts_refused→qBw,pw_fourway_k05_texts_refused→qDq
open PySem.EqMixed renaming eq_bool_str→qFj,eq_str_bool→qFk,ne_bool_str→qFo,ne_str_bool→qFp,eq_int_str→qFv,eq_str_int→qFx,ne_int_str→qG1,ne_str_int→qG3
open PySem.EqNone renaming eq_none_none→qFg,eq_none_bool→qFh,eq_bool_none→qFi,ne_none_none→qFl,ne_none_bool→qFm,ne_bool_none→qFn,eq_none_int→qFs,eq_none_str→qFt,eq_int_none→qFu,eq_str_none→qFw,ne_none_int→qFy,ne_none_str→qFz,ne_int_none→qG0,ne_str_none→qG2
open PySem.F renaming plainAttrs_str→qAr,slot_str_split→qB4,slot_str_join→qBp,type_str_join→qBq,plainAttrs_list→qC2,type_str_split→qC3,slot_str_find→qCa,type_str_find→qCb,args_str_split_2→qCk,entry_str_split→qCs,slot_list_pop→qD2,type_list_pop→qD3,excBase_ValueError→qDd,plain_list_iadd→qDt
open PySem.W renaming Frag→qA1,subIn→qA5,findIn→qA8,keepIn→qAv,kitAny→qAw,kia_one→qAz,kitOne→qB0,clsIn→qB5,fnOf→qB7,nsIn→qB8,typeIn→qB9,mg_of→qBc,hasDictIn→qBm,specialIn→qBs,mroIn→qBz,codeIn→qCe,exmOne→qCg,cellsFrom_some→qCu,isFn→qCy,callWith_K→qDg,notCls→qDn,methodObj→qDo,handedIn→qDx,instObj→qE5,takesIn→qE6,OpenLaw→qEc,lookIn→qEf,InstAt→qEg,Looks→qEn,kitx_list→qEp,kitx_dict→qEq,plainGet→qEx,kdl_dict→qF5,makesIn→qF7,readsIn→qFa,findCls→qFb,takerIn→qFc,KdlSrc→qFq,WalkO→qG6
open PySem.W.Looks renaming ld→qGi
open Sum renaming inl→qCm,inr→qEo
open Sum.inl renaming inj→qF6
open True renaming intro→qCj
noncomputable section
namespace L2
open PySem PySem.Spec PyProof.Rows
abbrev Key:=Sum Int Str
noncomputable def zMS:Key → Value → Bool
  | .inl k,v=>Value.isInt k v
  | .inr x,v=>Value.isStrOf x v
noncomputable def keyH (w:World):Key → Int
  | .inl k=>hashInt k
  | .inr x=>hashStr w x
theorem zB5:∀ {k:Key} {v:Value},zMS k v = true → (∃ i t,k = qCm i ∧ v = Value.int i t) ∨ (∃ x t,k = qEo x ∧ v = Value.str x t)
  | .inl i,v,h=>by
    obtain ⟨t,e⟩:=Value.isInt_shape (k:=i) (v:=v) h
    exact .inl ⟨i,t,rfl,e⟩
  | .inr x,v,h=>by
    obtain ⟨t,e⟩:=Value.isStrOf_shape (x:=x) (v:=v) h
    exact .inr ⟨x,t,rfl,e⟩
theorem zOJ (i:Int) (t:Tok):zMS (.inl i) (.int i t) = true:=by simp [zMS,Value.isInt]
theorem zOI (x:Str) (t:Tok):zMS (.inr x) (.str x t) = true:=by simp [zMS,Value.isStrOf]
theorem zWS (a b:Int):decide ((qCm a:Key) = qCm b) = (a == b):=by
  by_cases e:a = b
  · subst e; simp
  · have h:¬ (qCm a:Key) = qCm b:=fun q=>e (qF6 q)
    rw [decide_eq_false h]
    exact (beq_eq_false_iff_ne.mpr e).symm
theorem zWP (a b:Str):decide ((qEo a:Key) = qEo b) = decide (a = b):=by
  by_cases e:a = b
  · subst e; simp
  · have h:¬ (qEo a:Key) = qEo b:=fun q=>e (Sum.inr.inj q)
    rw [decide_eq_false h,decide_eq_false e]
theorem zWR (a:Int) (b:Str):decide ((qCm a:Key) = qEo b) = false:=decide_eq_false (fun q=>nomatch q)
theorem zWQ (a:Str) (b:Int):decide ((qEo a:Key) = qCm b) = false:=decide_eq_false (fun q=>nomatch q)
def zB6 (prog:Program) (w:World):PySem.KeyKind prog w Key where
  is:=zMS
  hash:=keyH w
  inj:=fun v a b ha hb=>by
    rcases zB5 ha with ⟨i,t,rfl,rfl⟩ | ⟨x,t,rfl,rfl⟩
    · rcases zB5 hb with ⟨j,u,rfl,e⟩ | ⟨y,u,rfl,e⟩
      · injection e with e1 _; rw [e1]
      · exact nomatch e
    · rcases zB5 hb with ⟨j,u,rfl,e⟩ | ⟨y,u,rfl,e⟩
      · exact nomatch e
      · injection e with e1 _; rw [e1]
  byValue:=fun k v h=>by
    rcases zB5 h with ⟨i,t,rfl,rfl⟩ | ⟨x,t,rfl,rfl⟩ <;> rfl
  pyHash:=fun hv h=>by
    rcases zB5 hv with ⟨i,t,rfl,rfl⟩ | ⟨x,t,rfl,rfl⟩
    · exact wpAny_pyHash_int h
    · exact wpAny_pyHash_str h
  eqBool:=fun hu hv h=>by
    rcases zB5 hu with ⟨i,t,rfl,rfl⟩ | ⟨x,t,rfl,rfl⟩
    · rcases zB5 hv with ⟨j,u,rfl,rfl⟩ | ⟨y,u,rfl,rfl⟩
      · rw [zWS] at h; exact wpAny_eqBool_int h
      · rw [zWR] at h; exact SeqAt.EqAt.int_str i t y u _ _ _ _ h
    · rcases zB5 hv with ⟨j,u,rfl,rfl⟩ | ⟨y,u,rfl,rfl⟩
      · rw [zWQ] at h; exact SeqAt.EqAt.str_int x t j u _ _ _ _ h
      · rw [zWP] at h; exact wpAny_eqBool_str h
  «strs»:=fun k x t v h=>by
    rcases zB5 h with ⟨i,u,rfl,e⟩ | ⟨y,u,rfl,e⟩
    · exact nomatch e
    · injection e with e1 _
      subst e1
      cases v <;> rfl
theorem zL1 (prog:Program) (w:World) (i:Int) (t:Tok):(zB6 prog w).is (.inl i) (.int i t) = true:=zOJ i t
theorem zL0 (prog:Program) (w:World) (x:Str) (t:Tok):(zB6 prog w).is (.inr x) (.str x t) = true:=zOI x t
inductive V where
  | non | bl (b:Bool) | int (i:Int) | str (x:Str) | byt (b:Array UInt8) | flt (b:UInt64) | ref (a:Addr) | ty (n:String)
  deriving DecidableEq
noncomputable def RelV:V → Value → Prop
  | .non,u=>u = Value.none
  | .bl b,u=>u = Value.bool b
  | .int i,u=>∃ t,u = Value.int i t
  | .str x,u=>∃ t,u = Value.str x t
  | .byt b,u=>∃ t,u = Value.bytes b t
  | .flt b,u=>∃ t,u = Value.float b t
  | .ref a,u=>u = Value.ref a
  | .ty n,u=>u = Value.type n
abbrev Vals:List V → List Value → Prop:=Paired RelV
theorem Vals.length {xs:List V} {us:List Value} (r:Vals xs us):xs.length = us.length:=Paired.length r
theorem Vals.get:∀ {xs:List V} {us:List Value} {i:Nat} {x:V},Vals xs us → xs[i]? = some x → ∃ u,us[i]? = some u ∧ RelV x u
  | _,_,_,_,.nil,e=>by simp at e
  | _,_,0,_,.cons r _,e=>by simp at e; subst e; exact ⟨_,rfl,r⟩
  | _,_,i + 1,x,.cons _ t,e=>by
    obtain ⟨u,h1,h2⟩:=Vals.get (i:=i) (x:=x) t (by simpa using e)
    exact ⟨u,by simpa using h1,h2⟩
theorem Vals.set {x:V} {u:Value} (r:RelV x u):∀ {xs:List V} {us:List Value} (i:Nat),Vals xs us → Vals (xs.set i x) (us.set i u)
  | _,_,_,.nil=>.nil
  | _,_,0,.cons _ t=>.cons r t
  | _,_,i + 1,.cons q t=>.cons q (Vals.set r i t)
theorem Vals.append:∀ {xs ys:List V} {us ws:List Value},Vals xs us → Vals ys ws → Vals (xs ++ ys) (us ++ ws)
  | _,_,_,_,.nil,s=>s
  | _,_,_,_,.cons r t,s=>.cons r (Vals.append t s)
theorem Vals.take:∀ {xs:List V} {us:List Value} (n:Nat),Vals xs us → Vals (xs.take n) (us.take n)
  | _,_,0,_=>.nil
  | _,_,_ + 1,.nil=>.nil
  | _,_,n + 1,.cons r t=>.cons r (Vals.take n t)
theorem Vals.drop:∀ {xs:List V} {us:List Value} (n:Nat),Vals xs us → Vals (xs.drop n) (us.drop n)
  | _,_,0,r=>r
  | _,_,_ + 1,.nil=>.nil
  | _,_,n + 1,.cons _ t=>Vals.drop n t
def RelO:Option V → Option Value → Prop
  | some v,some u=>RelV v u
  | none,none=>True
  | _,_=>False
def KV {κ:Type}:List (κ × V) → List (κ × Value) → Prop:=Paired fun (p:κ × V) (q:κ × Value)=>p.1 = q.1 ∧ RelV p.2 q.2
noncomputable def kV:Key → V
  | .inl i=>.int i
  | .inr x=>.str x
inductive HO where
  | lst (xs:List V)
  | tup (xs:List V)
  | dK (kvs:List (Key × V)) | dT (kvs:List (List Key × V))
  | set (S:Int → Bool) (n:Nat)
  | ins (C dx:Addr) (fs:List (Str × V))
  | own (x:Addr)
  | xd (fs:List (Str × V))
  | met (f x:Addr)
  | rng (lo hi:Int)
  | frz (o:Obj) (u:HO)
  | tbl (ps:Array Value)
  | ext (φ:Heap → Prop)
abbrev Hp:=Addr → Option HO
noncomputable def upd (H:Hp) (a:Addr) (o:HO):Hp:=fun b=>if b = a then some o else H b
theorem zAH {H:Hp} {a:Addr} {o:HO}:upd H a o a = some o:=by unfold upd; rw [if_pos rfl]
theorem zAG {H:Hp} {a b:Addr} {o:HO} (h:b ≠ a):upd H a o b = H b:=by unfold upd; rw [if_neg h]
theorem zU4 {H:Hp} {a b:Addr} {o u:HO} (h:H a = some o) (h':H b = some u) (d:o ≠ u):a ≠ b:=by
  intro e; subst e; rw [h] at h'; exact d (qAx h')
theorem zAO {H:Hp} {a b:Addr} {o:HO} (h:H a = some o) (h':H b = none):a ≠ b:=by
  intro e; subst e; rw [h] at h'; cases h'
section
variable (P:Program) (w:World)
def ObjOk (H:Hp) (h:Heap) (a:Addr):HO → Prop
  | .lst xs=>xs.length ≤ sizeLine ∧ ∃ (its:List Value) (n:Nat),Vals xs its ∧ h.get? a = some { cls:=.type "list",data:=.seq its.toArray n }
  | .tup xs=>xs.length ≤ sizeLine ∧ ∃ its:List Value,Vals xs its ∧ IsTup h a its.toArray
  | .dK kvs=>kvs.length ≤ sizeLine ∧ (a == sysModules) = false ∧ ∃ vs,KV kvs vs ∧ h.DictOf (zB6 P w) a vs
  | .dT kvs=>kvs.length ≤ sizeLine ∧ (a == sysModules) = false ∧ ∃ xs:List (List Key × Addr × Value),
      Paired (fun (p:List Key × V) (q:List Key × Addr × Value)=>p.1 = q.1 ∧ H q.2.1 = some (.tup (p.1.map kV)) ∧ RelV p.2 q.2.2) kvs xs ∧
      ∃ o es ep,h.get? a = some o ∧ o.ExactDict ∧ o.data = .dict es ep ∧ es.toList = xs.map (entryOfKey (tupleKind (zB6 P w))) ∧ (xs.map (·.1)).Nodup
  | .set S n=>h.SetOf (intKind P w) a S n
  | .ins C dx fs=>H dx = some (.own a) ∧ fs.length ≤ 1000 ∧ dx ≠ a ∧ h.get? a = some (qE5 C dx) ∧
      ∃ mA,h.Ns1 dx mA ∧ (∀ f,RelO (fs.lookup f) (mA f)) ∧ qG9 mA (fs.map (·.1))
  | .own _=>∃ o,h.get? a = some o
  | .xd fs=>∃ mA,h.Ns1 a mA ∧ ∀ f,RelO (fs.lookup f) (mA f)
  | .rng lo hi=>∃ t u v,h.get? a = some { cls:=.type "range",data:=.fields #[.int lo t,.int hi u,.int 1 v] }
  | .frz o u=>h.get? a = some o ∧ ObjOk H h a u
  | .tbl ps=>h.get? a = some { cls:=.none,data:=.fields ps }
  | .met f x=>h.get? a = some (qDo (.ref f) (.ref x))
  | .ext φ=>φ h ∧ (∃ o,h.get? a = some o) ∧ ∀ h1 h2:Heap,φ h1 → (∀ o,h1.get? a = some o → h2.get? a = some o) → φ h2
def HOk (H:Hp) (h:Heap):Prop:=∀ a o,H a = some o → ObjOk P w H h a o
end
section
variable {P:Program} {w:World} {H H':Hp} {h h':Heap} {a:Addr} {o:HO}
theorem ObjOk.lt (x:ObjOk P w H h a o):a < h.objs.size:=by
  cases o with
  | lst xs=>obtain ⟨_,_,_,_,e⟩:=x; exact Heap.lt_size e
  | tup xs=>obtain ⟨_,_,_,p⟩:=x; exact p.lt
  | dK kvs=>obtain ⟨_,_,_,_,o,_,_,e,_⟩:=x; exact Heap.lt_size e
  | dT kvs=>obtain ⟨_,_,_,_,o,_,_,e,_⟩:=x; exact Heap.lt_size e
  | set S n=>obtain ⟨o,_,_,_,e,_⟩:=x; exact Heap.lt_size e
  | ins C dx fs=>obtain ⟨_,_,_,e,_⟩:=x; exact Heap.lt_size e
  | own y=>obtain ⟨_,e⟩:=x; exact Heap.lt_size e
  | xd fs=>obtain ⟨_,⟨_,_,_,e,_⟩,_⟩:=x; exact Heap.lt_size e
  | rng lo hi=>obtain ⟨_,_,_,e⟩:=x; exact Heap.lt_size e
  | frz ob u=>obtain ⟨e,_⟩:=x; exact Heap.lt_size e
  | tbl ps=>exact Heap.lt_size (show h.get? a = some _ from x)
  | met f y=>exact Heap.lt_size (show h.get? a = some _ from x)
  | ext φ=>obtain ⟨_,⟨_,e⟩,_⟩:=x; exact Heap.lt_size e
theorem Paired.mapP {α β:Type} {F G:α → β → Prop}:∀ {l₁:List α} {l₂:List β},Paired F l₁ l₂ → (∀ a b,F a b → G a b) → Paired G l₁ l₂
  | _,_,.nil,_=>.nil
  | _,_,.cons r t,f=>.cons (f _ _ r) (Paired.mapP t f)
theorem ObjOk.stay (x:ObjOk P w H h a o) (k:∀ b u,(b = a ∨ H b = some (.own a)) → h.get? b = some u → h'.get? b = some u)
    (ho:∀ b,H b = some (.own a) → H' b = some (.own a)) (ht:∀ b xs,H b = some (.tup xs) → H' b = some (.tup xs)):ObjOk P w H' h' a o:=by
  induction o with
  | lst xs=>obtain ⟨z,its,n,r,e⟩:=x; exact ⟨z,its,n,r,k _ _ (.inl rfl) e⟩
  | tup xs=>obtain ⟨z,its,r,ob,e,c⟩:=x; exact ⟨z,its,r,ob,k _ _ (.inl rfl) e,c⟩
  | dK kvs=>obtain ⟨z,y,vs,r,ob,es,ep,e,c⟩:=x; exact ⟨z,y,vs,r,ob,es,ep,k _ _ (.inl rfl) e,c⟩
  | dT kvs =>
    obtain ⟨z,y,xs,r,ob,es,ep,e,c⟩:=x
    exact ⟨z,y,xs,Paired.mapP r fun p q z=>⟨z.1,ht _ _ z.2.1,z.2.2⟩,ob,es,ep,k _ _ (.inl rfl) e,c⟩
  | set S n=>obtain ⟨ob,es,ep,t,e,c⟩:=x; exact ⟨ob,es,ep,t,k _ _ (.inl rfl) e,c⟩
  | ins C dx fs =>
    obtain ⟨d,z,ne,e,mA,⟨od,es,ep,e2,c⟩,r⟩:=x
    exact ⟨ho _ d,z,ne,k _ _ (.inl rfl) e,mA,⟨od,es,ep,k _ _ (.inr d) e2,c⟩,r⟩
  | own y=>obtain ⟨ob,e⟩:=x; exact ⟨ob,k _ _ (.inl rfl) e⟩
  | xd fs=>obtain ⟨mA,⟨od,es,ep,e,c⟩,r⟩:=x; exact ⟨mA,⟨od,es,ep,k _ _ (.inl rfl) e,c⟩,r⟩
  | rng lo hi=>obtain ⟨t,u,v,e⟩:=x; exact ⟨t,u,v,k _ _ (.inl rfl) e⟩
  | frz ob u ih=>obtain ⟨e,q⟩:=x; exact ⟨k _ _ (.inl rfl) e,ih q⟩
  | tbl ps =>
    have e:h.get? a = some { cls:=.none,data:=.fields ps }:=x
    show h'.get? a = some { cls:=.none,data:=.fields ps }
    exact k a _ (.inl rfl) e
  | met f y =>
    have e:h.get? a = some (qDo (.ref f) (.ref y)):=x
    show h'.get? a = some (qDo (.ref f) (.ref y))
    exact k a _ (.inl rfl) e
  | ext φ=>obtain ⟨p,⟨o,e⟩,st⟩:=x; exact ⟨st _ _ p fun o q=>k _ _ (.inl rfl) q,⟨o,k _ _ (.inl rfl) e⟩,st⟩
theorem HOk.lt (x:HOk P w H h) (e:H a = some o):a < h.objs.size:=(x a o e).lt
theorem HOk.fresh (x:HOk P w H h) (e:h.objs.size ≤ a):H a = none:=by
  cases q:H a with
  | none=>rfl
  | some u=>exact absurd (qAb (x.lt q) e) (qBy _)
theorem HOk.kept (x:HOk P w H h) (k:∀ b u,h.get? b = some u → h'.get? b = some u):HOk P w H h':=fun a o e =>
  (x a o e).stay (fun b u _ q=>k b u q) (fun _ q=>q) fun _ _ q=>q
theorem HOk.laid (x:HOk P w H h) (k:∀ b u,h.get? b = some u → h'.get? b = some u) (hp:h.objs.size ≤ a) (new:ObjOk P w (upd H a o) h' a o):HOk P w (upd H a o) h':=fun b u e=>by
  have hn:=x.fresh hp
  by_cases hb:b = a
  · subst hb; rw [zAH] at e; cases e; exact new
  · rw [zAG hb] at e
    exact (x b u e).stay (fun c v _ q=>k c v q) (fun c q=>by rw [zAG (zAO q hn)]; exact q) fun c xs q=>by rw [zAG (zAO q hn)]; exact q
end
def Rd (H:Hp) (a:Addr) (u:HO):Prop:=H a = some u ∨ ∃ o,H a = some (.frz o u)
theorem Rd.ok {P:Program} {w:World} {H:Hp} {h:Heap} {a:Addr} {u:HO} (r:Rd H a u) (x:HOk P w H h):ObjOk P w H h a u:=by
  rcases r with r | ⟨o,r⟩
  · exact x a u r
  · obtain ⟨_,q⟩:=x a _ r
    exact q
noncomputable def Mut:Option HO → Prop
  | some (.lst _)=>True
  | some (.dK _)=>True
  | some (.dT _)=>True
  | some (.set _ _)=>True
  | some (.ins _ _ _)=>True
  | some (.ext _)=>True
  | _=>False
section
variable {P:Program} {w:World} {H:Hp} {h h':Heap} {x e:Addr} {o':HO}
theorem HOk.write (ok:HOk P w H h) (mu:Mut (H x)) (he:e = x ∨ H e = some (.own x)) (k:∀ b u,b ≠ e → h.get? b = some u → h'.get? b = some u) (heo:∃ u,h'.get? e = some u)
    (new:ObjOk P w (upd H x o') h' x o'):HOk P w (upd H x o') h':=fun b u q=>by
  have nown:∀ c y,H c = some (.own y) → c ≠ x:=fun c y r z=>by subst z; rw [r] at mu; exact mu
  have ntup:∀ c xs,H c = some (.tup xs) → c ≠ x:=fun c xs r z=>by subst z; rw [r] at mu; exact mu
  by_cases hb:b = x
  · subst hb; rw [zAH] at q; cases q; exact new
  · rw [zAG hb] at q
    by_cases hbe:b = e
    · have q':H b = some (.own x):=by
        rcases he with z | z
        · exact absurd (hbe.trans z) hb
        · rw [hbe]; exact z
      rw [q] at q'; cases q'
      obtain ⟨v,hv⟩:=heo
      exact ⟨v,by rw [hbe]; exact hv⟩
    · refine (ok b u q).stay (fun c v hc r=>k c v ?_ r) (fun c r=>by rw [zAG (nown c b r)]; exact r) fun c xs r=>by rw [zAG (ntup c xs r)]; exact r
      rcases hc with rfl | hc
      · exact hbe
      · rintro rfl
        rcases he with z | z
        · exact nown c b hc z
        · rw [hc] at z; cases z; exact hb rfl
end
structure Un (fs ex:List Addr) (H H':Hp) (h h':Heap):Prop where
  keep:∀ b o,h.get? b = some o → H b = none → b ∉ fs → b ∉ ex → h'.get? b = some o
  slot:∀ b o,h.get? b = some o → H b = none → b ∈ fs → b ∉ ex → ∃ sl,h'.get? b = some { o with slots:=sl }
  free:∀ b o,h.get? b = some o → H b = none → b ∉ ex → H' b = none
  there:∀ b o,h.get? b = some o → b ∉ ex → ∃ o',h'.get? b = some o'
  tups:∀ b xs,H b = some (.tup xs) → H' b = some (.tup xs)
  frzs:∀ b o u,H b = some (.frz o u) → H' b = some (.frz o u)
  tbls:∀ b ps,H b = some (.tbl ps) → ∃ more,H' b = some (.tbl (ps ++ more))
section
variable {fs fs' ex ex':List Addr} {H H1 H2:Hp} {h h1 h2 h':Heap} {a x e:Addr} {o:HO}
theorem Un.any (u:Un fs ex H H1 h h1) {b:Addr} {ob:Obj} (q:h.get? b = some ob) (n:H b = none) (hx:b ∉ ex):∃ sl,h1.get? b = some { ob with slots:=sl }:=by
  by_cases hb:b ∈ fs
  · exact u.slot b ob q n hb hx
  · exact ⟨ob.slots,u.keep b ob q n hb hx⟩
theorem Un.kept (k:∀ b u,h.get? b = some u → h'.get? b = some u):Un fs ex H H h h' :=
  ⟨fun b ob q _ _ _=>k b ob q,fun b ob q _ _ _=>⟨ob.slots,k b ob q⟩,fun _ _ _ n _=>n,fun b ob q _=>⟨ob,k b ob q⟩,fun _ _ q=>q,fun _ _ _ q=>q,fun _ ps q=>⟨#[],by rw [q]; simp⟩⟩
theorem Un.refl:Un fs ex H H h h:=Un.kept fun _ _ q=>q
theorem Un.laid (k:∀ b u,h.get? b = some u → h'.get? b = some u) (hp:h.objs.size ≤ a) (hn:H a = none):Un fs ex H (upd H a o) h h' where
  keep:=fun b u q _ _ _=>k b u q
  slot:=fun b u q _ _ _=>⟨u.slots,k b u q⟩
  free:=fun b u q n _=>by rw [zAG (qAn (qAb (Heap.lt_size q) hp))]; exact n
  there:=fun b u q _=>⟨u,k b u q⟩
  tups:=fun b xs q=>by rw [zAG (zAO q hn)]; exact q
  frzs:=fun b u xs q=>by rw [zAG (zAO q hn)]; exact q
  tbls:=fun b ps q=>⟨#[],by rw [zAG (zAO q hn),q]; simp⟩
theorem Un.write (mu:Mut (H x)) (he:e = x ∨ H e = some (.own x)) (k:∀ b u,b ≠ e → h.get? b = some u → h'.get? b = some u) (heo:∃ u,h'.get? e = some u):Un fs ex H (upd H x o) h h':=by
  have hx:∀ b,H b = none → b ≠ x:=fun b n z=>by subst z; rw [n] at mu; exact mu
  have hb:∀ b,H b = none → b ≠ e:=fun b n z=>by
    subst z
    rcases he with r | r
    · exact hx b n r
    · rw [n] at r; cases r
  have hm:∀ b u,H b = some u → ¬ Mut (some u) → b ≠ x:=fun b u q nm z=>by subst z; rw [q] at mu; exact nm mu
  refine ⟨fun b u q n _ _=>k b u (hb b n) q,fun b u q n _ _=>⟨u.slots,k b u (hb b n) q⟩,fun b u q n _=>by rw [zAG (hx b n)]; exact n,fun b u q _=>?_,
    fun b xs q=>by rw [zAG (hm b _ q fun z=>z)]; exact q,fun b u xs q=>by rw [zAG (hm b _ q fun z=>z)]; exact q,fun b ps q=>⟨#[],by rw [zAG (hm b _ q fun z=>z),q]; simp⟩⟩
  by_cases hbe:b = e
  · subst hbe; exact heo
  · exact ⟨u,k b u hbe q⟩
end
noncomputable def trk (h:Heap) (H:Hp):List Addr:=(qA4 h.objs.size).filter fun a=>(H a).isSome
def hidT (h:Heap) (H:Hp):Heap:=PySem.W.hideAll h (trk h H)
theorem zOR (h:Heap) (H:Hp):(hidT h H).objs.size = h.objs.size:=PySem.W.hideAll_size _ _
theorem zQS {h:Heap} {H:Hp} {b:Addr} {o:Obj} (e:h.get? b = some o) (n:H b = none):(hidT h H).get? b = some o :=
  PySem.W.hideAll_get _ e fun hm=>by
    have q:(H b).isSome = true:=(qC5.mp hm).2
    rw [n] at q; simp at q
theorem zU0 {h:Heap} {H:Hp} {b:Addr} {o:Obj} (e:(hidT h H).get? b = some o):h.get? b = some o ∧ H b = none:=by
  have e':h.get? b = some o:=PySem.W.of_hideAll (trk h H) e
  refine ⟨e',?_⟩
  cases q:H b with
  | none=>rfl
  | some x =>
    have hm:b ∈ trk h H:=qC5.mpr ⟨qAq.mpr (Heap.lt_size e'),by simp [q]⟩
    have z:(hidT h H).get? b = none:=PySem.W.hideAll_none (trk h H) hm
    rw [z] at e; cases e
noncomputable def zUW (g h:Heap) (L:Addr):List (Addr × Obj):=(qA4 h.objs.size).filterMap fun a=>if a = L ∨ (g.get? a).isSome = true then none else (h.get? a).map fun o=>(a,o)
def rest (g h:Heap) (L d:Addr):List (Addr × Obj):=(zUW g h L).filter fun p=>decide (p.1 ≠ d)
end L2
namespace L2
open PySem PySem.Spec PyProof.Rows
structure Mod (K:qA1) (mg:Str → Option Value) (base:Heap):Prop where
  kin:K.In base
  glob:base.Ns mainGlobals mg
  blt:∃ mb,base.Ns builtinsNs mb ∧ ∀ x:Str,x ≠ "__name__" → mb x = bootBuiltins x
  nolimit:base.NoLimit
structure Cx where
  prog:Program
  w:World
  K:qA1
  mg:Str → Option Value
  base:Heap
  A:Around
  N:List Str
  s₀:Shared
  H₀:Hp
  env:Env
  outer:List Env
  stack:List Env
  ex:List Addr
  fn:Str → Bool
  calm:Bool
  pn:List (Addr × Obj)
  xe:Value → Shared → Prop
noncomputable def frs (l:List Env):List Addr:=l.filterMap (·.frame)
abbrev Cx.fs (X:Cx):List Addr:=frs X.outer
def Vis (sc:Scope) (x:Str):Prop:=sc.names.lookup x = some .local ∨ sc.names.lookup x = some .cell ∨ sc.names.lookup x = some .free
def Loc (sc:Scope) (x:Str):Prop:=sc.names.lookup x = some .local ∨ sc.names.lookup x = some .cell
def Look (env:Env) (h:Heap) (m:Str → Option Value) (x:Str) (u:Value):Prop :=
  (env.kindOf x = some .local ∧ m x = some u) ∨ ((env.kindOf x = some .cell ∨ env.kindOf x = some .free) ∧ ∃ c,env.cells.lookup x = some c ∧ h.IsCell c (some u))
structure Cx.Ok (X:Cx):Prop where
  mod:Mod X.K X.mg X.base
  kind:X.env.scope.kind = .function
  glob:X.env.globals = mainGlobals
  blt:X.env.builtins = builtinsNs
  above:X.s₀.heap.objs.size ≤ X.env.locals
  inj:∀ x y c,X.env.cells.lookup x = some c → X.env.cells.lookup y = some c → x = y
  has:∀ x,(X.env.kindOf x = some .cell ∨ X.env.kindOf x = some .free) → ∃ c,X.env.cells.lookup x = some c
  cab:∀ x c,X.fn x = true → X.env.cells.lookup x = some c → X.s₀.heap.objs.size ≤ c
  hd:X.calm = true → X.A.handled = none
  frames:X.A.frames = some X.stack
  stk:X.stack = X.outer ∨ (X.stack = X.env :: X.outer ∧ X.env.frame = some X.env.locals)
  exf:∀ b ∈ X.ex,b ≠ X.env.locals ∧ ∀ x c,X.env.cells.lookup x = some c → c ≠ b
  bs:∀ b o,X.base.get? b = some o → X.s₀.heap.get? b = some o ∧ X.H₀ b = none
  bsz:X.base.objs.size ≤ X.s₀.heap.objs.size
  noex:∀ b o,X.base.get? b = some o → b ∉ X.ex
  exfs:∀ b ∈ X.ex,b ∉ X.fs
  funs:X.s₀.heap.FunFrames X.base X.outer
  frf:∀ b ∈ X.fs,X.H₀ b = none
structure Inv (X:Cx) (pins:List (Addr × Obj)) (σ:List (Option V)) (H:Hp) (s:Shared):Prop where
  ok:X.Ok
  os:s.os = X.s₀.os
  bare:AllBare s.gens
  base:Un X.fs X.ex X.H₀ H X.s₀.heap s.heap
  loc:∃ m,s.heap.Ns X.env.locals m ∧ ∀ (i:Nat) (x:Str) (v:V),X.N[i]? = some x → σ[i]? = some (some v) → Vis X.env.scope x → ∃ u,RelV v u ∧ Look X.env s.heap m x u
  cell:∀ x c,X.env.cells.lookup x = some c → ∃ v,s.heap.IsCell c v
  free:H X.env.locals = none
  freeC:∀ x c,X.env.cells.lookup x = some c → H c = none
  pin:∀ p ∈ X.pn ++ pins,s.heap.get? p.1 = some p.2 ∧ H p.1 = none ∧ p.1 ≠ X.env.locals ∧ p.1 ∉ X.fs ∧ ∀ v,p.2.data ≠ .cell v
  hok:HOk X.prog X.w H s.heap
  len:σ.length = X.N.length
section
variable {X:Cx} {pins:List (Addr × Obj)} {σ:List (Option V)} {H H':Hp} {s:Shared} {h':Heap}
theorem Cx.Ok.nofr (ok:X.Ok) {b:Addr} {o:Obj} (e:X.base.get? b = some o):b ∉ X.fs:=fun hb=>by
  have:=(ok.funs.mem hb).1
  rw [e] at this; cases this
theorem Inv.bs (I:Inv X pins σ H s):∀ b o,X.base.get? b = some o → s.heap.get? b = some o ∧ H b = none:=fun b o e =>
  ⟨I.base.keep b o (I.ok.bs b o e).1 (I.ok.bs b o e).2 (I.ok.nofr e) (I.ok.noex b o e),I.base.free b o (I.ok.bs b o e).1 (I.ok.bs b o e).2 (I.ok.noex b o e)⟩
theorem Inv.bk (I:Inv X pins σ H s):∀ b o,X.base.get? b = some o → s.heap.get? b = some o:=fun b o e=>(I.bs b o e).1
theorem Inv.mod (I:Inv X pins σ H s):Mod X.K X.mg X.base:=I.ok.mod
theorem Inv.kIn (I:Inv X pins σ H s):X.K.In s.heap:=I.ok.mod.kin.keeps I.bk
theorem Inv.fr (I:Inv X pins σ H s):∃ m,Fr X.base X.env.locals s.heap m :=
  let ⟨m,hn,_⟩:=I.loc
  ⟨m,hn,I.bk,qAo I.ok.bsz I.ok.above⟩
theorem Inv.lt (I:Inv X pins σ H s):X.env.locals < s.heap.objs.size:=let ⟨_,hn,_⟩:=I.loc; hn.lt
theorem Inv.sz (I:Inv X pins σ H s):X.s₀.heap.objs.size ≤ s.heap.objs.size:=qAo I.ok.above (qC6 I.lt)
theorem Inv.nofs (I:Inv X pins σ H s) {a:Addr} (h:s.heap.objs.size ≤ a):a ∉ X.fs:=fun hb=>by
  obtain ⟨_,o,ho,_⟩:=I.ok.funs.mem hb
  exact absurd (qAb (Heap.lt_size ho) (qAo I.sz h)) (qBy _)
theorem Inv.cne (I:Inv X pins σ H s):∀ x c,X.env.cells.lookup x = some c → c ≠ X.env.locals:=fun x c e z=>by
  obtain ⟨v,o,ho,hd⟩:=I.cell x c e
  obtain ⟨m,⟨o',es,ep,ho',hd',_⟩,_⟩:=I.loc
  rw [z,ho'] at ho; cases ho; rw [hd'] at hd; cases hd
theorem Inv.funs (I:Inv X pins σ H s):s.heap.FunFrames X.base X.outer:=by
  have all:∀ (l:List Env),(∀ b ∈ frs l,b ∈ X.fs) → X.s₀.heap.FunFrames X.base l → s.heap.FunFrames X.base l:=by
    intro l
    induction l with
    | nil=>intro _ _; trivial
    | cons env r ih =>
      intro hs hl
      obtain ⟨hk,⟨L,o,hf,hn,ho,hd⟩,hr⟩:=hl
      have hL:L ∈ X.fs:=hs L (by unfold frs; rw [qD8,hf]; exact qB3)
      obtain ⟨sl,e⟩:=I.base.slot L o ho (I.ok.frf L hL) hL fun z=>I.ok.exfs L z hL
      exact ⟨hk,⟨L,_,hf,hn,e,hd⟩,ih (fun b hb=>hs b (by unfold frs; rw [qD8,hf]; exact qAh _ hb)) hr⟩
  exact all X.outer (fun _ hb=>hb) I.ok.funs
theorem Inv.stack (I:Inv X pins σ H s):s.heap.FunFrames X.base X.stack:=by
  rcases I.ok.stk with e | ⟨e,hf⟩
  · rw [e]; exact I.funs
  · rw [e]
    obtain ⟨m,hn,_⟩:=I.loc
    refine .cons (by rw [I.ok.kind]; decide) hf hn ?_ I.funs
    exact Heap.get?_none_of_le (qAo I.ok.bsz I.ok.above)
theorem Inv.stkSub (I:Inv X pins σ H s):∀ b ∈ frs X.stack,b ∈ X.env.locals :: X.fs:=fun b hb=>by
  rcases I.ok.stk with e | ⟨e,hf⟩
  · rw [e] at hb; exact qAh _ hb
  · rw [e] at hb
    unfold frs at hb
    rw [qD8,hf] at hb
    exact hb
theorem Inv.stkFree (I:Inv X pins σ H s):∀ b ∈ frs X.stack,H b = none:=fun b hb=>by
  rcases qA9.mp (I.stkSub b hb) with e | hb
  · rw [e]; exact I.free
  · obtain ⟨_,o,ho,_⟩:=I.ok.funs.mem hb
    exact I.base.free b o ho (I.ok.frf b hb) fun z=>I.ok.exfs b z hb
theorem Inv.step {g':Array GenState} {t':Nat} {d':Drawn} {ch:List Addr} (I:Inv X pins σ H s)
    (hch:∀ b ∈ ch,(b ∈ X.ex ∨ X.s₀.heap.objs.size ≤ b) ∧ b ≠ X.env.locals ∧ (∀ x c,X.env.cells.lookup x = some c → c ≠ b) ∧ ∀ p ∈ X.pn ++ pins,p.1 ≠ b)
    (keep:∀ b o,b ≠ X.env.locals → b ∉ X.fs → b ∉ ch → s.heap.get? b = some o → H b = none → h'.get? b = some o)
    (slot:∀ b o,b ≠ X.env.locals → b ∈ X.fs → b ∉ ch → s.heap.get? b = some o → H b = none → ∃ sl,h'.get? b = some { o with slots:=sl }) (free:∀ b o,b ∉ ch → s.heap.get? b = some o → H b = none → H' b = none)
    (there:∀ b o,b ∉ ch → s.heap.get? b = some o → ∃ o',h'.get? b = some o')
    (tups:∀ b xs,H b = some (.tup xs) → H' b = some (.tup xs)) (frzs:∀ b o u,H b = some (.frz o u) → H' b = some (.frz o u)) (tbls:∀ b ps,H b = some (.tbl ps) → ∃ more,H' b = some (.tbl (ps ++ more)))
    (ns:∀ m,s.heap.Ns X.env.locals m → h'.Ns X.env.locals m) (hok:HOk X.prog X.w H' h') (hg:AllBare g') :
    Inv X pins σ H' { s with heap:=h',gens:=g',drawn:=d',toks:=t' }:=by
  have neL:∀ b o,X.s₀.heap.get? b = some o → b ≠ X.env.locals:=fun b o e=>qAn (qAb (Heap.lt_size e) I.ok.above)
  have neC:∀ b o,X.s₀.heap.get? b = some o → b ∉ X.ex → b ∉ ch:=fun b o e hx hb=>by
    rcases (hch b hb).1 with z | z
    · exact hx z
    · exact absurd (qAb (Heap.lt_size e) z) (qBy _)
  have cellK:∀ x c,X.env.cells.lookup x = some c → ∀ v,s.heap.IsCell c v → h'.IsCell c v:=fun x c e v ⟨o,ho,hd⟩=>by
    have nch:c ∉ ch:=fun z=>(hch c z).2.2.1 x c e rfl
    by_cases hc:c ∈ X.fs
    · obtain ⟨sl,q⟩:=slot c o (I.cne x c e) hc nch ho (I.freeC x c e)
      exact ⟨_,q,hd⟩
    · exact ⟨o,keep c o (I.cne x c e) hc nch ho (I.freeC x c e),hd⟩
  refine ⟨I.ok,I.os,hg,⟨fun b o e n hb hx=>?_,fun b o e n hb hx=>?_,fun b o e n hx=>?_,fun b o e hx=>?_,fun b xs e=>tups b xs (I.base.tups b xs e),fun b o xs e=>frzs b o xs (I.base.frzs b o xs e),fun b ps e=>?_⟩,?_,fun x c e=>?_,?_,fun x c e=>?_,fun p hp=>?_,hok,I.len⟩
  · exact keep b o (neL b o e) hb (neC b o e hx) (I.base.keep b o e n hb hx) (I.base.free b o e n hx)
  · obtain ⟨sl,e1⟩:=I.base.slot b o e n hb hx
    obtain ⟨sl',e2⟩:=slot b _ (neL b o e) hb (neC b o e hx) e1 (I.base.free b o e n hx)
    exact ⟨sl',e2⟩
  · obtain ⟨o',e1⟩:=I.base.there b o e hx
    exact free b o' (neC b o e hx) e1 (I.base.free b o e n hx)
  · obtain ⟨o',e1⟩:=I.base.there b o e hx
    exact there b o' (neC b o e hx) e1
  · obtain ⟨m1,e1⟩:=I.base.tbls b ps e
    obtain ⟨m2,e2⟩:=tbls b _ e1
    exact ⟨m1 ++ m2,by rw [e2,Array.append_assoc]⟩
  · obtain ⟨m,hn,hl⟩:=I.loc
    refine ⟨m,ns m hn,fun i x v e1 e2 e3=>?_⟩
    obtain ⟨u,r,l⟩:=hl i x v e1 e2 e3
    refine ⟨u,r,?_⟩
    rcases l with l | ⟨k,c,e,z⟩
    · exact .inl l
    · exact .inr ⟨k,c,e,cellK x c e _ z⟩
  · obtain ⟨v,z⟩:=I.cell x c e
    exact ⟨v,cellK x c e v z⟩
  · obtain ⟨m,⟨o,_,_,ho,_⟩,_⟩:=I.loc
    exact free _ o (fun z=>(hch _ z).2.1 rfl) ho I.free
  · obtain ⟨v,o,ho,hd⟩:=I.cell x c e
    exact free c o (fun z=>(hch c z).2.2.1 x c e rfl) ho (I.freeC x c e)
  · obtain ⟨e,n,ne,nf,d⟩:=I.pin p hp
    have nch:p.1 ∉ ch:=fun z=>(hch p.1 z).2.2.2 p hp rfl
    exact ⟨keep p.1 p.2 ne nf nch e n,free p.1 p.2 nch e n,ne,nf,d⟩
theorem Inv.un {t':Nat} (I:Inv X pins σ H s) (u:Un X.fs [] H H' s.heap h') (hok:HOk X.prog X.w H' h'):Inv X pins σ H' { s with heap:=h',toks:=t' }:=by
  obtain ⟨m,⟨o,es,ep,ho,r⟩,_⟩:=id I.loc
  obtain ⟨sl,hL⟩:=u.any ho I.free (by simp)
  exact I.step (g':=s.gens) (d':=s.drawn) (ch:=[]) (fun _ z=>nomatch z) (fun b o _ hb _ e n=>u.keep b o e n hb (by simp)) (fun b o _ hb _ e n=>u.slot b o e n hb (by simp)) (fun b o _ e n=>u.free b o e n (by simp)) (fun b o _ e=>u.there b o e (by simp)) u.tups u.frzs u.tbls (fun m' hm=>by
    obtain ⟨o',es',ep',ho',r'⟩:=hm
    rw [ho] at ho'; cases ho'
    exact ⟨_,es',ep',hL,r'⟩) hok I.bare
theorem Inv.call {g':Array GenState} {t':Nat} {d':Drawn} {ch:List Addr} (I:Inv X pins σ H s) (u:Un (frs X.stack) ch H H' s.heap h') (hok:HOk X.prog X.w H' h') (hg:AllBare g')
    (hch:∀ b ∈ ch,(b ∈ X.ex ∨ X.s₀.heap.objs.size ≤ b) ∧ b ≠ X.env.locals ∧ (∀ x c,X.env.cells.lookup x = some c → c ≠ b) ∧ ∀ p ∈ X.pn ++ pins,p.1 ≠ b) :
    Inv X pins σ H' { s with heap:=h',gens:=g',drawn:=d',toks:=t' }:=by
  obtain ⟨m,⟨o,es,ep,ho,r⟩,_⟩:=id I.loc
  obtain ⟨sl,hL⟩:=u.any ho I.free fun z=>(hch _ z).2.1 rfl
  exact I.step (ch:=ch) hch (fun b o hL hb hc e n=>u.keep b o e n (fun z=>(qA9.mp (I.stkSub b z)).elim hL hb) hc) (fun b o _ _ hc e n=>u.any e n hc) (fun b o hc e n=>u.free b o e n hc) (fun b o hc e=>u.there b o e hc) u.tups u.frzs u.tbls (fun m' hm=>by
    obtain ⟨o',es',ep',ho',r'⟩:=hm
    rw [ho] at ho'; cases ho'
    exact ⟨_,es',ep',hL,r'⟩) hok hg
theorem Inv.turned {t':Nat} {it:Addr} (I:Inv X pins σ H s) (k:∀ b o,b ≠ it → s.heap.get? b = some o → h'.get? b = some o) (hn:H it = none) (hL:it ≠ X.env.locals)
    (h1:it ∈ X.ex ∨ X.s₀.heap.objs.size ≤ it) (h2:∀ x c,X.env.cells.lookup x = some c → c ≠ it) (h3:∀ p ∈ X.pn ++ pins,p.1 ≠ it):Inv X pins σ H { s with heap:=h',toks:=t' }:=by
  have nit:∀ b u,H b = some u → b ≠ it:=fun b u e z=>by rw [z,hn] at e; cases e
  refine I.step (g':=s.gens) (d':=s.drawn) (ch:=[it]) (fun b hb=>?_) (fun b o _ _ hc e _=>k b o (fun z=>hc (by simp [z])) e) (fun b o _ _ hc e _=>⟨o.slots,k b o (fun z=>hc (by simp [z])) e⟩) (fun _ _ _ _ n=>n)
    (fun b o hc e=>⟨o,k b o (fun z=>hc (by simp [z])) e⟩) (fun _ _ e=>e) (fun _ _ _ e=>e) (fun b ps e=>⟨#[],by rw [e]; simp⟩) (fun m hm=>?_) (fun b u e=>?_) I.bare
  · have e:b = it:=by simpa using hb
    subst e
    exact ⟨h1,hL,h2,h3⟩
  · obtain ⟨o,es,ep,ho,r⟩:=hm
    exact ⟨o,es,ep,k _ o (qCn hL) ho,r⟩
  · refine (I.hok b u e).stay (fun c v hc q=>k c v ?_ q) (fun _ q=>q) fun _ _ q=>q
    rcases hc with z | z
    · rw [z]; exact nit b u e
    · exact nit c _ z
theorem Inv.tok (I:Inv X pins σ H s) (t:Nat):Inv X pins σ H { s with toks:=t }:=I.un (h':=s.heap) (t':=t) Un.refl I.hok
theorem Inv.kept {t':Nat} (I:Inv X pins σ H s) (k:∀ b u,s.heap.get? b = some u → h'.get? b = some u):Inv X pins σ H { s with heap:=h',toks:=t' }:=I.un (Un.kept k) (I.hok.kept k)
theorem Inv.laid {a:Addr} {o:HO} {t':Nat} (I:Inv X pins σ H s) (k:∀ b u,s.heap.get? b = some u → h'.get? b = some u) (hp:s.heap.objs.size ≤ a) (new:ObjOk X.prog X.w (upd H a o) h' a o) :
    Inv X pins σ (upd H a o) { s with heap:=h',toks:=t' }:=I.un (Un.laid k hp (I.hok.fresh hp)) (I.hok.laid k hp new)
theorem Inv.write {x e:Addr} {o:HO} {t':Nat} (I:Inv X pins σ H s) (mu:Mut (H x)) (he:e = x ∨ H e = some (.own x)) (k:∀ b u,b ≠ e → s.heap.get? b = some u → h'.get? b = some u) (heo:∃ u,h'.get? e = some u)
    (new:ObjOk X.prog X.w (upd H x o) h' x o):Inv X pins σ (upd H x o) { s with heap:=h',toks:=t' }:=I.un (Un.write mu he k heo) (I.hok.write mu he k heo new)
theorem Inv.weak {σ':List (Option V)} (I:Inv X pins σ H s) (hl:σ'.length = σ.length) (w:∀ (i:Nat) v,σ'[i]? = some (some v) → σ[i]? = some (some v)):Inv X pins σ' H s :=
  ⟨I.ok,I.os,I.bare,I.base,let ⟨m,hn,hl'⟩:=I.loc; ⟨m,hn,fun i x v e1 e2 e3=>hl' i x v e1 (w i v e2) e3⟩,I.cell,I.free,I.freeC,I.pin,I.hok,hl.trans I.len⟩
theorem Inv.pins_of {pins':List (Addr × Obj)} (I:Inv X pins σ H s) (h:∀ p ∈ pins',s.heap.get? p.1 = some p.2 ∧ H p.1 = none ∧ p.1 ≠ X.env.locals ∧ p.1 ∉ X.fs ∧ ∀ v,p.2.data ≠ .cell v):Inv X pins' σ H s :=
  ⟨I.ok,I.os,I.bare,I.base,I.loc,I.cell,I.free,I.freeC,fun p hp=>(qBr.mp hp).elim (fun z=>I.pin p (qD7 _ z)) (h p),I.hok,I.len⟩
theorem zIF {N:List Str} (hN:N.Nodup) {i j:Nat} {x:Str} (a:N[i]? = some x) (b:N[j]? = some x):i = j:=by
  obtain ⟨h1,e1⟩:=qA2.mp a
  obtain ⟨h2,e2⟩:=qA2.mp b
  exact (List.getElem_inj hN).mp (e1.trans e2.symm)
theorem zJ7 {M:Model} {A:Around} {E:Value → Shared → Prop} {i:Nat} {x:Str} {v:V} {u:Value} {Q:Unit → Shared → Prop} (I:Inv X pins σ H s) (hN:X.N.Nodup) (hi:X.N[i]? = some x) (hx:Loc X.env.scope x) (r:RelV v u)
    (h:∀ s',Inv X pins (σ.set i (some v)) H s' → (∃ a,Heap.SameBut a s.heap s'.heap ∧ (a = X.env.locals ∨ X.env.cells.lookup x = some a)) → Q () s') (hf:X.fn x = true ∨ X.env.scope.names.lookup x = some .local:=by first | exact .inl rfl | exact .inr rfl | assumption):wpAny M A (storeName X.env x u) Q E s:=by
  obtain ⟨m,hn,hl⟩:=id I.loc
  have hcls:(X.env.scope.kind == .class || (X.env.scope.kind == .module && X.env.locals != X.env.globals)) = false:=by rw [I.ok.kind]; rfl
  have hiσ:i < σ.length:=by rw [I.len]; exact (qA2.mp hi).1
  have cne:=I.cne
  have tracked:∀ {a:Addr} {h':Heap},(∃ o,s.heap.get? a = some o ∧ H a = none) → Heap.SameBut a s.heap h' → HOk X.prog X.w H h':=fun {a h'} ha hs b ob e=>by
    obtain ⟨_,_,hfree⟩:=ha
    refine (I.hok b ob e).stay (fun c w' hc q=>(hs.2 c ?_).trans q) (fun _ q=>q) fun _ _ q=>q
    rintro rfl
    rcases hc with rfl | hc
    · rw [hfree] at e; cases e
    · rw [hfree] at hc; cases hc
  rcases hx with hk | hk
  · refine wpAny_storeName_local hk hn (fun h' hn' hs=>?_) hcls
    obtain ⟨oL,_,_,hoL,_⟩:=id hn
    refine h _ ⟨I.ok,I.os,I.bare,⟨fun b o e n hb hx=>?_,fun b o e n hb hx=>?_,I.base.free,fun b o e hx=>?_,I.base.tups,I.base.frzs,I.base.tbls⟩,⟨_,hn',fun j y v' e1 e2 e3=>?_⟩,fun y c e=>?_,I.free,I.freeC,fun p hp=>?_,tracked ⟨oL,hoL,I.free⟩ hs,by simpa using I.len⟩ ⟨_,hs,.inl rfl⟩
    · exact (hs.2 b (qAn (qAb (Heap.lt_size e) I.ok.above))).trans (I.base.keep b o e n hb hx)
    · obtain ⟨sl,e1⟩:=I.base.slot b o e n hb hx
      exact ⟨sl,(hs.2 b (qAn (qAb (Heap.lt_size e) I.ok.above))).trans e1⟩
    · obtain ⟨o',e1⟩:=I.base.there b o e hx
      exact ⟨o',(hs.2 b (qAn (qAb (Heap.lt_size e) I.ok.above))).trans e1⟩
    · by_cases hj:j = i
      · subst hj
        rw [hi] at e1; cases e1
        rw [qAj hiσ] at e2
        cases e2
        exact ⟨u,r,.inl ⟨hk,by simp⟩⟩
      · rw [qAk (qCn hj)] at e2
        obtain ⟨u',r',q⟩:=hl j y v' e1 e2 e3
        refine ⟨u',r',?_⟩
        rcases q with ⟨k,e⟩ | ⟨k,c,e,z⟩
        · refine .inl ⟨k,?_⟩
          have:y ≠ x:=fun e=>hj (zIF hN e1 (e ▸ hi))
          simp [this,e]
        · exact .inr ⟨k,c,e,z.sameBut hs (cne y c e)⟩
    · obtain ⟨w',z⟩:=I.cell y c e
      exact ⟨w',z.sameBut hs (cne y c e)⟩
    · obtain ⟨e,n,ne,nf,d⟩:=I.pin p hp
      exact ⟨(hs.2 p.1 ne).trans e,n,ne,nf,d⟩
  · have hfn:X.fn x = true:=by
      rcases hf with z | z
      · exact z
      · rw [z] at hk; cases hk
    obtain ⟨c,hc⟩:=I.ok.has x (.inl hk)
    obtain ⟨w',z⟩:=I.cell x c hc
    refine wpAny_storeName_cell I.ok.kind hk hc z (fun h' hc' hs=>?_)
    obtain ⟨oc,hoc,hocd⟩:=id z
    refine h { s with heap:=h' } ⟨I.ok,I.os,I.bare,⟨fun b o e n hb hx=>?_,fun b o e n hb hx=>?_,I.base.free,fun b o e hx=>?_,I.base.tups,I.base.frzs,I.base.tbls⟩,⟨m,hn.sameBut hs (qCn (cne x c hc)),fun j y v' e1 e2 e3=>?_⟩,fun y c' e=>?_,I.free,I.freeC,fun p hp=>?_,tracked ⟨oc,hoc,I.freeC x c hc⟩ hs,by simpa using I.len⟩ ⟨c,hs,.inr hc⟩
    · exact (hs.2 b (qAn (qAb (Heap.lt_size e) (I.ok.cab x c hfn hc)))).trans (I.base.keep b o e n hb hx)
    · obtain ⟨sl,e1⟩:=I.base.slot b o e n hb hx
      exact ⟨sl,(hs.2 b (qAn (qAb (Heap.lt_size e) (I.ok.cab x c hfn hc)))).trans e1⟩
    · obtain ⟨o',e1⟩:=I.base.there b o e hx
      exact ⟨o',(hs.2 b (qAn (qAb (Heap.lt_size e) (I.ok.cab x c hfn hc)))).trans e1⟩
    · by_cases hj:j = i
      · subst hj
        rw [hi] at e1; cases e1
        rw [qAj hiσ] at e2
        cases e2
        exact ⟨u,r,.inr ⟨.inl hk,c,hc,hc'⟩⟩
      · rw [qAk (qCn hj)] at e2
        obtain ⟨u',r',q⟩:=hl j y v' e1 e2 e3
        refine ⟨u',r',?_⟩
        rcases q with q | ⟨k,c',e,z'⟩
        · exact .inl q
        · refine .inr ⟨k,c',e,z'.sameBut hs ?_⟩
          rintro rfl
          exact hj (zIF hN e1 (I.ok.inj _ _ _ e hc ▸ hi))
    · by_cases hcc:c' = c
      · subst hcc; exact ⟨_,hc'⟩
      · obtain ⟨w2,z2⟩:=I.cell y c' e
        exact ⟨w2,z2.sameBut hs hcc⟩
    · obtain ⟨e,n,ne,nf,d⟩:=I.pin p hp
      refine ⟨(hs.2 p.1 ?_).trans e,n,ne,nf,d⟩
      intro q
      rw [q,hoc] at e
      have q':oc = p.2:=qAx e
      exact d w' (by rw [← q']; exact hocd)
theorem zI1 {M:Model} {A:Around} {E:Value → Shared → Prop} {i:Nat} {x:Str} {v:V} {u:Value} {Q:Unit → Shared → Prop} (I:Inv X pins σ H s) (hN:X.N.Nodup) (hi:X.N[i]? = some x) (hx:Loc X.env.scope x) (r:RelV v u)
    (h:∀ s',Inv X pins (σ.set i (some v)) H s' → Q () s') (hf:X.fn x = true ∨ X.env.scope.names.lookup x = some .local:=by first | exact .inl rfl | exact .inr rfl | assumption):wpAny M A (storeName X.env x u) Q E s :=
  zJ7 I hN hi hx r (fun s' I' _=>h s' I') hf
theorem Inv.call' {s':Shared} {ch:List Addr} (I:Inv X pins σ H s) (ho:s'.os = s.os) (u:Un (frs X.stack) ch H H' s.heap s'.heap) (hok:HOk X.prog X.w H' s'.heap) (hg:AllBare s'.gens)
    (hch:∀ b ∈ ch,(b ∈ X.ex ∨ X.s₀.heap.objs.size ≤ b) ∧ b ≠ X.env.locals ∧ (∀ x c,X.env.cells.lookup x = some c → c ≠ b) ∧ ∀ p ∈ X.pn ++ pins,p.1 ≠ b):Inv X pins σ H' s':=by
  obtain ⟨h',g',d',t',o'⟩:=s'
  have e:o' = s.os:=ho
  subst e
  exact I.call (g':=g') (t':=t') (d':=d') u hok hg hch
end
abbrev XK:=Value → Option Addr → Hp → Prop
abbrev St:=List (Option V)
abbrev VK:=V → Hp → Prop
abbrev TE:=St → Hp → VK → Prop
abbrev TT:=St → Hp → (Bool → Hp → Prop) → Prop
abbrev TA:=St → Hp → (List V → Hp → Prop) → Prop
structure Ends where
  nx:St → Hp → Prop
  rt:VK
  bk:St → Hp → Prop:=fun _ _=>False
  ct:St → Hp → Prop:=fun _ _=>False
abbrev TS:=Ends → St → Hp → Prop
def EP (X:Cx) (pins:List (Addr × Obj)) (σ:St) (Q:VK) (u:Value) (s':Shared):Prop:=∃ v H',Inv X pins σ H' s' ∧ RelV v u ∧ Q v H'
def TP (X:Cx) (pins:List (Addr × Obj)) (σ:St) (Q:Bool → Hp → Prop) (b:Bool) (s':Shared):Prop:=∃ H',Inv X pins σ H' s' ∧ Q b H'
def AP (X:Cx) (pins:List (Addr × Obj)) (σ:St) (Q:List V → Hp → Prop) (us:List Value) (s':Shared):Prop:=∃ vs H',Inv X pins σ H' s' ∧ Vals vs us ∧ Q vs H'
def SP (X:Cx) (pins:List (Addr × Obj)) (D:Ends) (f:Flow) (s':Shared):Prop :=
  match f with
  | .next=>∃ σ' H',Inv X pins σ' H' s' ∧ D.nx σ' H'
  | .brk=>∃ σ' H',Inv X pins σ' H' s' ∧ D.bk σ' H'
  | .cont=>∃ σ' H',Inv X pins σ' H' s' ∧ D.ct σ' H'
  | .ret u=>∃ v σ' H',Inv X pins σ' H' s' ∧ RelV v u ∧ D.rt v H'
def PE (X:Cx) (e:Expr) (t:TE):Prop :=
  ∀ (pins:List (Addr × Obj)) (s:Shared) (σ:St) (H:Hp) (Q:VK),Inv X pins σ H s → t σ H Q → wpAny (model X.prog X.w) X.A (eval e X.env) (EP X pins σ Q) X.xe s
def PT (X:Cx) (e:Expr) (t:TT):Prop :=
  ∀ (pins:List (Addr × Obj)) (s:Shared) (σ:St) (H:Hp) (Q:Bool → Hp → Prop),Inv X pins σ H s → t σ H Q → wpAny (model X.prog X.w) X.A (isTrue e X.env (eval e X.env)) (TP X pins σ Q) X.xe s
def PW (X:Cx) (e:Expr) (t:TT):Prop :=
  ∀ (whole:Sem Value) (pins:List (Addr × Obj)) (s:Shared) (σ:St) (H:Hp) (Q:Bool → Hp → Prop),Inv X pins σ H s → t σ H Q → wpAny (model X.prog X.w) X.A (isTrue e X.env whole) (TP X pins σ Q) X.xe s
theorem PW.pt {X:Cx} {e:Expr} {t:TT} (h:PW X e t):PT X e t:=h _
def PA (X:Cx) (es:List Expr) (t:TA):Prop :=
  ∀ (pos:Pos) (pins:List (Addr × Obj)) (s:Shared) (σ:St) (H:Hp) (Q:List V → Hp → Prop),Inv X pins σ H s → t σ H Q → wpAny (model X.prog X.w) X.A (spliced (backTo pos (starEach es X.env))) (AP X pins σ Q) X.xe s
def PS (X:Cx) (st:Stmt) (t:TS):Prop :=
  ∀ (pins:List (Addr × Obj)) (s:Shared) (σ:St) (H:Hp) (D:Ends),Inv X pins σ H s → t D σ H → wpAny (model X.prog X.w) X.A (exec st X.env) (SP X pins D) X.xe s
def PSs (X:Cx) (st:List Stmt) (t:TS):Prop :=
  ∀ (pins:List (Addr × Obj)) (s:Shared) (σ:St) (H:Hp) (D:Ends),Inv X pins σ H s → t D σ H → wpAny (model X.prog X.w) X.A (execs st X.env) (SP X pins D) X.xe s
theorem thn {α:Type} {t:Sem α} {Q Q':α → Shared → Prop} {M:Model} {A:Around} {E:Value → Shared → Prop} {s:Shared} (h:wpAny M A t Q E s) (hQ:∀ a s,Q a s → Q' a s):wpAny M A t Q' E s:=wpAny_mono h hQ fun _ _ x=>x
end L2
namespace L2
open PySem PySem.Spec PyProof.Rows
section
variable {X:Cx}
theorem bin {a b:Expr} {ta tb:TE} (ha:PE X a ta) (hb:PE X b tb) {pins:List (Addr × Obj)} {s:Shared} {σ:St} {H:Hp} {R:V → V → Hp → Prop} (I:Inv X pins σ H s) (h:ta σ H fun x H1=>tb σ H1 fun y H2=>R x y H2)
    {α:Type} {Q:α → Shared → Prop} {f:Value → Value → Sem α}
    (hf:∀ v u s2 x y H2,Inv X pins σ H2 s2 → RelV x v → RelV y u → R x y H2 → wpAny (model X.prog X.w) X.A (f v u) Q X.xe s2) :
    wpAny (model X.prog X.w) X.A (eval a X.env) (fun v s₁=>wpAny (model X.prog X.w) X.A (eval b X.env) (fun u s₂=>wpAny (model X.prog X.w) X.A (f v u) Q X.xe s₂) X.xe s₁) X.xe s:=by
  refine thn (ha pins s σ H _ I h) fun v s1 ⟨x,H1,I1,r1,q1⟩=>?_
  refine thn (hb pins s1 σ H1 _ I1 q1) fun u s2 ⟨y,H2,I2,r2,q2⟩=>?_
  exact hf v u s2 x y H2 I2 r1 r2 q2
noncomputable def tVar (i:Nat):TE:=fun σ H Q=>∃ v,σ[i]? = some (some v) ∧ Q v H
noncomputable def tC (v:V):TE:=fun _ H Q=>Q v H
theorem zRY {i:Nat} {x:Str} {pos:Pos} (hN:X.N[i]? = some x) (hv:Vis X.env.scope x) (hd:(x == ("__debug__":Str)) = false:=by decide) (hcd:(x == ("__classdict__":Str)) = false:=by decide):PE X (.Name x pos) (tVar i):=by
  intro pins s σ H Q I h
  obtain ⟨v,e,h⟩:=h
  obtain ⟨m,hn,hl⟩:=I.loc
  obtain ⟨u,r,l⟩:=hl i x v hN e hv
  have fin:EP X pins σ Q u s:=⟨v,H,I,r,h⟩
  rcases l with ⟨hk,hm⟩ | ⟨hk,c,hc,hcell⟩
  · exact wpAny_Name (wpAny_loadName_local I.ok.kind hk hn hm fin) hd
  · rcases hk with hk | hk
    · exact wpAny_Name (wpAny_loadName_cell I.ok.kind hk hc hcell fin) hd
    · exact wpAny_Name (wpAny_loadName_free I.ok.kind hk hc hcell fin hcd) hd
theorem zA6 {i j pos}:PE X (.Constant (.int i) j pos) (tC (.int i)):=fun _ _ _ H _ I h=>wpAny_Constant_int ⟨.int i,H,I.tok _,⟨_,rfl⟩,h⟩
theorem zTT {b j pos}:PE X (.Constant (.bool b) j pos) (tC (.bl b)):=fun _ _ _ H _ I h=>Constant_bool ⟨.bl b,H,I,rfl,h⟩
theorem zCO {j pos}:PE X (.Constant .none j pos) (tC .non):=fun _ _ _ H _ I h=>Constant_none ⟨.non,H,I,rfl,h⟩
theorem zBQ {x j pos}:PE X (.Constant (.str x) j pos) (tC (.str x)):=fun _ _ _ H _ I h=>Calls.Constant_str ⟨.str x,H,I.tok _,⟨_,rfl⟩,h⟩
def Gl (X:Cx) (x:Str):Prop:=X.env.kindOf x = some .globalImplicit
theorem zEC {E:Value → Shared → Prop} {pins:List (Addr × Obj)} {s:Shared} {σ:St} {H:Hp} {x:Str} {u:Value} {pos:Pos} {Q:Value → Shared → Prop} (I:Inv X pins σ H s) (hg:Gl X x) (hm:X.mg x = some u) (h:Q u s)
    (hd:(x == ("__debug__":Str)) = false:=by decide):wpAny (model X.prog X.w) X.A (eval (.Name x pos) X.env) Q E s :=
  Calls.Name_function_global I.ok.kind hg (Calls.loadGlobal_global (by rw [I.ok.glob]; exact I.mod.glob.keeps I.bk) hm h) hd
theorem zHJ {E:Value → Shared → Prop} {pins:List (Addr × Obj)} {s:Shared} {σ:St} {H:Hp} {x:Str} {u:Value} {pos:Pos} {Q:Value → Shared → Prop} (I:Inv X pins σ H s) (hg:Gl X x) (hm:X.mg x = none) (hv:bootBuiltins x = some u) (h:Q u s)
    (hn:x ≠ "__name__":=by decide) (hd:(x == ("__debug__":Str)) = false:=by decide):wpAny (model X.prog X.w) X.A (eval (.Name x pos) X.env) Q E s:=by
  obtain ⟨mb,h1,h2⟩:=I.mod.blt
  exact Calls.Name_function_global I.ok.kind hg (Calls.loadGlobal_builtin (by rw [I.ok.glob]; exact I.mod.glob.keeps I.bk) hm (by rw [I.ok.blt]; exact h1.keeps I.bk) ((h2 x hn).trans hv) h) hd
theorem zE9 {x:Str} {v:V} {u:Value} {pos:Pos} (hg:Gl X x) (hm:X.mg x = some u) (r:RelV v u) (hd:(x == ("__debug__":Str)) = false:=by decide):PE X (.Name x pos) (tC v) :=
  fun _ _ _ H _ I h=>zEC I hg hm ⟨v,H,I,r,h⟩ hd
theorem zIB {x:Str} {v:V} {u:Value} {pos:Pos} (hg:Gl X x) (hm:X.mg x = none) (hv:bootBuiltins x = some u) (r:RelV v u) (hn:x ≠ "__name__":=by decide) (hd:(x == ("__debug__":Str)) = false:=by decide):PE X (.Name x pos) (tC v) :=
  fun _ _ _ H _ I h=>zHJ I hg hm hv ⟨v,H,I,r,h⟩ hn hd
variable {a b:Expr} {ta tb:TE} {pos:Pos}
def PC (X:Cx) (op:CmpOp) (a b:Expr) (t:TE):Prop :=
  ∀ (pins:List (Addr × Obj)) (s:Shared) (σ:St) (H:Hp) (Q:VK),Inv X pins σ H s → t σ H Q →
    wpAny (model X.prog X.w) X.A (eval a X.env) (fun v s₁=>wpAny (model X.prog X.w) X.A (eval b X.env) (fun u s₂=>wpAny (model X.prog X.w) X.A (compareOp op v u) (EP X pins σ Q) X.xe s₂) X.xe s₁) X.xe s
theorem zLZ (b:Expr) {op:CmpOp} (h:op ≠ .In) (h2:op ≠ .NotIn):behindInMarks op b = false:=by
  have e1:(op == CmpOp.In) = false:=by cases op <;> first | rfl | exact absurd rfl h
  have e2:(op == CmpOp.NotIn) = false:=by cases op <;> first | rfl | exact absurd rfl h2
  cases b <;> simp [behindInMarks,e1,e2]
noncomputable def tB (t:TE):TT:=fun σ H Q=>t σ H fun x H1=>∃ c,x = .bl c ∧ Q c H1
theorem zS0 {op:CmpOp} {t:TE} (h:PC X op a b t) (h1:behindInMarks op b = false:=by first | exact zLZ _ (by decide) (by decide) | rfl):PE X (.Compare a [op] [b] pos) t:=fun pins s σ H Q I hw=>wpAny_Compare1 (h pins s σ H Q I hw) h1
theorem zRW {op:CmpOp} {t:TE} (h:PC X op a b t) (h1:behindInMarks op b = false:=by first | exact zLZ _ (by decide) (by decide) | rfl):PT X (.Compare a [op] [b] pos) (tB t):=by
  intro pins s σ H Q I hw
  refine wpAny_isTrue_Compare1 (thn (h pins s σ H _ I hw) fun v s1 h1=>thn h1 fun u s2 h2=>thn h2 fun c s3 ⟨x,H1,I1,r1,q1⟩=>?_) h1
  obtain ⟨d,rfl,q⟩:=q1
  cases r1
  exact wpAny_truthy_bool ⟨H1,I1,q⟩
variable {tA tB':TT} {rest:List Expr}
noncomputable def tAnd (t u:TT):TT:=fun σ H Q=>t σ H fun c H1=>if c = true then u σ H1 Q else Q false H1
noncomputable def tOr (t u:TT):TT:=fun σ H Q=>t σ H fun c H1=>if c = true then Q true H1 else u σ H1 Q
noncomputable def tNot (t:TT):TT:=fun σ H Q=>t σ H fun c H1=>Q (!c) H1
theorem zTQ (ha:PT X a tA):PW X (.BoolOp .And [a] pos) tA:=by
  intro wh pins s σ H Q I h
  refine isTrue_and (thn (ha pins s σ H Q I h) fun c s1 e=>?_)
  cases c with
  | true=>exact isTrue_and_nil e
  | false=>exact e
theorem zEH (ha:PT X a tA):PW X (.BoolOp .Or [a] pos) tA:=by
  intro wh pins s σ H Q I h
  refine isTrue_or (thn (ha pins s σ H Q I h) fun c s1 e=>?_)
  cases c with
  | false=>exact isTrue_or_nil e
  | true=>exact e
theorem zW4 (ha:PT X a tA) (hb:PW X (.BoolOp .And (b :: rest) pos) tB'):PW X (.BoolOp .And (a :: b :: rest) pos) (tAnd tA tB'):=by
  intro wh pins s σ H Q I h
  refine isTrue_and (thn (ha pins s σ H _ I h) fun c s1 ⟨H1,I1,q1⟩=>?_)
  cases c with
  | true=>exact hb wh pins s1 σ H1 Q I1 q1
  | false=>exact ⟨H1,I1,q1⟩
theorem zF9 (ha:PT X a tA) (hb:PW X (.BoolOp .Or (b :: rest) pos) tB'):PW X (.BoolOp .Or (a :: b :: rest) pos) (tOr tA tB'):=by
  intro wh pins s σ H Q I h
  refine isTrue_or (thn (ha pins s σ H _ I h) fun c s1 ⟨H1,I1,q1⟩=>?_)
  cases c with
  | true=>exact ⟨H1,I1,q1⟩
  | false=>exact hb wh pins s1 σ H1 Q I1 q1
theorem zJF (ha:PT X a tA):PT X (.UnaryOp .Not a pos) (tNot tA):=by
  intro pins s σ H Q I h
  exact isTrue_not (ha pins s σ H (fun c H1=>Q (!c) H1) I h)
theorem zHF {op} {t:TE} (h:PE X a t):PE X (.BoolOp op [a] pos) t:=fun pins s σ H Q I hw=>BoolOp_one (h pins s σ H Q I hw)
end
end L2
namespace L2
open PySem PySem.Spec PyProof.Rows
def SqL (K:qA1) (H:Hp) (a:Addr) (xs:List V):Prop :=
  Rd H a (.lst xs) ∨
    ∃ (o:Obj) (its:Array Value) (n:Nat),K.lookup a = some o ∧ o.cls = .type "list" ∧ o.dict = none ∧ o.data = .seq its n ∧ its.size ≤ sizeLine ∧ Vals xs its.toList
def SqT (K:qA1) (H:Hp) (a:Addr) (xs:List V):Prop :=
  Rd H a (.tup xs) ∨
    ∃ (o:Obj) (its:Array Value) (n:Nat),K.lookup a = some o ∧ o.cls = .type "tuple" ∧ o.data = .seq its n ∧ its.size ≤ sizeLine ∧ Vals xs its.toList
noncomputable def absV:Value → Option V
  | .none=>some .non
  | .bool b=>some (.bl b)
  | .int i _=>some (.int i)
  | .str x _=>some (.str x)
  | .bytes b _=>some (.byt b)
  | .float b _=>some (.flt b)
  | .ref a=>some (.ref a)
  | .type n=>some (.ty n)
  | _=>none
theorem RelV.abs {x:V} {u:Value} (r:RelV x u):absV u = some x:=by
  cases x with
  | non=>cases r; rfl
  | bl _=>cases r; rfl
  | int _=>obtain ⟨t,rfl⟩:=r; rfl
  | str _=>obtain ⟨t,rfl⟩:=r; rfl
  | byt _=>obtain ⟨t,rfl⟩:=r; rfl
  | flt _=>obtain ⟨t,rfl⟩:=r; rfl
  | ref _=>cases r; rfl
  | ty _=>cases r; rfl
theorem RelV.inj {x y:V} {u:Value} (r:RelV x u) (q:RelV y u):x = y:=qAx (r.abs.symm.trans q.abs)
theorem Vals.inj:∀ {xs ys:List V} {us:List Value},Vals xs us → Vals ys us → xs = ys
  | _,_,_,.nil,.nil=>rfl
  | _,_,_,.cons r t,.cons r' t'=>by rw [r.inj r',Vals.inj t t']
section
variable {X:Cx} {pins:List (Addr × Obj)} {σ:St} {H:Hp} {s:Shared} {a:Addr} {xs ys:List V}
theorem SqL.of {K:qA1} (h:H a = some (.lst xs)):SqL K H a xs:=.inl (.inl h)
theorem SqT.of {K:qA1} (h:H a = some (.tup xs)):SqT K H a xs:=.inl (.inl h)
theorem Inv.list (I:Inv X pins σ H s) (h:SqL X.K H a xs):∃ its:List Value,Vals xs its ∧ PlainL s.heap a its.toArray ∧ xs.length ≤ sizeLine:=by
  rcases h with h | ⟨o,its,n,hk,hc,hd,hs,hz,r⟩
  · obtain ⟨z,its,n,r,e⟩:=h.ok I.hok
    exact ⟨its,r,⟨_,n,e,rfl,rfl,rfl⟩,z⟩
  · refine ⟨its.toList,r,⟨o,n,I.kIn a o hk,hc,hd,by simpa using hs⟩,?_⟩
    have e:=r.length
    simp only [qBn] at e
    omega
theorem Inv.tuple (I:Inv X pins σ H s) (h:SqT X.K H a xs):∃ its:List Value,Vals xs its ∧ IsTup s.heap a its.toArray ∧ xs.length ≤ sizeLine:=by
  rcases h with h | ⟨o,its,n,hk,hc,hs,hz,r⟩
  · obtain ⟨z,its,r,p⟩:=h.ok I.hok
    exact ⟨its,r,p,z⟩
  · refine ⟨its.toList,r,⟨o,I.kIn a o hk,hc,n,by simpa using hs⟩,?_⟩
    have e:=r.length
    simp only [qBn] at e
    omega
theorem Inv.list_inj (I:Inv X pins σ H s) (h:SqL X.K H a xs) (h':SqL X.K H a ys):xs = ys:=by
  obtain ⟨its,r,⟨o,n,e,_,_,d⟩,_⟩:=I.list h
  obtain ⟨its',r',⟨o',n',e',_,_,d'⟩,_⟩:=I.list h'
  rw [e] at e'; cases e'
  rw [d] at d'
  injection d' with d1 _
  have:its = its':=by simpa using congrArg qEt d1
  subst this
  exact r.inj r'
theorem Inv.tuple_inj (I:Inv X pins σ H s) (h:SqT X.K H a xs) (h':SqT X.K H a ys):xs = ys:=by
  obtain ⟨its,r,⟨o,e,_,n,d⟩,_⟩:=I.tuple h
  obtain ⟨its',r',⟨o',e',_,n',d'⟩,_⟩:=I.tuple h'
  rw [e] at e'; cases e'
  rw [d] at d'
  injection d' with d1 _
  have:its = its':=by simpa using congrArg qEt d1
  subst this
  exact r.inj r'
end
abbrev Cx.wish (X:Cx) (E:Value → Shared → Prop):Cx:={ X with xe:=E }
abbrev Cx.nox (X:Cx):Cx:=X.wish fun _ _=>False
theorem Cx.Ok.wish {X:Cx} (ok:X.Ok) (E:Value → Shared → Prop):(X.wish E).Ok :=
  ⟨ok.mod,ok.kind,ok.glob,ok.blt,ok.above,ok.inj,ok.has,ok.cab,ok.hd,ok.frames,ok.stk,ok.exf,ok.bs,ok.bsz,ok.noex,ok.exfs,ok.funs,ok.frf⟩
theorem Cx.Ok.unwish {X:Cx} {E:Value → Shared → Prop} (ok:(X.wish E).Ok):X.Ok :=
  ⟨ok.mod,ok.kind,ok.glob,ok.blt,ok.above,ok.inj,ok.has,ok.cab,ok.hd,ok.frames,ok.stk,ok.exf,ok.bs,ok.bsz,ok.noex,ok.exfs,ok.funs,ok.frf⟩
section
variable {X:Cx} {pins:List (Addr × Obj)} {σ:St} {H:Hp} {s:Shared} {E:Value → Shared → Prop}
theorem Inv.wish (I:Inv X pins σ H s) (E:Value → Shared → Prop):Inv (X.wish E) pins σ H s:=⟨I.ok.wish E,I.os,I.bare,I.base,I.loc,I.cell,I.free,I.freeC,I.pin,I.hok,I.len⟩
theorem Inv.unwish (I:Inv (X.wish E) pins σ H s):Inv X pins σ H s:=⟨I.ok.unwish,I.os,I.bare,I.base,I.loc,I.cell,I.free,I.freeC,I.pin,I.hok,I.len⟩
theorem SP.unwish {D:Ends} {f:Flow} {s':Shared} (h:SP (X.wish E) pins D f s'):SP X pins D f s':=by
  cases f with
  | next=>obtain ⟨σ',H',I,q⟩:=h; exact ⟨σ',H',I.unwish,q⟩
  | brk=>obtain ⟨σ',H',I,q⟩:=h; exact ⟨σ',H',I.unwish,q⟩
  | cont=>obtain ⟨σ',H',I,q⟩:=h; exact ⟨σ',H',I.unwish,q⟩
  | ret u=>obtain ⟨v,σ',H',I,r,q⟩:=h; exact ⟨v,σ',H',I.unwish,r,q⟩
theorem PSs.nox {st:List Stmt} {t:TS} (h:PSs X.nox st t):PSs X st t:=fun pins s σ H D I hw =>
  wpAny_mono (h pins s σ H D (I.wish _) hw) (fun _ _ q=>q.unwish) fun _ _ z=>qAf z
end
section
variable {X:Cx} {st:Stmt} {rest:List Stmt} {t u:TS} {e:Expr} {te:TE} {pos:Pos}
noncomputable def zVF:TS:=fun D σ H=>D.nx σ H
noncomputable def tSeq (t u:TS):TS:=fun D σ H=>t { D with nx:=u D } σ H
theorem zB2:PSs X [] zVF:=fun _ _ σ H _ I h=>wpAny_execs_nil ⟨σ,H,I,h⟩
theorem zA3 (h1:PS X st t) (h2:PSs X rest u):PSs X (st :: rest) (tSeq t u):=by
  intro pins s σ H D I h
  refine wpAny_execs_cons (thn (h1 pins s σ H { D with nx:=u D } I h) fun f s1 q=>?_)
  cases f with
  | next =>
    obtain ⟨σ',H',I',q⟩:=q
    exact h2 pins s1 σ' H' D I' q
  | ret v=>exact q
  | brk=>exact q
  | cont=>exact q
theorem zAE (h1:PS X st t):PSs X [st] t:=by
  intro pins s σ H D I h
  refine wpAny_execs_cons (thn (h1 pins s σ H D I h) fun f s1 q=>?_)
  cases f with
  | next=>exact wpAny_execs_nil q
  | ret v=>exact q
  | brk=>exact q
  | cont=>exact q
theorem Inv.quiet {pins:List (Addr × Obj)} {σ:St} {H:Hp} {s:Shared} (I:Inv X pins σ H s):interactive X.env = false:=by simp [interactive,I.ok.kind]
noncomputable def zNL (te:TE):TS:=fun D σ H=>te σ H fun _ H1=>D.nx σ H1
theorem zNZ (he:PE X e te) (hs:swapsWith e none pos.line X.env = pure false:=by rfl):PS X (.Expr e pos) (zNL te):=by
  intro pins s σ H D I h
  exact wpAny_Expr_any (thn (he pins s σ H _ I h) fun v s1 ⟨x,H1,I1,r1,q1⟩=>⟨σ,H1,I1,q1⟩) I.quiet hs
noncomputable def tRet (te:TE):TS:=fun D σ H=>te σ H D.rt
theorem zAQ (he:PE X e te):PS X (.Return (some e) pos) (tRet te):=by
  intro pins s σ H D I h
  exact wpAny_Return_some (thn (he pins s σ H _ I h) fun v s1 ⟨x,H1,I1,r1,q1⟩=>⟨x,σ,H1,I1,r1,q1⟩)
noncomputable def tIfS (c:TT) (t u:TS):TS:=fun D σ H=>c σ H fun b H1=>if b = true then t D σ H1 else u D σ H1
theorem zCE {c:Expr} {a b:List Stmt} {tc:TT} (hc:PT X c tc) (ha:PSs X a t) (hb:PSs X b u):PS X (.If c a b pos) (tIfS tc t u):=by
  intro pins s σ H D I h
  refine wpAny_If (thn (hc pins s σ H _ I h) fun d s1 ⟨H1,I1,q1⟩=>?_)
  cases d with
  | true=>exact ha pins s1 σ H1 D I1 q1
  | false=>exact hb pins s1 σ H1 D I1 q1
end
abbrev TG:=V → St → Hp → (St → Hp → Prop) → Prop
abbrev TGs:=List V → St → Hp → (St → Hp → Prop) → Prop
def PG (X:Cx) (target:Expr) (t:TG):Prop :=
  ∀ (pins:List (Addr × Obj)) (s:Shared) (σ:St) (H:Hp) (v:V) (u:Value) (Q:St → Hp → Prop),Inv X pins σ H s → RelV v u → t v σ H Q →
    wpAny (model X.prog X.w) X.A (assign target X.env u) (fun _ s'=>∃ σ' H',Inv X pins σ' H' s' ∧ Q σ' H') X.xe s
def PGs (X:Cx) (ts:List Expr) (t:TGs):Prop :=
  ∀ (pins:List (Addr × Obj)) (s:Shared) (σ:St) (H:Hp) (vs:List V) (us:List Value) (Q:St → Hp → Prop),Inv X pins σ H s → Vals vs us → t vs σ H Q →
    wpAny (model X.prog X.w) X.A (assignInOrder ((assignEach ts X.env).map (·.2)) us) (fun _ s'=>∃ σ' H',Inv X pins σ' H' s' ∧ Q σ' H') X.xe s
abbrev TSet:=V → V → V → Hp → (Hp → Prop) → Prop
def PSet (X:Cx) (t:TSet):Prop :=
  ∀ (pins:List (Addr × Obj)) (s:Shared) (σ:St) (H:Hp) (o i v:V) (ov iv u:Value) (Q:Hp → Prop),Inv X pins σ H s → RelV o ov → RelV i iv → RelV v u → t o i v H Q →
    wpAny (model X.prog X.w) X.A (setItem ov iv u) (fun _ s'=>∃ H',Inv X pins σ H' s' ∧ Q H') X.xe s
section
variable {X:Cx} {pos:Pos}
noncomputable def zGH (i:Nat):TG:=fun v σ H Q=>Q (σ.set i (some v)) H
theorem zDK {i:Nat} {x:Str} (hN:X.N.Nodup) (hi:X.N[i]? = some x) (hx:Loc X.env.scope x) (hf:X.fn x = true ∨ X.env.scope.names.lookup x = some .local:=by first | exact .inl rfl | exact .inr rfl | assumption):PG X (.Name x pos) (zGH i):=by
  intro pins s σ H v u Q I r h
  exact wpAny_assign_Name (zI1 I hN hi hx r (fun s' I'=>⟨_,H,I',h⟩) hf)
noncomputable def gNil:TGs:=fun vs σ H Q=>vs = [] ∧ Q σ H
noncomputable def zX3 (t:TG) (u:TGs):TGs:=fun vs σ H Q=>∃ v r,vs = v :: r ∧ t v σ H fun σ' H'=>u r σ' H' Q
theorem zG0:PGs X [] gNil:=by
  intro pins s σ H vs us Q I r h
  obtain ⟨e,h⟩:=h
  subst e
  cases r
  exact assignInOrder_nil ⟨σ,H,I,h⟩
theorem zC2 {e:Expr} {es:List Expr} {t:TG} {u:TGs} (h1:PG X e t) (h2:PGs X es u)
    (hs:(assignEach (e :: es) X.env).map (·.2) = assign e X.env :: (assignEach es X.env).map (·.2):=by rfl):PGs X (e :: es) (zX3 t u):=by
  intro pins s σ H vs us Q I r h
  obtain ⟨v,vr,e1,h⟩:=h
  subst e1
  cases r with
  | cons r rr =>
    rw [hs]
    refine assignInOrder_cons (thn (h1 pins s σ H _ _ _ I r h) fun _ s1 ⟨σ1,H1,I1,q1⟩=>?_)
    exact h2 pins s1 σ1 H1 _ _ Q I1 rr q1
noncomputable def gTup (K:qA1) (n:Nat) (t:TGs):TG:=fun v σ H Q=>∃ a xs,v = .ref a ∧ SqT K H a xs ∧ xs.length = n ∧ t xs σ H Q
theorem zW8 {es:List Expr} {k:Nat} {t:TGs} {n:Nat} (hc:X.calm = true) (h:PGs X es t)
    (hn:(assignEach es X.env).length = n:=by rfl) (hst:(assignEach es X.env).findIdx? (·.1) = none:=by rfl):PG X (.Tuple es k pos) (gTup X.K n t):=by
  intro pins s σ H v u Q I r hw
  obtain ⟨a,xs,e1,hq,hl,hw⟩:=hw
  subst e1
  cases r
  obtain ⟨its,rv,ht,hz⟩:=I.tuple hq
  refine assign_Tuple_tuple (I.ok.hd hc) ht (by simp [hn,← hl,rv.length]) hst fun h' hx=>?_
  have I1:Inv X pins σ H { s with heap:=h' }:=I.kept (t':=s.toks) fun b o e=>hx b o (qAn (Heap.lt_size e)) e
  exact h pins _ σ H xs _ Q I1 (by simpa using rv) hw
noncomputable def gSub (to ti:TE) (t:TSet):TG:=fun v σ H Q=>to σ H fun o H1=>ti σ H1 fun i H2=>t o i v H2 fun H3=>Q σ H3
theorem zRX {o i:Expr} {to ti:TE} {t:TSet} (ho:PE X o to) (hi:PE X i ti) (hs:PSet X t)
    (ha:∀ v,assign (.Subscript o i pos) X.env v = (do
      let ov ← holding [v] (eval o X.env)
      let iv ← holding [v,ov] (eval i X.env)
      standAt pos
      holding [v,ov,iv] (setItem ov iv v)
      release [v,ov,iv] []):=by intro _; rfl):PG X (.Subscript o i pos) (gSub to ti t):=by
  intro pins s σ H v u Q I r h
  rw [ha]
  refine wpAny_bind (wpAny_holding (thn (ho pins s σ H _ I h) fun ov s1 ⟨x,H1,I1,r1,q1⟩=>?_))
  refine wpAny_bind (wpAny_holding (thn (hi pins s1 σ H1 _ I1 q1) fun iv s2 ⟨y,H2,I2,r2,q2⟩=>?_))
  refine wpAny_bind (wpAny_standAt (wpAny_bind (wpAny_holding (thn (hs pins s2 σ H2 x y v ov iv u _ I2 r1 r2 r q2) fun _ s3 ⟨H3,I3,q3⟩=>?_))))
  exact wpAny_release ⟨σ,H3,I3,q3⟩
noncomputable def tAsg (te:TE) (g:TG):TS:=fun D σ H=>te σ H fun x H1=>g x σ H1 D.nx
theorem zO0 {tg e:Expr} {te:TE} {g:TG} (he:PE X e te) (hg:PG X tg g) (hs:swapsWithSole [tg] e pos.line X.env = pure false:=by rfl) (hw:swappedStores [tg] e X.env = pure none:=by rfl)
    (h1:(assignEach [tg] X.env).map (·.2) = [assign tg X.env]:=by rfl):PS X (.Assign [tg] e pos) (tAsg te g):=by
  intro pins s σ H D I h
  refine wpAny_Assign_stores (thn (he pins s σ H _ I h) fun v s1 ⟨x,H1,I1,r1,q1⟩=>?_) hs hw
  rw [h1]
  exact thn (hg pins s1 σ H1 x v _ I1 r1 q1) fun _ s2 q=>q
theorem zW5 {i:Nat} {x:Str} {e:Expr} {te:TE} {pos':Pos} (hN:X.N.Nodup) (hi:X.N[i]? = some x) (hx:Loc X.env.scope x) (he:PE X e te) (hs:swapsWith e (some (.Name x pos')) pos.line X.env = pure false:=by rfl) (hf:X.fn x = true ∨ X.env.scope.names.lookup x = some .local:=by first | exact .inl rfl | exact .inr rfl | assumption) :
    PS X (.Assign [.Name x pos'] e pos) (tAsg te (zGH i)):=by
  intro pins s σ H D I h
  refine wpAny_Assign_Name (thn (he pins s σ H _ I h) fun v s1 ⟨y,H1,I1,r1,q1⟩=>?_) hs
  exact zI1 I1 hN hi hx r1 (fun s2 I2=>⟨_,H1,I2,q1⟩) hf
noncomputable def zNI (c:TT) (tb:TS):TS:=fun D σ H=>∃ W:Nat → St → Hp → Prop,(∃ m,W m σ H) ∧ ∀ m σ H,W m σ H →
  c σ H fun b H1=>if b = true then ∃ N:St → Hp → Prop,(∀ σ' H',N σ' H' → ∃ m',m' < m ∧ W m' σ' H') ∧ tb { D with nx:=N,ct:=N,bk:=D.nx } σ H1 else D.nx σ H1
theorem zLS {c:Expr} {body:List Stmt} {tc:TT} {tb:TS} (hp:PassesOwn (model X.prog X.w) X.A X.env X.xe) (hc:PT X c tc) (hb:PSs X body tb):PS X (.While c body [] pos) (zNI tc tb):=by
  intro pins s σ H D I h
  obtain ⟨W,⟨m0,w0⟩,turn⟩:=h
  refine wpAny_While (codeAny_whileLoop (fun n s'=>∃ σ' H',Inv X pins σ' H' s' ∧ W n σ' H') ?_ m0 ⟨σ,H,I,w0⟩)
  rintro n s1 ⟨σ1,H1,I1,w1⟩
  refine wpAny_passesOwn hp (thn (hc pins s1 σ1 H1 _ I1 (turn n σ1 H1 w1)) fun b s2 ⟨H2,I2,q2⟩=>?_)
  cases b with
  | true =>
    obtain ⟨N,hN,q2⟩:=q2
    rw [if_pos rfl]
    refine wpAny_passesOwn hp (thn (hb pins s2 σ1 H2 _ I2 q2) fun f s3 q3=>?_)
    cases f with
    | next =>
      obtain ⟨σ3,H3,I3,n3⟩:=q3
      obtain ⟨m',hm,w3⟩:=hN σ3 H3 n3
      exact ⟨m',hm,σ3,H3,I3,w3⟩
    | cont =>
      obtain ⟨σ3,H3,I3,n3⟩:=q3
      obtain ⟨m',hm,w3⟩:=hN σ3 H3 n3
      exact ⟨m',hm,σ3,H3,I3,w3⟩
    | brk=>exact q3
    | ret v=>exact q3
  | false =>
    rw [if_neg qAe]
    exact wpAny_execs_nil ⟨σ1,H2,I2,q2⟩
end
structure It where
  go:Nat → Hp → Prop
  yld:Nat → Hp → V → Hp → Prop
  stop:Nat → Hp → Prop
def FpOk (X:Cx) (pins:List (Addr × Obj)) (H:Hp) (b:Addr):Prop :=
  H b = none ∧ b ≠ X.env.locals ∧ b ∉ X.fs ∧ (b ∈ X.ex ∨ X.s₀.heap.objs.size ≤ b) ∧ (∀ x c,X.env.cells.lookup x = some c → c ≠ b) ∧ ∀ p ∈ X.pn ++ pins,p.1 ≠ b
theorem Inv.fpOk {X:Cx} {pins:List (Addr × Obj)} {σ:St} {H H':Hp} {s:Shared} {b:Addr} (I:Inv X pins σ H s) (hb:s.heap.objs.size ≤ b) (hn:H' b = none):FpOk X pins H' b:=by
  refine ⟨hn,qBo (qAb I.lt hb),I.nofs hb,.inr (qAo I.sz hb),fun x c e z=>?_,fun p hp z=>?_⟩
  · obtain ⟨v,q⟩:=I.cell x c e
    exact absurd (qAb q.lt (by rw [z]; exact hb)) (qBy _)
  · exact absurd (qAb (Heap.lt_size (I.pin p hp).1) (by rw [z]; exact hb)) (qBy _)
structure Turn (P:Program) (w:World) (K:qA1) (tg:Expr) (J:It) (fp:List Addr) (it:Addr) (tn:Nat → Heap → Prop):Prop where
  mem:it ∈ fp
  obj:∀ i h,tn i h → ∀ b ∈ fp,∃ o,h.get? b = some o ∧ ∀ v,o.data ≠ .cell v
  keep:∀ i h h',tn i h → (∀ b ∈ fp,∀ o,h.get? b = some o → h'.get? b = some o) → tn i h'
  item:∀ (X:Cx),X.prog = P → X.w = w → X.K = K → X.calm = true → ∀ (i:Nat) (pins:List (Addr × Obj)) (s:Shared) (σ:St) (H:Hp) (E:Value → Shared → Prop),Inv X pins σ H s → (∀ b ∈ fp,FpOk X pins H b) → tn i s.heap → J.go i H →
    wpAny (model P w) X.A (pyNext (.ref it)) (fun r s1=>∃ u,r = some u ∧
      wpAny (model P w) X.A (letOwnedTupleGo tg (.ref it) u) (fun _ s2=>∃ x H',Inv X pins σ H' s2 ∧ RelV x u ∧ J.yld i H x H' ∧ tn (i + 1) s2.heap ∧ ∀ b ∈ fp,H' b = none) E s1) E s
  done:∀ (X:Cx),X.prog = P → X.w = w → X.K = K → X.calm = true → ∀ (i:Nat) (pins:List (Addr × Obj)) (s:Shared) (σ:St) (H:Hp) (E:Value → Shared → Prop),Inv X pins σ H s → (∀ b ∈ fp,FpOk X pins H b) → tn i s.heap → J.stop i H →
    wpAny (model P w) X.A (pyNext (.ref it)) (fun r s1=>r = none ∧ Inv X pins σ H s1) E s
  self:∀ (A:Around) (i:Nat) (s:Shared) (Q:Value → Shared → Prop) (E:Value → Shared → Prop),tn i s.heap → Q (.ref it) s → wpAny (model P w) A (pyIter (.ref it)) Q E s
abbrev TI:=St → Hp → (It → Hp → Prop) → Prop
def PIE (X:Cx) (pins:List (Addr × Obj)) (σ:St) (tg:Expr) (R:It → Hp → Prop) (itv:Value) (s2:Shared):Prop :=
  ∃ (it:Addr) (fp:List Addr) (tn:Nat → Heap → Prop) (J:It) (H':Hp),itv = .ref it ∧ Inv X pins σ H' s2 ∧ Turn X.prog X.w X.K tg J fp it tn ∧ tn 0 s2.heap ∧ (∀ b ∈ fp,FpOk X pins H' b) ∧ R J H'
def PI (X:Cx) (tg iter:Expr) (wi:TI):Prop :=
  ∀ (pins:List (Addr × Obj)) (s:Shared) (σ:St) (H:Hp) (R:It → Hp → Prop),Inv X pins σ H s → wi σ H R →
    wpAny (model X.prog X.w) X.A (eval iter X.env) (fun v s1=>wpAny (model X.prog X.w) X.A (pyIter v) (PIE X pins σ tg R) X.xe s1) X.xe s
theorem zQU {M:Model} {A:Around} {E:Value → Shared → Prop} {s:Shared} {tg:Expr} {it:Addr} {u:Value} {o:Obj} {n:String} {vs:Array Value} {Q:Unit → Shared → Prop} (ho:s.heap.get? it = some o) (hc:o.cls = .type n) (hd:o.data = .fields vs)
    (hn:["enumerate","zip","dict_itemiterator","dict_reverseitemiterator","odict_iterator","itertools.zip_longest","itertools.pairwise"].contains n = false) (hQ:Q () s):wpAny M A (letOwnedTupleGo tg (.ref it) u) Q E s:=by
  unfold letOwnedTupleGo
  cases tg <;> first
    | exact wpAny_pure hQ
    | (cases u <;> first
        | exact wpAny_pure hQ
        | (refine wpAny_bind (wpAny_load ho ?_)
           rw [hc,hd]
           show wpAny M A (if (["enumerate","zip","dict_itemiterator","dict_reverseitemiterator","odict_iterator","itertools.zip_longest","itertools.pairwise"].contains n && vs[0]? == some (rawInt _)) = true then _ else _) Q E s
           rw [if_neg (by intro h; rw [hn,Bool.false_and] at h; cases h)]
           exact wpAny_pure hQ))
noncomputable def Itl (K:qA1) (a:Addr):It :=
  ⟨fun i H=>∃ xs x,SqL K H a xs ∧ xs[i]? = some x,fun i H x H'=>H' = H ∧ ∀ xs,SqL K H a xs → xs[i]? = some x,fun i H=>∃ xs,SqL K H a xs ∧ xs.length ≤ i⟩
noncomputable def Itt (K:qA1) (a:Addr):It :=
  ⟨fun i H=>∃ xs x,SqT K H a xs ∧ xs[i]? = some x,fun i H x H'=>H' = H ∧ ∀ xs,SqT K H a xs → xs[i]? = some x,fun i H=>∃ xs,SqT K H a xs ∧ xs.length ≤ i⟩
noncomputable def Itr (lo:Int) (n:Nat):It:=⟨fun i _=>i < n,fun i H x H'=>H' = H ∧ x = .int (lo + i),fun i _=>n ≤ i⟩
theorem zND {P:Program} {w:World} {K:qA1} {tg:Expr} (a it:Addr):Turn P w K tg (Itl K a) [it] it (fun i h=>h.IsListIter it a i) where
  mem:=by simp
  obj:=fun i h st b hb=>by
    have e:b = it:=by simpa using hb
    subst e
    obtain ⟨o,e,c,d⟩:=st
    exact ⟨o,e,fun v z=>by rw [d] at z; cases z⟩
  keep:=fun i h h' st k=>st.at fun o e=>k it (by simp) o e
  item:=by
    intro X hP hw hK hc i pins s σ H E I hf st hg
    subst hP hw hK
    obtain ⟨xs,x,hq,hx⟩:=hg
    obtain ⟨its,rv,p,hz⟩:=I.list hq
    obtain ⟨u,hu,ru⟩:=rv.get hx
    obtain ⟨f0,f1,f2,f3,f4,f5⟩:=hf it (by simp)
    refine wpAny_pyNext_list_item st p.isList (x:=u) (by simpa using hu) fun h' st' sb=>?_
    have I1:Inv X pins σ H { s with heap:=h' }:=I.turned (t':=s.toks) (fun b o hb e=>(sb.2 b hb).trans e) f0 f1 f3 f4 f5
    obtain ⟨o,e,c,d⟩:=id st'
    exact ⟨u,rfl,zQU (s:={ s with heap:=h' }) e c d (by decide) ⟨x,H,I1,ru,⟨rfl,fun ys hy=>by rw [I.list_inj hy hq]; exact hx⟩,st',fun b hb=>(hf b hb).1⟩⟩
  done:=by
    intro X hP hw hK hc i pins s σ H E I hf st hg
    subst hP hw hK
    obtain ⟨xs,hq,hx⟩:=hg
    obtain ⟨its,rv,p,hz⟩:=I.list hq
    obtain ⟨f0,f1,f2,f3,f4,f5⟩:=hf it (by simp)
    have hl:=rv.length
    exact wpAny_pyNext_list_end (I.ok.hd hc) st p.isList (by simp; omega) fun h' eb=>⟨rfl,I.turned (t':=s.toks) (fun b o hb e=>eb b o hb e) f0 f1 f3 f4 f5⟩
  self:=fun _ _ _ _ _ st h=>wpAny_pyIter_listiter st h
theorem zMF {P:Program} {w:World} {K:qA1} {tg:Expr} (a it:Addr):Turn P w K tg (Itt K a) [it] it (fun i h=>h.IsTupleIter it a i) where
  mem:=by simp
  obj:=fun i h st b hb=>by
    have e:b = it:=by simpa using hb
    subst e
    obtain ⟨o,e,c,d⟩:=st
    exact ⟨o,e,fun v z=>by rw [d] at z; cases z⟩
  keep:=fun i h h' st k=>st.at fun o e=>k it (by simp) o e
  item:=by
    intro X hP hw hK hc i pins s σ H E I hf st hg
    subst hP hw hK
    obtain ⟨xs,x,hq,hx⟩:=hg
    obtain ⟨its,rv,p,hz⟩:=I.tuple hq
    obtain ⟨u,hu,ru⟩:=rv.get hx
    obtain ⟨f0,f1,f2,f3,f4,f5⟩:=hf it (by simp)
    refine wpAny_pyNext_tuple_item st (show s.heap.IsTuple a its.toArray from p) (x:=u) (by simpa using hu) fun h' st' sb=>?_
    have I1:Inv X pins σ H { s with heap:=h' }:=I.turned (t':=s.toks) (fun b o hb e=>(sb.2 b hb).trans e) f0 f1 f3 f4 f5
    obtain ⟨o,e,c,d⟩:=id st'
    exact ⟨u,rfl,zQU (s:={ s with heap:=h' }) e c d (by decide) ⟨x,H,I1,ru,⟨rfl,fun ys hy=>by rw [I.tuple_inj hy hq]; exact hx⟩,st',fun b hb=>(hf b hb).1⟩⟩
  done:=by
    intro X hP hw hK hc i pins s σ H E I hf st hg
    subst hP hw hK
    obtain ⟨xs,hq,hx⟩:=hg
    obtain ⟨its,rv,p,hz⟩:=I.tuple hq
    obtain ⟨f0,f1,f2,f3,f4,f5⟩:=hf it (by simp)
    have hl:=rv.length
    exact wpAny_pyNext_tuple_end (I.ok.hd hc) st (show s.heap.IsTuple a its.toArray from p) (by simp; omega) fun h' eb=>⟨rfl,I.turned (t':=s.toks) (fun b o hb e=>eb b o hb e) f0 f1 f3 f4 f5⟩
  self:=fun _ _ _ _ _ st h=>wpAny_pyIter_tupleiter st h
theorem zMG {P:Program} {w:World} {K:qA1} {tg:Expr} (it:Addr) (lo:Int) (n:Nat):Turn P w K tg (Itr lo n) [it] it (fun i h=>IsRangeIter h it (lo + (i:Nat) * 1) ((n:Int) - (i:Nat)) 1) where
  mem:=by simp
  obj:=fun i h st b hb=>by
    have e:b = it:=by simpa using hb
    subst e
    exact ⟨_,st,fun v z=>by
      have z':Data.fields _ = Data.cell v:=z
      cases z'⟩
  keep:=fun i h h' st k=>k it (by simp) _ st
  item:=by
    intro X hP hw hK hc i pins s σ H E I hf st hg
    subst hP hw hK
    obtain ⟨f0,f1,f2,f3,f4,f5⟩:=hf it (by simp)
    have W:=Walks.range (prog:=X.prog) (w:=X.w) (I.ok.hd hc) it lo 1 n
    refine W.item i s _ _ hg st fun v h' tk hv st' kk=>?_
    obtain ⟨t,rfl⟩:=hv
    have I1:Inv X pins σ H { s with heap:=h',toks:=tk }:=I.turned (fun b o hb e=>kk b o (by simpa using hb) e) f0 f1 f3 f4 f5
    refine ⟨_,rfl,zQU (s:={ s with heap:=h',toks:=tk }) (n:="range_iterator") st' rfl rfl (by decide) ⟨.int (lo + i),H,I1,⟨t,?_⟩,⟨rfl,rfl⟩,st',fun b hb=>(hf b hb).1⟩⟩
    rw [qGd]
  done:=by
    intro X hP hw hK hc i pins s σ H E I hf st hg
    subst hP hw hK
    obtain ⟨f0,f1,f2,f3,f4,f5⟩:=hf it (by simp)
    exact wpAny_pyNext_range_end (I.ok.hd hc) st (by have:n ≤ i:=hg; omega) fun h' eb=>⟨rfl,I.turned (t':=s.toks) (fun b o hb e=>eb b o hb e) f0 f1 f3 f4 f5⟩
  self:=fun _ _ _ _ _ st h=>wpAny_pyIter_rangeiter st h
end L2
namespace L2
open PySem PySem.Spec PyProof.Rows
section
variable {X:Cx} {tg:Expr}
theorem zQ5 {pins:List (Addr × Obj)} {σ:St} {H:Hp} {s:Shared} {R:It → Hp → Prop} {E:Value → Shared → Prop} {lo hi:Int} {t u v:Tok} {tk:Nat} (I:Inv X pins σ H s) (h1:-(2 ^ 62) ≤ lo) (h2:lo < 2 ^ 62) (h3:-(2 ^ 62) ≤ hi) (h4:hi < 2 ^ 62)
    (q:R (Itr lo (hi - lo).toNat) H):wpAny (model X.prog X.w) X.A (pyIter (.ref s.heap.objs.size)) (PIE X pins σ tg R) E { s with heap:=s.heap.push { cls:=.type "range",data:=.fields #[.int lo t,.int hi u,.int 1 v] },toks:=tk }:=by
  refine wpAny_pyIter_range (IsRange.new ..) (small_one h1 h2 h3 h4) ?_
  have I1:Inv X pins σ H { s with heap:=s.heap.push { cls:=.type "range",data:=.fields #[.int lo t,.int hi u,.int 1 v] },toks:=tk }:=I.kept fun b o e=>Heap.get?_push_of_some _ e
  refine ⟨(s.heap.push { cls:=.type "range",data:=.fields #[.int lo t,.int hi u,.int 1 v] }).objs.size,[(s.heap.push { cls:=.type "range",data:=.fields #[.int lo t,.int hi u,.int 1 v] }).objs.size],_,_,H,rfl,
    I1.kept (t':=tk) fun b o e=>Heap.get?_push_of_some _ e,zMG _ lo (hi - lo).toNat,?_,fun b hb=>?_,q⟩
  · have e1:lo + ((0:Nat):Int) * 1 = lo:=by simp
    have e2:(((hi - lo).toNat:Nat):Int) - ((0:Nat):Int) = Builtin.Range.rangeSize lo hi 1:=by rw [rangeSize_one]; split <;> omega
    show IsRangeIter _ _ (lo + ((0:Nat):Int) * 1) ((((hi - lo).toNat:Nat):Int) - ((0:Nat):Int)) 1
    rw [e1,e2]
    exact Heap.get?_push_size _ rfl
  · have e:b = (s.heap.push { cls:=.type "range",data:=.fields #[.int lo t,.int hi u,.int 1 v] }).objs.size:=by simpa using hb
    subst e
    exact I1.fpOk (qA7 _) (I1.hok.fresh (qA7 _))
def zX2 (ta:TA):TI:=fun σ H R=>ta σ H fun vs H1=>∃ j:Int,vs = [.int j] ∧ -(2 ^ 62) ≤ j ∧ j < 2 ^ 62 ∧ R (Itr 0 j.toNat) H1
theorem zFZ {a:Expr} {ta:TA} {p pos:Pos} (hg:Gl X "range") (hm:X.mg "range" = none) (ha:PA X [a] ta) (hs:starEach [a] X.env = [(false,eval a X.env)]:=by rfl):PI X tg (.Call (.Name "range" p) [a] [] pos) (zX2 ta):=by
  intro pins s σ H R I h
  refine Call_ (zHJ I hg hm boot_range (qC7 (thn (ha pos pins s σ H _ I h) fun us s1 ⟨vs,H1,I1,r1,q1⟩=>?_) hs rfl))
  obtain ⟨j,e,q1,q2,q⟩:=q1
  subst e
  cases r1 with
  | cons r rr =>
    cases rr
    obtain ⟨t,rfl⟩:=r
    exact call_range_1 (zQ5 I1 (by omega) (by omega) q1 q2 (by simpa using q))
noncomputable def tFor (wi:TI) (g:TG) (tb:TS):TS:=fun D σ H=>wi σ H fun J H1=>∃ W:Nat → Nat → St → Hp → Prop,(∃ m,W 0 m σ H1) ∧ ∀ i m σ H,W i m σ H →
  (J.stop i H ∧ D.nx σ H) ∨ (J.go i H ∧ ∃ N:St → Hp → Prop,(∀ σ' H',N σ' H' → ∃ m',m' < m ∧ W (i + 1) m' σ' H') ∧ ∀ x H',J.yld i H x H' → g x σ H' fun σ2 H2=>tb { D with nx:=N,ct:=N,bk:=D.nx } σ2 H2)
noncomputable def zHC (fp:List Addr) (h:Heap):List (Addr × Obj):=fp.filterMap fun b=>(h.get? b).map fun o=>(b,o)
theorem zDS {fp:List Addr} {h:Heap} {b:Addr} {o:Obj} (hb:b ∈ fp) (e:h.get? b = some o):(b,o) ∈ zHC fp h:=qEm.mpr ⟨b,hb,by rw [e]; rfl⟩
theorem zOD {fp:List Addr} {h:Heap} {p:Addr × Obj} (hp:p ∈ zHC fp h):p.1 ∈ fp ∧ h.get? p.1 = some p.2:=by
  obtain ⟨b,hb,e⟩:=qEm.mp hp
  cases q:h.get? b with
  | none=>rw [q] at e; cases e
  | some o =>
    rw [q] at e
    have e':(b,o) = p:=qAx e
    subst e'
    exact ⟨hb,q⟩
theorem Inv.pinned {pins:List (Addr × Obj)} {σ:St} {H:Hp} {s:Shared} {fp:List Addr} (I:Inv X pins σ H s) (hf:∀ b ∈ fp,FpOk X pins H b) (ho:∀ b ∈ fp,∃ o,s.heap.get? b = some o ∧ ∀ v,o.data ≠ .cell v):Inv X (pins ++ zHC fp s.heap) σ H s :=
  I.pins_of fun p hp=>(qBr.mp hp).elim (fun z=>I.pin p (qAu _ z)) fun z=>by
    obtain ⟨hb,e⟩:=zOD z
    obtain ⟨f0,f1,f2,_⟩:=hf p.1 hb
    obtain ⟨o,e',d⟩:=ho p.1 hb
    rw [e] at e'; cases e'
    exact ⟨e,f0,f1,f2,d⟩
theorem Inv.unpinned {pins pl:List (Addr × Obj)} {σ:St} {H:Hp} {s:Shared} (I:Inv X (pins ++ pl) σ H s):Inv X pins σ H s:=I.pins_of fun p hp=>I.pin p (qAu _ (qD7 _ hp))
theorem zW6 {iter:Expr} {body:List Stmt} {wi:TI} {g:TG} {tb:TS} {pos:Pos} (hp:PassesOwn (model X.prog X.w) X.A X.env X.xe) (hc:X.calm = true) (hi:PI X tg iter wi) (hg:PG X tg g) (hb:PSs X body tb)
    (hs:∀ x,foldedSetIterable iter X.env x = pure x:=by intro _; rfl):PS X (.For tg iter body [] pos) (tFor wi g tb):=by
  intro pins s σ H D I h
  refine wpAny_For (thn (hi pins s σ H _ I h) fun v s1 h1=>thn h1 fun itv s2 h2=>?_) hs
  obtain ⟨it,fp,tn,J,H2,e,I2,T,st2,f2,W,⟨m0,w0⟩,turn⟩:=h2
  subst e
  have stat:∀ {H':Hp},(∀ b ∈ fp,H' b = none) → ∀ b ∈ fp,FpOk X pins H' b:=fun hn b hb=>⟨hn b hb,(f2 b hb).2⟩
  refine codeAny_forLoop_any (fun n s'=>∃ i σ' H',Inv X pins σ' H' s' ∧ tn i s'.heap ∧ (∀ b ∈ fp,H' b = none) ∧ W i n σ' H') ?_ m0 ⟨0,σ,H2,I2,st2,fun b hb=>(f2 b hb).1,w0⟩
  rintro n s3 ⟨i,σ3,H3,I3,st3,fr3,w3⟩
  rcases turn i n σ3 H3 w3 with ⟨stop,qn⟩ | ⟨go,N,hN,step⟩
  · refine wpAny_passesOwn hp (thn (T.done X rfl rfl rfl hc i pins s3 σ3 H3 X.xe I3 (stat fr3) st3 stop) fun r s4 ⟨hr,I4⟩=>?_)
    subst hr
    exact wpAny_execs_nil ⟨σ3,H3,I4,qn⟩
  · refine wpAny_passesOwn hp (thn (T.item X rfl rfl rfl hc i pins s3 σ3 H3 X.xe I3 (stat fr3) st3 go) fun r s4 ⟨u,hr,h4⟩=>?_)
    subst hr
    refine wpAny_passesOwn hp (thn h4 fun _ s5 ⟨x,H5,I5,r5,y5,st5,fr5⟩=>?_)
    have I5':=I5.pinned (stat fr5) (T.obj _ _ st5)
    refine wpAny_passesOwn hp (thn (hg _ s5 σ3 H5 x u _ I5' r5 (step x H5 y5)) fun _ s6 ⟨σ6,H6,I6,q6⟩=>?_)
    refine wpAny_passesOwn hp (thn (hb _ s6 σ6 H6 _ I6 q6) fun f s7 q7=>?_)
    have again:∀ {σ7:St} {H7:Hp},Inv X (pins ++ zHC fp s5.heap) σ7 H7 s7 → N σ7 H7 → ∃ m,m < n ∧ ∃ i σ' H',Inv X pins σ' H' s7 ∧ tn i s7.heap ∧ (∀ b ∈ fp,H' b = none) ∧ W i m σ' H':=fun {σ7 H7} I7 n7=>by
      obtain ⟨m',hm,w7⟩:=hN σ7 H7 n7
      refine ⟨m',hm,i + 1,σ7,H7,I7.unpinned,T.keep _ _ _ st5 fun b hb o e=>(I7.pin (b,o) (qAu _ (qAu _ (zDS hb e)))).1,fun b hb=>?_,w7⟩
      obtain ⟨o,e,d⟩:=T.obj _ _ st5 b hb
      exact (I7.pin (b,o) (qAu _ (qAu _ (zDS hb e)))).2.1
    cases f with
    | next=>obtain ⟨σ7,H7,I7,n7⟩:=q7; exact again I7 n7
    | cont=>obtain ⟨σ7,H7,I7,n7⟩:=q7; exact again I7 n7
    | brk=>obtain ⟨σ7,H7,I7,q7⟩:=q7; exact ⟨σ7,H7,I7.unpinned,q7⟩
    | ret v=>obtain ⟨x7,σ7,H7,I7,r7,q7⟩:=q7; exact ⟨x7,σ7,H7,I7.unpinned,r7,q7⟩
end
end L2
namespace L2
open PySem PySem.Spec PyProof.Rows
abbrev R2:=V → V → Hp → VK → Prop
def OpR (X:Cx) (f:Value → Value → Sem Value) (r:R2):Prop :=
  ∀ (pins:List (Addr × Obj)) (s:Shared) (σ:St) (H:Hp) (x y:V) (v u:Value) (Q:VK),Inv X pins σ H s → RelV x v → RelV y u → r x y H Q →
    wpAny (model X.prog X.w) X.A (f v u) (EP X pins σ Q) X.xe s
def zCK (X:Cx) (f:Value) (r:List V → Hp → VK → Prop):Prop :=
  ∀ (pins:List (Addr × Obj)) (s:Shared) (σ:St) (H:Hp) (xs:List V) (us:List Value) (Q:VK),Inv X pins σ H s → Vals xs us → r xs H Q →
    wpAny (model X.prog X.w) X.A (call f us) (EP X pins σ Q) X.xe s
def TruR (X:Cx) (r:V → Hp → (Bool → Hp → Prop) → Prop):Prop :=
  ∀ (pins:List (Addr × Obj)) (s:Shared) (σ:St) (H:Hp) (x:V) (v:Value) (Q:Bool → Hp → Prop),Inv X pins σ H s → RelV x v → r x H Q →
    wpAny (model X.prog X.w) X.A (truthy v) (TP X pins σ Q) X.xe s
noncomputable def tOp (r:R2) (ta tb:TE):TE:=fun σ H Q=>ta σ H fun x H1=>tb σ H1 fun y H2=>r x y H2 Q
noncomputable def rI (C:Int → Int → Prop) (g:Int → Int → V):R2:=fun x y H Q=>∃ i j,x = .int i ∧ y = .int j ∧ C i j ∧ Q (g i j) H
noncomputable def rI0 (g:Int → Int → V):R2:=fun x y H Q=>∃ i j,x = .int i ∧ y = .int j ∧ Q (g i j) H
section
variable {X:Cx} {a b c:Expr} {ta tb tc:TE} {pos:Pos}
theorem binT (ha:PE X a ta) (hb:PE X b tb) {pins:List (Addr × Obj)} {s:Shared} {σ:St} {H:Hp} {R:V → V → Hp → Prop} (I:Inv X pins σ H s)
    (h:ta σ H fun x H1=>tb σ H1 fun y H2=>R x y H2) {Q:Value → Shared → Prop} {f:Value → Value → Sem Value}
    (hf:∀ v u s2 x y H2,Inv X pins σ H2 s2 → RelV x v → RelV y u → R x y H2 → wpAny (model X.prog X.w) X.A (f v u) Q X.xe s2) :
    wpAny (model X.prog X.w) X.A (eval a X.env) (fun v s₁=>wpAny (model X.prog X.w) X.A (eval b X.env) (fun u s₂=>wpAny (model X.prog X.w) X.A (f v u) Q X.xe s₂) X.xe s₁) X.xe s:=by
  refine thn (ha pins s σ H _ I h) fun v s1 ⟨x,H1,I1,r1,q1⟩=>?_
  refine thn (hb pins s1 σ H1 _ I1 q1) fun u s2 ⟨y,H2,I2,r2,q2⟩=>?_
  exact hf v u s2 x y H2 I2 r1 r2 q2
theorem zAI {op:Operator} {r:R2} (ho:OpR X (binaryOp op) r) (ha:PE X a ta) (hb:PE X b tb):PE X (.BinOp a op b pos) (tOp r ta tb):=by
  intro pins s σ H Q I h
  exact wpAny_BinOp (binT ha hb I h fun v u s2 x y H2 I2 rx ry q=>ho pins s2 σ H2 x y v u Q I2 rx ry q)
theorem opI {f:Value → Value → Sem Value} {C:Int → Int → Prop} {g:Int → Int → Int}
    (rule:∀ (i j:Int) (t u:Tok) (s:Shared) (Q:Value → Shared → Prop) (E:Value → Shared → Prop),C i j → Q (.int (g i j) s.toks) { s with toks:=s.toks + 1 } → wpAny (model X.prog X.w) X.A (f (.int i t) (.int j u)) Q E s) :
    OpR X f (rI C fun i j=>.int (g i j)):=by
  intro pins s σ H x y v u Q I rx ry h
  obtain ⟨i,j,rfl,rfl,hc,q⟩:=h
  obtain ⟨t,rfl⟩:=rx
  obtain ⟨t',rfl⟩:=ry
  exact rule i j t t' s _ _ hc ⟨.int (g i j),H,I.tok _,⟨_,rfl⟩,q⟩
theorem opI0 {f:Value → Value → Sem Value} {g:Int → Int → Int}
    (rule:∀ (i j:Int) (t u:Tok) (s:Shared) (Q:Value → Shared → Prop) (E:Value → Shared → Prop),Q (.int (g i j) s.toks) { s with toks:=s.toks + 1 } → wpAny (model X.prog X.w) X.A (f (.int i t) (.int j u)) Q E s) :
    OpR X f (rI0 fun i j=>.int (g i j)):=by
  intro pins s σ H x y v u Q I rx ry h
  obtain ⟨i,j,rfl,rfl,q⟩:=h
  obtain ⟨t,rfl⟩:=rx
  obtain ⟨t',rfl⟩:=ry
  exact rule i j t t' s _ _ ⟨.int (g i j),H,I.tok _,⟨_,rfl⟩,q⟩
theorem opB0 {f:Value → Value → Sem Value} {g:Int → Int → Bool}
    (rule:∀ (i j:Int) (t u:Tok) (s:Shared) (Q:Value → Shared → Prop) (E:Value → Shared → Prop),Q (.bool (g i j)) s → wpAny (model X.prog X.w) X.A (f (.int i t) (.int j u)) Q E s) :
    OpR X f (rI0 fun i j=>.bl (g i j)):=by
  intro pins s σ H x y v u Q I rx ry h
  obtain ⟨i,j,rfl,rfl,q⟩:=h
  obtain ⟨t,rfl⟩:=rx
  obtain ⟨t',rfl⟩:=ry
  exact rule i j t t' s _ _ ⟨.bl (g i j),H,I,rfl,q⟩
def CMul (i j:Int):Prop:=(-(2 ^ 64) < i ∧ i < 2 ^ 64) ∨ (-(2 ^ 64) < j ∧ j < 2 ^ 64)
theorem CMul.ok {i j:Int} (h:CMul i j):IntMulOk i j:=by
  rcases h with ⟨h1,h2⟩ | ⟨h1,h2⟩
  · exact .of_left (intBits_le_64 h1 h2)
  · exact .of_right (intBits_le_64 h1 h2)
theorem zWI:OpR X (binaryOp .Add) (rI0 fun i j=>.int (i + j)):=opI0 fun _ _ _ _ _ _ _ q=>add_int q
theorem zWD:OpR X (binaryOp .Sub) (rI0 fun i j=>.int (i - j)):=opI0 fun _ _ _ _ _ _ _ q=>sub_int q
theorem zWF:OpR X (binaryOp .Mod) (rI (fun _ j=>0 < j) fun i j=>.int (i % j)):=opI fun i j _ _ _ _ _ hc q=>by
  have h1:(0:Int) < j:=hc
  exact mod_int' (by omega) (by rw [Int.fmod_eq_emod_of_nonneg i (by omega)]; exact q)
end
noncomputable def scal:V → V → Bool
  | .non,.non=>true | .non,.int _=>true | .int _,.non=>true | .non,.bl _=>true | .bl _,.non=>true | .non,.str _=>true | .str _,.non=>true
  | .int _,.int _=>true | .bl _,.bl _=>true | .str _,.str _=>true | .byt _,.byt _=>true
  | .int _,.str _=>true | .str _,.int _=>true | .bl _,.str _=>true | .str _,.bl _=>true
  | _,_=>false
def rEq:R2:=fun x y H Q=>scal x y = true ∧ Q (.bl (decide (x = y))) H
def rNe:R2:=fun x y H Q=>scal x y = true ∧ Q (.bl (!decide (x = y))) H
theorem zP5 {i j:Int}:decide (V.int i = V.int j) = (i == j):=by
  rw [qCo]
  simp
theorem dec_bl {i j:Bool}:decide (V.bl i = V.bl j) = (i == j):=by
  rw [qCo]
  simp
theorem zP4 {i j:Str}:decide (V.str i = V.str j) = (i == j):=by
  rw [qCo]
  simp
theorem zP6 {i j:Array UInt8}:decide (V.byt i = V.byt j) = (i.toList == j.toList):=by
  rw [qCo]
  cases i
  cases j
  simp
section
variable {X:Cx} {a b c:Expr} {ta tb tc:TE} {pos:Pos}
theorem fin_bl {pins:List (Addr × Obj)} {σ:St} {H:Hp} {s:Shared} {Q:VK} {k k':Bool} (I:Inv X pins σ H s) (q:Q (.bl k) H) (e:k = k'):EP X pins σ Q (.bool k') s:=by
  subst e
  exact ⟨.bl k,H,I,rfl,q⟩
theorem zY4:OpR X (compareOp .Eq) rEq:=by
  intro pins s σ H x y v u Q I rx ry h
  obtain ⟨hs,q⟩:=h
  cases x with
  | non =>
    cases rx
    cases y with
    | non=>cases ry; exact qFg (fin_bl I q (by simp))
    | bl j=>cases ry; exact qFh (fin_bl I q (by simp))
    | int j=>obtain ⟨t',rfl⟩:=ry; exact qFs (fin_bl I q (by simp))
    | str j=>obtain ⟨t',rfl⟩:=ry; exact qFt (fin_bl I q (by simp))
    | _=>exact absurd (show false = true from hs) qAe
  | bl i =>
    cases rx
    cases y with
    | non=>cases ry; exact qFi (fin_bl I q (by simp))
    | bl j=>cases ry; exact eq_bool (fin_bl I q dec_bl)
    | str j=>obtain ⟨t',rfl⟩:=ry; exact qFj (fin_bl I q (by simp))
    | _=>exact absurd (show false = true from hs) qAe
  | int i =>
    obtain ⟨t,rfl⟩:=rx
    cases y with
    | non=>cases ry; exact qFu (fin_bl I q (by simp))
    | int j=>obtain ⟨t',rfl⟩:=ry; exact eq_int (fin_bl I q zP5)
    | str j=>obtain ⟨t',rfl⟩:=ry; exact qFv (fin_bl I q (by simp))
    | _=>exact absurd (show false = true from hs) qAe
  | str i =>
    obtain ⟨t,rfl⟩:=rx
    cases y with
    | non=>cases ry; exact qFw (fin_bl I q (by simp))
    | bl j=>cases ry; exact qFk (fin_bl I q (by simp))
    | int j=>obtain ⟨t',rfl⟩:=ry; exact qFx (fin_bl I q (by simp))
    | str j=>obtain ⟨t',rfl⟩:=ry; exact eq_str (fin_bl I q zP4)
    | _=>exact absurd (show false = true from hs) qAe
  | byt i =>
    obtain ⟨t,rfl⟩:=rx
    cases y with
    | byt j=>obtain ⟨t',rfl⟩:=ry; exact PySem.W.eq_bytes (fin_bl I q zP6)
    | _=>exact absurd (show false = true from hs) qAe
  | _=>cases y <;> exact absurd (show false = true from hs) qAe
theorem zY1:OpR X (compareOp .NotEq) rNe:=by
  intro pins s σ H x y v u Q I rx ry h
  obtain ⟨hs,q⟩:=h
  cases x with
  | non =>
    cases rx
    cases y with
    | non=>cases ry; exact qFl (fin_bl I q (by simp))
    | bl j=>cases ry; exact qFm (fin_bl I q (by simp))
    | int j=>obtain ⟨t',rfl⟩:=ry; exact qFy (fin_bl I q (by simp))
    | str j=>obtain ⟨t',rfl⟩:=ry; exact qFz (fin_bl I q (by simp))
    | _=>exact absurd (show false = true from hs) qAe
  | bl i =>
    cases rx
    cases y with
    | non=>cases ry; exact qFn (fin_bl I q (by simp))
    | bl j=>cases ry; exact ne_bool (fin_bl I q (congrArg not dec_bl))
    | str j=>obtain ⟨t',rfl⟩:=ry; exact qFo (fin_bl I q (by simp))
    | _=>exact absurd (show false = true from hs) qAe
  | int i =>
    obtain ⟨t,rfl⟩:=rx
    cases y with
    | non=>cases ry; exact qG0 (fin_bl I q (by simp))
    | int j=>obtain ⟨t',rfl⟩:=ry; exact ne_int (fin_bl I q (congrArg not zP5))
    | str j=>obtain ⟨t',rfl⟩:=ry; exact qG1 (fin_bl I q (by simp))
    | _=>exact absurd (show false = true from hs) qAe
  | str i =>
    obtain ⟨t,rfl⟩:=rx
    cases y with
    | non=>cases ry; exact qG2 (fin_bl I q (by simp))
    | bl j=>cases ry; exact qFp (fin_bl I q (by simp))
    | int j=>obtain ⟨t',rfl⟩:=ry; exact qG3 (fin_bl I q (by simp))
    | str j=>obtain ⟨t',rfl⟩:=ry; exact ne_str (fin_bl I q (congrArg not zP4))
    | _=>exact absurd (show false = true from hs) qAe
  | byt i =>
    obtain ⟨t,rfl⟩:=rx
    cases y with
    | byt j=>obtain ⟨t',rfl⟩:=ry; exact PySem.W.ne_bytes (fin_bl I q (congrArg not zP6))
    | _=>exact absurd (show false = true from hs) qAe
  | _=>cases y <;> exact absurd (show false = true from hs) qAe
theorem zY2:OpR X (compareOp .Lt) (rI0 fun i j=>.bl (decide (i < j))):=opB0 fun _ _ _ _ _ _ _ q=>lt_int q
theorem zY3:OpR X (compareOp .LtE) (rI0 fun i j=>.bl (decide (i ≤ j))):=opB0 fun _ _ _ _ _ _ _ q=>le_int q
theorem zOB:OpR X (compareOp .In) (fun x y H Q=>∃ i j,x = .str i ∧ y = .str j ∧ Q (.bl (!(Builtin.Str.occurrences j i 0 j.length 1).isEmpty)) H):=by
  intro pins s σ H x y v u Q I rx ry h
  obtain ⟨i,j,rfl,rfl,q⟩:=h
  obtain ⟨t,rfl⟩:=rx
  obtain ⟨t',rfl⟩:=ry
  exact in_str (fin_bl I q rfl)
theorem zOA:OpR X (compareOp .Is) (fun x y H Q=>y = .non ∧ Q (.bl (decide (x = .non))) H):=by
  intro pins s σ H x y v u Q I rx ry h
  obtain ⟨rfl,q⟩:=h
  cases ry
  refine is_none_gen (fin_bl I q ?_)
  cases x <;> first
    | (cases rx; rfl)
    | (obtain ⟨t,rfl⟩:=rx; rfl)
theorem zTW:OpR X (compareOp .IsNot) (fun x y H Q=>y = .non ∧ Q (.bl (!decide (x = .non))) H):=by
  intro pins s σ H x y v u Q I rx ry h
  obtain ⟨rfl,q⟩:=h
  cases ry
  refine isnot_none_gen (fin_bl I q ?_)
  cases x <;> first
    | (cases rx; rfl)
    | (obtain ⟨t,rfl⟩:=rx; rfl)
theorem zB1 (b:Expr) {op:CmpOp} (h:op ≠ .In:=by decide) (h2:op ≠ .NotIn:=by decide):behindInMarks op b = false:=by
  have e1:(op == CmpOp.In) = false:=by cases op <;> first | rfl | exact absurd rfl h
  have e2:(op == CmpOp.NotIn) = false:=by cases op <;> first | rfl | exact absurd rfl h2
  cases b <;> simp [behindInMarks,e1,e2]
theorem zIA {op:CmpOp} {r:R2} (ho:OpR X (compareOp op) r) (ha:PE X a ta) (hb:PE X b tb) (hm:behindInMarks op b = false):PE X (.Compare a [op] [b] pos) (tOp r ta tb):=by
  intro pins s σ H Q I h
  exact wpAny_Compare1 (binT ha hb I h fun v u s2 x y H2 I2 rx ry q=>ho pins s2 σ H2 x y v u Q I2 rx ry q) hm
def TruV (K:qA1) (x:V) (H:Hp) (k:Bool):Prop :=
  match x with
  | .non=>k = false
  | .bl b=>k = b
  | .int i=>k = (i != 0)
  | .str y=>y.length ≤ sizeLine ∧ k = ((y.length:Int) != 0)
  | .byt y=>y.size ≤ sizeLine ∧ k = ((y.size:Int) != 0)
  | .ref p=>(∃ xs,SqL K H p xs ∧ k = !xs.isEmpty) ∨ (∃ xs,SqT K H p xs ∧ k = !xs.isEmpty) ∨ ∃ kvs,H p = some (.dK kvs) ∧ k = !kvs.isEmpty
  | _=>False
theorem zMT {κ:Type} {kvs:List (κ × V)} {vs:List (κ × Value)} (r:KV kvs vs):(!vs.isEmpty) = !kvs.isEmpty:=by
  cases r <;> rfl
theorem zHL {xs:List V} {its:List Value} (r:Vals xs its):(!its.toArray.isEmpty) = !xs.isEmpty:=by
  cases r <;> simp
theorem zGB:(sizeLine:Nat) < 2 ^ 63:=by rw [sizeLine_eq]; decide
theorem zVB:TruR X (fun x H Q=>∃ k,TruV X.K x H k ∧ Q k H):=by
  intro pins s σ H x v Q I rx h
  obtain ⟨k,e,q⟩:=h
  have hl:=zGB
  have hs:sizeLine = 16777216:=sizeLine_eq
  cases x with
  | non =>
    cases rx
    have e':k = false:=e
    subst e'
    exact truthy_none ⟨H,I,q⟩
  | bl b =>
    cases rx
    have e':k = b:=e
    subst e'
    exact wpAny_truthy_bool ⟨H,I,q⟩
  | int i =>
    obtain ⟨t,rfl⟩:=rx
    have e':k = (i != 0):=e
    subst e'
    exact PySem.P.truthy_int ⟨H,I,q⟩
  | str y =>
    obtain ⟨t,rfl⟩:=rx
    obtain ⟨hy,e'⟩:y.length ≤ sizeLine ∧ k = ((y.length:Int) != 0):=e
    subst e'
    exact PySem.P.truthy_str (by omega) ⟨H,I.tok _,q⟩
  | byt y =>
    obtain ⟨t,rfl⟩:=rx
    obtain ⟨hy,e'⟩:y.size ≤ sizeLine ∧ k = ((y.size:Int) != 0):=e
    subst e'
    exact PySem.W.truthy_bytes (by omega) ⟨H,I.tok _,q⟩
  | ref p =>
    cases rx
    have e':(∃ xs,SqL X.K H p xs ∧ k = !xs.isEmpty) ∨ (∃ xs,SqT X.K H p xs ∧ k = !xs.isEmpty) ∨ ∃ kvs,H p = some (.dK kvs) ∧ k = !kvs.isEmpty:=e
    rcases e' with ⟨xs,hx,e'⟩ | ⟨xs,hx,e'⟩ | ⟨kvs,hx,e'⟩
    · subst e'
      obtain ⟨its,r,pl,hz⟩:=I.list hx
      have hlen:=r.length
      exact wpAny_truthy_list pl.isList (by simp only [qAc]; omega) ⟨H,I.tok _,by rw [zHL r]; exact q⟩
    · subst e'
      obtain ⟨its,r,pl,hz⟩:=I.tuple hx
      have hlen:=r.length
      exact truthy_tuple pl (by simp only [qAc]; omega) ⟨H,I.tok _,by rw [zHL r]; exact q⟩
    · subst e'
      obtain ⟨hz,hS,vs,r,m⟩:kvs.length ≤ sizeLine ∧ (p == sysModules) = false ∧ ∃ vs,KV kvs vs ∧ s.heap.DictOf (zB6 X.prog X.w) p vs:=I.hok p _ hx
      have hlen:kvs.length = vs.length:=Paired.length r
      exact wpAny_truthy_dict hS m (by omega) ⟨H,I.tok _,by rw [zMT r]; exact q⟩
  | _=>exact (show False from e).elim
theorem zMM:OpR X (binaryOp .Add) (fun x y H Q=>∃ i j,x = .str i ∧ y = .str j ∧ i.length + j.length ≤ sizeLine ∧ Q (.str (i ++ j)) H):=by
  intro pins s σ H x y v u Q I rx ry h
  obtain ⟨i,j,rfl,rfl,hz,q⟩:=h
  obtain ⟨t,rfl⟩:=rx
  obtain ⟨t',rfl⟩:=ry
  exact add_str (fun t' tk=>⟨.str (i ++ j),H,I.tok _,⟨_,rfl⟩,q⟩) hz
theorem zEF {x:V} {us:List Value} (r:Vals [x] us):∃ u,us = [u] ∧ RelV x u:=by
  cases r with
  | cons r1 r2=>cases r2; exact ⟨_,rfl,r1⟩
theorem zT3 {x y:V} {us:List Value} (r:Vals [x,y] us):∃ u w',us = [u,w'] ∧ RelV x u ∧ RelV y w':=by
  cases r with
  | cons r1 r2 =>
    cases r2 with
    | cons r3 r4=>cases r4; exact ⟨_,_,rfl,r1,r3⟩
theorem zPG (hc:X.calm = true):zCK X (.builtin "max") (fun xs H Q=>∃ i j,xs = [.int i,.int j] ∧ Q (.int (if j > i then j else i)) H):=by
  intro pins s σ H xs us Q I r h
  obtain ⟨i,j,rfl,q⟩:=h
  obtain ⟨u,w',rfl,⟨t,rfl⟩,⟨t',rfl⟩⟩:=zT3 r
  refine max_two_ints (I.ok.hd hc) fun h' tk k=>⟨_,H,I.kept k,?_,q⟩
  by_cases hj:j > i
  · rw [if_pos hj,if_pos hj]; exact ⟨_,rfl⟩
  · rw [if_neg hj,if_neg hj]; exact ⟨_,rfl⟩
end
end L2
namespace L2
open PySem PySem.Spec PyProof.Rows
structure ObjM (h:Heap) (x dx C:Addr) (mA:Str → Option Value):Prop where
  obj:h.get? x = some (qE5 C dx)
  ns:h.Ns1 dx mA
  ne:dx ≠ x
theorem zGA {h:Heap} {dx:Addr} {mA:Str → Option Value} (n:h.Ns1 dx mA):∃ od,h.get? dx = some od ∧ ∀ name,qEf name od = some (mA name):=by
  obtain ⟨o,es,ep,ho,hd,hk,_,hm⟩:=n
  refine ⟨o,ho,fun name=>?_⟩
  have e:=hm name
  unfold nsFind findBy at e
  rw [← Array.find?_toList] at e
  unfold qEf
  rw [hd]
  dsimp only
  split
  · rename_i y q
    rw [q] at e
    exact congrArg some e
  · rename_i q
    rw [q] at e
    have a:es.toList.any (·.refKey) = false:=by
      rw [List.any_eq_false]
      intro y hy
      obtain ⟨z,t,hkey⟩:=hk y (Array.mem_toList_iff.mp hy)
      simp [DictEntry.refKey,hkey]
    have a':¬ es.toList.any (·.refKey) = true:=by rw [a]; exact qAe
    rw [if_neg a']
    exact congrArg some e
theorem ObjM.look {h:Heap} {x dx C:Addr} {mA:Str → Option Value} (I:ObjM h x dx C mA):∃ od,qEg h x (qE5 C dx) C (some od) ∧ ∀ name,qEf name od = some (mA name) :=
  let ⟨od,ho,hl⟩:=zGA I.ns
  ⟨od,⟨I.obj,rfl,rfl,ho⟩,hl⟩
section
variable {prog:Program} {w:World} {A:Around} {E:Value → Shared → Prop} {s:Shared} {K:qA1} {x dx C f:Addr} {mA:Str → Option Value} {name:Str} {v:Value}
end
theorem RelO.some_of {v:V} {o:Option Value} (r:RelO (some v) o):∃ u,o = some u ∧ RelV v u:=by
  cases o with
  | none=>exact (show False from r).elim
  | some u=>exact ⟨u,rfl,r⟩
theorem zOS {v:V} {u:Value} (r:RelV v u):qDx u = true:=by
  cases v with
  | non=>cases (show u = Value.none from r); rfl
  | bl b=>cases (show u = Value.bool b from r); rfl
  | int i=>obtain ⟨t,e⟩:=(show ∃ t,u = Value.int i t from r); cases e; rfl
  | str x=>obtain ⟨t,e⟩:=(show ∃ t,u = Value.str x t from r); cases e; rfl
  | byt b=>obtain ⟨t,e⟩:=(show ∃ t,u = Value.bytes b t from r); cases e; rfl
  | flt b=>obtain ⟨t,e⟩:=(show ∃ t,u = Value.float b t from r); cases e; rfl
  | ref a=>cases (show u = Value.ref a from r); rfl
  | ty n=>cases (show u = Value.type n from r); rfl
section
variable {P:Program} {w:World} {H H':Hp} {h h':Heap} {a C dx:Addr} {fs fs':List (Str × V)}
theorem zUE (hok:HOk P w H h) (e:H a = some (.ins C dx fs)):∃ mA,ObjM h a dx C mA ∧ (∀ f,RelO (fs.lookup f) (mA f)) ∧ qG9 mA (fs.map (·.1)) ∧ fs.length ≤ 1000 ∧ H dx = some (.own a):=by
  obtain ⟨d,z,ne,ob,mA,n,r,q⟩:=(show ObjOk P w H h a (.ins C dx fs) from hok a _ e)
  exact ⟨mA,⟨ob,n,ne⟩,r,q,z,d⟩
end
structure Cls (K:qA1) (C:Addr):Prop where
  pg:qEx K C Str.empty = true
  hd:qBm K C = true
  po:PySem.W.plainOver K C = true
  sa:qA8 K (.ref C) "__setattr__" = some (some (.builtin "object.__setattr__"))
theorem Cls.get {K:qA1} {C:Addr} (c:Cls K C) (f:Str):qEx K C f = true:=c.pg
def zSU (K:qA1) (C:Addr) (f:Str):Prop:=qA8 K (.ref C) f = some none
structure Con (K:qA1) (C:Addr) (f:Str) (v:V) (u:Value):Prop where
  at_:qA8 K (.ref C) f = some (some u)
  rel:RelV v u
  get:qBs K u "__get__" = some none
  cp:PySem.W.copiedNames.contains f = false
structure Meth (K:qA1) (C:Addr) (m:Str) (f:Addr):Prop where
  at_:qA8 K (.ref C) m = some (some (.ref f))
  fn:qCy K (.ref f) = true
  kp:qAv K (.ref f) = true
section
variable {X:Cx} {pins:List (Addr × Obj)} {σ:St} {H:Hp} {s:Shared} {a C dx:Addr} {fs:List (Str × V)} {f:Str} {v:V} {A:Around} {E:Value → Shared → Prop}
theorem zUU {prog:Program} {w:World} {env:Env} {e:Expr} {f:Str} {pos:Pos} {s:Shared} {Q:Value → Shared → Prop} (hb:attributeBase e f env (eval e env) = eval e env)
    (h:wpAny (model prog w) A (eval e env) (fun o s₁=>wpAny (model prog w) A (getAttr o f true) Q E s₁) E s):wpAny (model prog w) A (eval (.Attribute e f pos) env) Q E s :=
  Attribute_any_ h (by rw [arm_eval_Attribute,hb])
end
section
variable {X:Cx} {o e value:Expr} {f:Str} {pos pos' tpos:Pos} {ta tv:TE}
end
section
variable {X:Cx} {pins:List (Addr × Obj)} {σ:St} {H:Hp} {s:Shared} {A:Around} {E:Value → Shared → Prop} {Q:Value → Shared → Prop} {c:Value} {b:Bool}
inductive TyOf (K:qA1) (H:Hp):V → Value → Prop where
  | non:TyOf K H .non (.type "NoneType")
  | bl (x:Bool):TyOf K H (.bl x) (.type "bool")
  | int (i:Int):TyOf K H (.int i) (.type "int")
  | str (x:Str):TyOf K H (.str x) (.type "str")
  | flt (x:UInt64):TyOf K H (.flt x) (.type "float")
  | lst {a:Addr} {xs:List V} (e:H a = some (.lst xs)):TyOf K H (.ref a) (.type "list")
  | frz {a:Addr} {o:Obj} {xs:List V} (e:H a = some (.frz o (.lst xs))):TyOf K H (.ref a) (.type "list")
  | tup {a:Addr} {xs:List V} (e:H a = some (.tup xs)):TyOf K H (.ref a) (.type "tuple")
  | dK {a:Addr} {kvs:List (Key × V)} (e:H a = some (.dK kvs)):TyOf K H (.ref a) (.type "dict")
  | dT {a:Addr} {kvs:List (List Key × V)} (e:H a = some (.dT kvs)):TyOf K H (.ref a) (.type "dict")
  | ins {a C dx:Addr} {fs:List (Str × V)} (e:H a = some (.ins C dx fs)) (cl:Cls K C) (ha:qA8 K (.ref C) "__class__" = some (some (.builtin "object.__class__")))
      (hn:qBs K (.builtin "object.__class__") "__get__" = some (some (.builtin "getset_descriptor.__get__"))) (htk:qE6 K (.builtin "object.__class__") = some true)
      (hm:qBz K C (.type "object") = some true):TyOf K H (.ref a) (.ref C)
theorem zOO {x:V} {u t:Value} (I:Inv X pins σ H s) (rx:RelV x u) (ty:TyOf X.K H x t) (e:qB0 X.K t c = some b) (h:∀ tk,Q (.bool b) { s with toks:=tk }) :
    wpAny (model X.prog X.w) A (call (.builtin "isinstance") [u,c]) Q E s:=by
  cases ty with
  | non=>cases (show u = Value.none from rx); exact qAz PySem.W.kitx_none I.kIn qCj e (fun z=>nomatch z) h
  | bl y=>cases (show u = Value.bool y from rx); exact qAz PySem.W.kitx_bool I.kIn qCj e (fun z=>nomatch z) h
  | int i=>obtain ⟨t,q⟩:=(show ∃ t,u = Value.int i t from rx); cases q; exact qAz PySem.W.kitx_int I.kIn qCj e (fun z=>nomatch z) h
  | str y=>obtain ⟨t,q⟩:=(show ∃ t,u = Value.str y t from rx); cases q; exact qAz PySem.W.kitx_str I.kIn qCj e (fun z=>nomatch z) h
  | flt y=>obtain ⟨t,q⟩:=(show ∃ t,u = Value.float y t from rx); cases q; exact qAz PySem.W.kitx_float I.kIn qCj e (fun z=>nomatch z) h
  | @lst a xs ea =>
    cases (show u = Value.ref a from rx)
    obtain ⟨_,_,n,_,h1⟩:=(show ObjOk X.prog X.w H s.heap a (.lst xs) from I.hok a _ ea)
    exact qAz qEp I.kIn ⟨_,h1,rfl⟩ e (fun z=>nomatch z) h
  | @frz a ob xs ea =>
    cases (show u = Value.ref a from rx)
    obtain ⟨_,_,_,n,_,h1⟩:=(show ObjOk X.prog X.w H s.heap a (.frz ob (.lst xs)) from I.hok a _ ea)
    exact qAz qEp I.kIn ⟨_,h1,rfl⟩ e (fun z=>nomatch z) h
  | @tup a xs ea =>
    cases (show u = Value.ref a from rx)
    obtain ⟨_,_,_,p⟩:=(show ObjOk X.prog X.w H s.heap a (.tup xs) from I.hok a _ ea)
    obtain ⟨o,h1,h2,_⟩:=p
    exact qAz PySem.W.kitx_tuple I.kIn ⟨o,h1,h2⟩ e (fun z=>nomatch z) h
  | @dK a kvs ea =>
    cases (show u = Value.ref a from rx)
    obtain ⟨_,_,vs,_,p⟩:=(show ObjOk X.prog X.w H s.heap a (.dK kvs) from I.hok a _ ea)
    obtain ⟨o,es,ep,h1,h2,_⟩:=p
    exact qAz qEq I.kIn ⟨o,h1,h2.1⟩ e (fun z=>nomatch z) h
  | @dT a kvs ea =>
    cases (show u = Value.ref a from rx)
    obtain ⟨_,_,xs,_,o,es,ep,h1,h2,_⟩:=(show ObjOk X.prog X.w H s.heap a (.dT kvs) from I.hok a _ ea)
    exact qAz qEq I.kIn ⟨o,h1,h2.1⟩ e (fun z=>nomatch z) h
  | @ins a C dx fs ea cl ha hn htk hm =>
    cases (show u = Value.ref a from rx)
    obtain ⟨mA,O,_⟩:=zUE I.hok ea
    obtain ⟨od,J,_⟩:=O.look
    exact qAz (PySem.W.kitx_own (cl.get _) cl.hd ha hn htk hm) I.kIn J e (fun z=>nomatch z) h
end
end L2
namespace L2
open PySem PySem.Spec PyProof.Rows
structure Room (k:Nat) (A:Around):Prop where
  hd:A.handled = none
  dp:A.depth + 3 * k + 5 < recursionLimit
  un:A.units + 16 * k + 200 < cLine
theorem Room.mono {j k:Nat} {A:Around} (r:Room k A) (h:j ≤ k):Room j A:=⟨r.hd,by have:=r.dp; omega,by have:=r.un; omega⟩
theorem Room.deeper {k:Nat} {A:Around} (r:Room (k + 1) A) (env:Env):Room k (A.deeper env) :=
  ⟨r.hd,by have:=r.dp; show A.depth + 1 + 3 * k + 5 < _; omega,by have:=r.un; show A.units + 3 + 16 * k + 200 < _; omega⟩
theorem zMR {A:Around} {C:Addr} {us:List Value} {kw:List (Str × Value)}:(A.under (.builtin "type.__call__" ⟨.ref C :: us,kw⟩)).depth = A.depth + 1:=by
  first | rfl | simp [Around.under,Code.weight,Code.isCreation,Code.isGuard,Code.isCaller,Code.frames,Code.isFrame,guardIds]
theorem zMQ {A:Around} {C:Addr} {us:List Value} {kw:List (Str × Value)}:(A.under (.builtin "type.__call__" ⟨.ref C :: us,kw⟩)).units = A.units + 1:=by
  first | rfl | simp [Around.under,Code.cUnits,Code.frames,Code.isFrame]
theorem Room.make {k:Nat} {A:Around} (r:Room (k + 1) A) (C:Addr) (us:List Value) (kw:List (Str × Value)):Room k (A.under (.builtin "type.__call__" ⟨.ref C :: us,kw⟩)) :=
  ⟨r.hd,by have:=r.dp; rw [zMR]; omega,by have:=r.un; rw [zMQ]; omega⟩
theorem Room.depth {k:Nat} {A:Around} (r:Room k A):A.depth < recursionLimit:=by have:=r.dp; omega
theorem Room.units {k:Nat} {A:Around} (r:Room k A):A.units + 64 < cLine:=by have:=r.un; omega
noncomputable def tNil:TA:=fun _ H Q=>Q [] H
noncomputable def zDF (ta:TE) (tr:TA):TA:=fun σ H Q=>ta σ H fun x H1=>tr σ H1 fun xs H2=>Q (x :: xs) H2
section
variable {X:Cx} {e:Expr} {es:List Expr} {te:TE} {t:TA} {pos:Pos}
theorem zA4:PA X [] tNil:=fun _ _ _ _ H Q I h=>Calls.spliced_nil ⟨[],H,I,.nil,h⟩
theorem zA0 (ha:PE X e te) (hr:PA X es t) (hs:starEach (e :: es) X.env = (false,eval e X.env) :: starEach es X.env:=by rfl):PA X (e :: es) (zDF te t):=by
  intro pos pins s σ H Q I h
  rw [hs]
  show wpAny _ _ (spliced ((false,eval e X.env) :: backTo pos (starEach es X.env))) _ _ s
  refine Calls.spliced_cons (thn (ha pins s σ H _ I h) fun u s1 ⟨x,H1,I1,r1,q1⟩=>?_)
  exact thn (hr pos pins s1 σ H1 _ I1 q1) fun us s2 ⟨xs,H2,I2,r2,q2⟩=>⟨x :: xs,H2,I2,.cons r1 r2,q2⟩
def tTup (t:TA):TE:=fun σ H Q=>t σ H fun xs H1=>xs.length ≤ sizeLine ∧ ∀ p,H1 p = none → Q (.ref p) (upd H1 p (.tup xs))
def tLst (t:TA):TE:=fun σ H Q=>t σ H fun xs H1=>xs.length ≤ sizeLine ∧ ∀ p,H1 p = none → Q (.ref p) (upd H1 p (.lst xs))
theorem zHE {x1} (h:PA X es t):PE X (.Tuple es x1 pos) (tTup t):=by
  intro pins s σ H Q I hq
  refine wpAny_Tuple_spliced (thn (h pos pins s σ H _ I hq) fun us s1 ⟨xs,H1,I1,r,z,q⟩=>⟨by rw [← r.length]; exact z,?_⟩)
  have hf:H1 s1.heap.objs.size = none:=I1.hok.fresh (qA7 _)
  refine ⟨.ref s1.heap.objs.size,upd H1 s1.heap.objs.size (.tup xs),I1.laid (t':=s1.toks) (fun b u e=>Heap.get?_push_of_some _ e) (qA7 _) ?_,rfl,q _ hf⟩
  exact ⟨z,us,r,⟨_,Heap.get?_push_size _ rfl,rfl,_,rfl⟩⟩
theorem zJG (h:PA X es t):PE X (.List es pos) (tLst t):=by
  intro pins s σ H Q I hq
  refine wpAny_List_spliced (thn (h pos pins s σ H _ I hq) fun us s1 ⟨xs,H1,I1,r,z,q⟩=>⟨by rw [← r.length]; exact z,?_⟩)
  have hf:H1 s1.heap.objs.size = none:=I1.hok.fresh (qA7 _)
  refine ⟨.ref s1.heap.objs.size,upd H1 s1.heap.objs.size (.lst xs),I1.laid (t':=s1.toks) (fun b u e=>Heap.get?_push_of_some _ e) (qA7 _) ?_,rfl,q _ hf⟩
  exact ⟨z,us,0,r,Heap.get?_push_size _ rfl⟩
end
abbrev Sp:=List V → Hp → VK → XK → Prop
abbrev CXT:=List Env → Hp → Shared → XK → Value → Shared → Prop
structure Env0 (P:Program) (w:World) (K:qA1) (mg:Str → Option Value) (base:Heap) (A:Around) (outer:List Env) (s:Shared) (H:Hp):Prop where
  frames:A.frames = some outer
  mod:Mod K mg base
  bs:∀ b o,base.get? b = some o → s.heap.get? b = some o ∧ H b = none
  bsz:base.objs.size ≤ s.heap.objs.size
  funs:s.heap.FunFrames base outer
  frf:∀ b ∈ frs outer,H b = none
  hok:HOk P w H s.heap
  bare:AllBare s.gens
def CE (outer:List Env) (P:Program) (w:World) (H:Hp) (s:Shared) (Q:VK) (u:Value) (s':Shared):Prop :=
  ∃ v H',s'.os = s.os ∧ AllBare s'.gens ∧ Un (frs outer) [] H H' s.heap s'.heap ∧ HOk P w H' s'.heap ∧ RelV v u ∧ Q v H'
def CR (CX:CXT) (outer:List Env) (P:Program) (w:World) (H:Hp) (s:Shared) (Q:VK) (E:XK) (r:Result) (s':Shared):Prop :=
  match r with
  | .ok (.ret u)=>CE outer P w H s Q u s'
  | .ok _=>False
  | .error e=>CX outer H s E e s'
structure FnOk (P:Program) (w:World) (K:qA1) (mg:Str → Option Value) (base:Heap) (CX:CXT) (k:Nat) (f:Addr) (fd:FuncData) (ps:List Str) (sp:Sp):Prop where
  len:∀ vs H Q E,sp vs H Q E → vs.length = ps.length
  run:∀ (A:Around) (outer:List Env) (s:Shared) (H:Hp) (args:Args) (us:List Value) (vs:List V) (Q:VK) (E:XK),Room k A → Env0 P w K mg base A outer s H → BindsTo s fd args (ps.zip us) → Vals vs us → sp vs H Q E →
    codeAny (model P w) A (.call (.ref f) args) (CR CX outer P w H s Q E) s
theorem FnOk.imp {P:Program} {w:World} {K:qA1} {mg:Str → Option Value} {base:Heap} {CX:CXT} {k:Nat} {f:Addr} {fd:FuncData} {ps:List Str} {sp sp':Sp} (F:FnOk P w K mg base CX k f fd ps sp)
    (h:∀ vs H Q E,sp' vs H Q E → sp vs H Q E):FnOk P w K mg base CX k f fd ps sp' :=
  ⟨fun vs H Q E q=>F.len vs H Q E (h _ _ _ _ q),fun A outer s H args us vs Q E hr he hb hv hs=>F.run A outer s H args us vs Q E hr he hb hv (h _ _ _ _ hs)⟩
theorem Env0.make {P:Program} {w:World} {K:qA1} {mg:Str → Option Value} {base:Heap} {A:Around} {outer:List Env} {s:Shared} {H:Hp} (e:Env0 P w K mg base A outer s H) (C:Addr) (us:List Value) (kw:List (Str × Value)) :
    Env0 P w K mg base (A.under (.builtin "type.__call__" ⟨.ref C :: us,kw⟩)) outer s H:=⟨by first | exact e.frames | (simpa [Around.under,Code.envs,Code.isFrame,pushEnvs] using e.frames),e.mod,e.bs,e.bsz,e.funs,e.frf,e.hok,e.bare⟩
section
variable {X:Cx} {pins:List (Addr × Obj)} {σ:St} {H:Hp} {s s':Shared}
theorem Inv.env0 (I:Inv X pins σ H s):Env0 X.prog X.w X.K X.mg X.base X.A X.stack s H :=
  ⟨I.ok.frames,I.ok.mod,I.bs,qAo I.ok.bsz I.sz,I.stack,I.stkFree,I.hok,I.bare⟩
theorem Inv.after {Q:VK} {u:Value} (I:Inv X pins σ H s) (h:CE X.stack X.prog X.w H s Q u s'):EP X pins σ Q u s':=by
  obtain ⟨v,H',os,bare,un,hok,r,q⟩:=h
  obtain ⟨hh,g,d,t,os'⟩:=s'
  obtain rfl:os' = s.os:=os
  exact ⟨v,H',I.call (h':=hh) (g':=g) (d':=d) (t':=t) (ch:=[]) un hok bare (fun b z=>absurd z (by simp)),r,q⟩
end
noncomputable def zGV (sp:Sp) (dvs:List V) (E:XK) (t:TA):TE:=fun σ H Q=>t σ H fun vs H1=>sp (vs ++ dvs) H1 Q E
def Binds (K:qA1) (fd:FuncData) (ps:List Str) (ds:List Value):Prop :=
  ∀ (s:Shared) (us:List Value),K.In s.heap → (us ++ ds).length = ps.length → BindsTo s fd ⟨us,[]⟩ (ps.zip (us ++ ds))
theorem Binds.all {K:qA1} {fd:FuncData} {ps:List Str} (h:∀ us:List Value,us.length = ps.length → bindArgs fd ⟨us,[]⟩ = pure (ps.zip us)):Binds K fd ps []:=fun s us _ hl=>by
  rw [qCp] at hl ⊢
  exact .of_eq (h us hl)
def zHT (CX:CXT) (X:Cx) (E:XK):Prop:=∀ (pins:List (Addr × Obj)) (σ:St) (H:Hp) (s:Shared) (e:Value) (s':Shared),Inv X pins σ H s → CX X.stack H s E e s' → X.xe e s'
section
variable {X:Cx} {CX:CXT} {k:Nat} {f C:Addr} {fd:FuncData} {ps:List Str} {sp:Sp} {dvs:List V} {ds:List Value} {E:XK} {x m:Str} {p pos apos:Pos} {e o:Expr} {es:List Expr} {ta:TE} {t:TA}
theorem zVM {pins:List (Addr × Obj)} {σ:St} {H:Hp} {s:Shared} {Q:VK} {us:List Value} {vs:List V} (F:FnOk X.prog X.w X.K X.mg X.base CX k f fd ps sp) (hr:Room k X.A) (hb:Binds X.K fd ps ds) (hd:Vals dvs ds) (hx:zHT CX X E)
    (I:Inv X pins σ H s) (r:Vals vs us) (h:sp (vs ++ dvs) H Q E):wpAny (model X.prog X.w) X.A (call (.ref f) us) (EP X pins σ Q) X.xe s:=by
  have r2:Vals (vs ++ dvs) (us ++ ds):=r.append hd
  have hl:(us ++ ds).length = ps.length:=by rw [← r2.length]; exact F.len _ _ _ _ h
  refine wpAny_call (codeAny_mono (F.run X.A X.stack s H ⟨us,[]⟩ (us ++ ds) (vs ++ dvs) Q E hr I.env0 (hb s us I.kIn hl) r2 h) fun r s' hq=>?_)
  cases r with
  | error e=>exact hx pins σ H s e s' I hq
  | ok fl =>
    cases fl with
    | ret u=>exact I.after hq
    | next=>exact qAf hq
    | brk=>exact qAf hq
    | cont=>exact qAf hq
theorem zO6 (F:FnOk X.prog X.w X.K X.mg X.base CX k f fd ps sp) (hr:Room k X.A) (hg:Gl X x) (hm:X.mg x = some (.ref f)) (hk:qAv X.K (.ref f) = true) (hb:Binds X.K fd ps ds) (hd:Vals dvs ds) (hx:zHT CX X E)
    (ha:PA X (e :: es) t) (hdb:(x == ("__debug__":Str)) = false:=by decide) (he:starEach (e :: es) X.env = (false,eval e X.env) :: starEach es X.env:=by rfl) (hpl:(backTo pos (starEach es X.env)).any (·.1) = false:=by rfl) :
    PE X (.Call (.Name x p) (e :: es) [] pos) (zGV sp dvs E t):=by
  intro pins s σ H Q I h
  refine wpAny_Call_Name_kw (zEC I hg hm ?_ hdb)
  refine qDg (h₀:=X.base) I.ok.mod.kin hk (thn (ha pos pins s σ H _ I h) fun us s1 ⟨vs,H1,I1,r,q⟩=>⟨I1.kIn,?_⟩) he hpl
  exact zVM F hr hb hd hx I1 r q
structure Mk (K:qA1) (C f:Addr):Prop where
  makes:qF7 K C = true
  init:qA8 K (.ref C) "__init__" = some (some (.ref f))
  fn:qCy K (.ref f) = true
  kp:qAv K (.ref C) = true
end
section
variable {X:Cx} {CX:CXT} {k:Nat} {f C:Addr} {fd:FuncData} {ps ks:List Str} {sp:Sp} {E:XK} {x m:Str} {p pos apos kpos:Pos} {e o:Expr} {es:List Expr} {kws:List Keyword} {te ta:TE} {t tk:TA} {nm:Option Str}
structure KBinds (K:qA1) (fd:FuncData) (ps ks:List Str) (g:List Value → List Value → List Value) (gV:List V → List V → List V):Prop where
  to:∀ (s:Shared) (us ws:List Value),K.In s.heap → (g us ws).length = ps.length → BindsTo s fd ⟨us,ks.zip ws⟩ (ps.zip (g us ws))
  rel:∀ {vs:List V} {us:List Value} {zs:List V} {ws:List Value},Vals vs us → Vals zs ws → Vals (gV vs zs) (g us ws)
variable {g:List Value → List Value → List Value} {gV:List V → List V → List V}
end
structure FnScope (N P:List Str) (sc:Scope):Prop where
  kind:sc.kind = .function
  co:sc.isCoroutine = false
  gen:sc.isGenerator = false
  nd:N.Nodup
  pre:N.take P.length = P
  par:∀ x ∈ P,sc.names.lookup x = some .local ∨ sc.names.lookup x = some .cell
  nofree:∀ y ∈ sc.names,y.2 ≠ .free
theorem zKE {kindOf:Str → Option NameKind} {x:Str}:∀ {binds:List (Str × Value)} {m:Str → Option Value},(∀ v,(x,v) ∉ binds) → bindL kindOf binds m x = m x
  | [],_,_=>rfl
  | (n,v) :: r,m,h=>by
    unfold bindL
    rw [zKE fun w hw=>h w (qAh _ hw)]
    split
    · have:x ≠ n:=by rintro rfl; exact h v qB3
      simp [this]
    · rfl
theorem zKG {kindOf:Str → Option NameKind} {x:Str}:∀ {binds:List (Str × Value)} {m:Str → Option Value},(∀ v,(x,v) ∉ binds) → bindC kindOf binds m x = m x
  | [],_,_=>rfl
  | (n,v) :: r,m,h=>by
    unfold bindC
    rw [zKG fun w hw=>h w (qAh _ hw)]
    split
    · rfl
    · have:x ≠ n:=by rintro rfl; exact h v qB3
      simp [this]
theorem zKF {kindOf:Str → Option NameKind} {x:Str} {v:Value}:∀ {P:List Str} {vs:List Value} {i:Nat} {m:Str → Option Value},P.Nodup → P[i]? = some x → vs[i]? = some v → kindOf x = some .local →
    bindL kindOf (P.zip vs) m x = some v
  | [],_,_,_,_,h,_,_=>by simp at h
  | _ :: _,[],_,_,_,_,h,_=>by simp at h
  | p :: P,w :: vs,0,m,nd,h1,h2,hk=>by
    simp at h1 h2; subst h1; subst h2
    show bindL kindOf ((p,w) :: P.zip vs) m p = _
    unfold bindL
    rw [zKE fun v hv=>(qBa.mp nd).1 (qD9 hv).1,if_pos hk]
    simp
  | p :: P,w :: vs,i + 1,m,nd,h1,h2,hk=>by
    show bindL kindOf ((p,w) :: P.zip vs) m x = _
    unfold bindL
    exact zKF (i:=i) (qBa.mp nd).2 (by simpa using h1) (by simpa using h2) hk
theorem zKH {kindOf:Str → Option NameKind} {x:Str} {v:Value}:∀ {P:List Str} {vs:List Value} {i:Nat} {m:Str → Option Value},P.Nodup → P[i]? = some x → vs[i]? = some v → kindOf x ≠ some .local →
    bindC kindOf (P.zip vs) m x = some v
  | [],_,_,_,_,h,_,_=>by simp at h
  | _ :: _,[],_,_,_,_,h,_=>by simp at h
  | p :: P,w :: vs,0,m,nd,h1,h2,hk=>by
    simp at h1 h2; subst h1; subst h2
    show bindC kindOf ((p,w) :: P.zip vs) m p = _
    unfold bindC
    rw [zKG fun v hv=>(qBa.mp nd).1 (qD9 hv).1,if_neg hk]
    simp
  | p :: P,w :: vs,i + 1,m,nd,h1,h2,hk=>by
    show bindC kindOf ((p,w) :: P.zip vs) m x = _
    unfold bindC
    exact zKH (i:=i) (qBa.mp nd).2 (by simpa using h1) (by simpa using h2) hk
noncomputable def start (N:List Str) (vs:List V):St:=vs.map some ++ qA6 (N.length - vs.length) none
noncomputable def cxOf (CX:CXT) (P:Program) (w:World) (K:qA1) (mg:Str → Option Value) (base:Heap) (N:List Str) (qual:Str) (scope:Scope) (f:Addr) (cd:Value) (A:Around) (outer:List Env) (s:Shared) (H:Hp) (E:XK):Cx where
  prog:=P
  w:=w
  K:=K
  mg:=mg
  base:=base
  A:=A.deeper (envOfC qual scope s.heap.objs.size f cd)
  N:=N
  s₀:=s
  H₀:=H
  env:=envOfC qual scope s.heap.objs.size f cd
  outer:=outer
  stack:=envOfC qual scope s.heap.objs.size f cd :: outer
  ex:=[]
  calm:=true
  fn:=fun _=>true
  pn:=[]
  xe:=fun e s'=>wpAny (model P w) (A.deeper (envOfC qual scope s.heap.objs.size f cd)) (leaving (envOfC qual scope s.heap.objs.size f cd) e) (fun _ s''=>CX outer H s E e s'') (fun e' s''=>CX outer H s E e' s'') s'
theorem zMB {sc:Scope} {n:Nat} {x:Str} (h:sc.names.lookup x = some .cell):∃ c,(cellsFrom n sc.names []).lookup x = some c:=by
  have q:=qCu sc.names n [] (.inl h)
  exact qBt.mp q
theorem zOP {CX:CXT} {P:Program} {w:World} {K:qA1} {mg:Str → Option Value} {base:Heap} {N ps:List Str} {qual:Str} {scope:Scope} {f:Addr} {cd:Value} {A:Around} {outer:List Env} {s s1:Shared} {H:Hp} {E:XK} {us:List Value} {vs:List V}
    (S:FnScope N ps scope) (hd:A.handled = none) (e0:Env0 P w K mg base A outer s H) (hl:vs.length = ps.length) (r:Vals vs us)
    (x:InCallC s s.heap.objs.size (bindL (envOfC qual scope s.heap.objs.size f cd).kindOf (ps.zip us) fun _=>none) (cellsFrom (s.heap.objs.size + 1) scope.names []) (bindC (envOfC qual scope s.heap.objs.size f cd).kindOf (ps.zip us) fun _=>none) s1) :
    Inv (cxOf CX P w K mg base N qual scope f cd A outer s H E) [] (start N vs) H s1:=by
  have hpl:ps.length ≤ N.length:=by have:=congrArg qEh S.pre; rw [qEy] at this; omega
  obtain ⟨h1,tk,rfl,hk⟩:=x.done
  have noA:∀ b:Addr,b ∉ (cxOf CX P w K mg base N qual scope f cd A outer s H E).ex:=fun b z=>absurd (show b ∈ ([]:List Addr) from z) (by simp)
  refine ⟨⟨e0.mod,S.kind,rfl,rfl,qA7 _,fun y z c h1 h2=>?_,fun y hy=>?_,fun y c _ h=>?_,fun _=>hd,Around.frames_deeper e0.frames,.inr ⟨rfl,rfl⟩,fun b z=>absurd z (noA b),e0.bs,e0.bsz,fun b _ _=>noA b,fun b z=>absurd z (noA b),e0.funs,e0.frf⟩,
    rfl,e0.bare,Un.kept hk,⟨_,x.toInCall.ns,fun i y v h1 h2 h3=>?_⟩,fun y c h=>⟨_,x.cell y c h⟩,e0.hok.fresh (qA7 _),fun y c h=>?_,fun p hp=>absurd (show p ∈ ([]:List (Addr × Obj)) from hp) (by simp),e0.hok.kept hk,?_⟩
  · exact name_of_addr x.apart (qC0 h1) (qC0 h2)
  · have hy:scope.names.lookup y = some .cell ∨ scope.names.lookup y = some .free:=hy
    rcases hy with hy | hy
    · exact zMB hy
    · exact absurd rfl (S.nofree _ (qC0 hy))
  · exact qC6 (x.above y c (qC0 h))
  · have hi:i < vs.length:=by
      unfold start at h2
      by_cases hi:i < vs.length
      · exact hi
      · rw [qAd (by simpa using hi)] at h2
        rw [qBl] at h2
        split at h2 <;> cases h2
    have ha:vs[i]? = some v:=by
      unfold start at h2
      rw [qAg (by simpa using hi),qAl] at h2
      cases e:vs[i]? with
      | none=>rw [e] at h2; cases h2
      | some a=>rw [e] at h2; cases h2; rfl
    obtain ⟨u,hu,rv⟩:=r.get ha
    have hp:ps[i]? = some y:=by
      rw [← S.pre,List.getElem?_take_of_lt (by omega)]; exact h1
    have ndP:ps.Nodup:=by rw [← S.pre]; exact S.nd.sublist (List.take_sublist _ _)
    refine ⟨u,rv,?_⟩
    rcases S.par y (qBd hp) with k | k
    · exact .inl ⟨k,zKF ndP hp hu k⟩
    · obtain ⟨c,e⟩:=zMB (n:=s.heap.objs.size + 1) k
      refine .inr ⟨.inl k,c,e,?_⟩
      have q:=x.cell y c e
      rw [zKH ndP hp hu (by show scope.names.lookup y ≠ _; rw [k]; decide)] at q
      exact q
  · exact e0.hok.fresh (qC6 (x.above y c (qC0 h)))
  · unfold start
    show _ = N.length
    rw [qAt,qAm,qCz]
    omega
theorem zX4 {CX:CXT} {P:Program} {w:World} {K:qA1} {mg:Str → Option Value} {base:Heap} {k:Nat} {f:Addr} {name qual:Str} {params:Arguments} {body:List Stmt} {scope:Scope} {dV kV doc pm cdv ct oc:Value} {an od:Option Addr}
    {osl:Array (Option Value)} {N ps:List Str} {sp:Sp} (lk:K.lookup f = some ⟨oc,od,.func (qB7 name qual params body scope dV kV doc pm an cdv ct),osl⟩) (hcd:qCe K cdv qual = true) (S:FnScope N ps scope)
    (len:∀ vs H Q E,sp vs H Q E → vs.length = ps.length)
    (hbody:∀ (A:Around) (outer:List Env) (s:Shared) (H:Hp) (vs:List V) (Q:VK) (E:XK),Room k (A.deeper (envOfC qual scope s.heap.objs.size f cdv)) → sp vs H Q E →
      ∃ t,PSs (cxOf CX P w K mg base N qual scope f cdv A outer s H E) body t ∧ t { nx:=fun _ H'=>Q .non H',rt:=Q } (start N vs) H) :
    FnOk P w K mg base CX (k + 1) f (qB7 name qual params body scope dV kV doc pm an cdv ct) ps sp:=by
  refine ⟨len,fun A outer s H args us vs Q E hr e0 hb r hsp=>?_⟩
  have hl:=len _ _ _ _ hsp
  have KX:K.In s.heap:=e0.mod.kin.keeps fun b o e=>(e0.bs b o e).1
  have lim:s.heap.NoLimit:=e0.mod.nolimit.keeps fun b o e=>(e0.bs b o e).1
  have hkind:∀ y ∈ ps.zip us,scope.names.lookup y.1 = some .local ∨ (scope.names.lookup y.1 = some .cell ∧ ((cellsFrom (s.heap.objs.size + 1) scope.names []).lookup y.1).isSome = true):=fun ⟨n,v⟩ hy=>by
    rcases S.par n (qD9 hy).1 with q | q
    · exact .inl q
    · exact .inr ⟨q,qCu _ _ _ (.inl q)⟩
  refine codeAny_call_function hr.depth (KX _ _ lk) rfl S.co S.gen rfl (PySem.W.codeRec_of KX hcd) (hb _ _ _ _ ?_)
  refine wpAny_newFunctionEnv_cells S.kind hkind fun env he s1 x=>?_
  subst he
  refine ⟨lim.keeps x.toInCall.keep,codeAny_func ?_⟩
  obtain ⟨t,ht,hq⟩:=hbody A outer s H vs Q E (hr.deeper _) hsp
  have I:Inv (cxOf CX P w K mg base N qual scope f cdv A outer s H E) [] (start N vs) H s1:=zOP S hr.hd e0 hl r x
  refine wpAny_mono (ht [] s1 (start N vs) H _ I hq) (fun fl s' hs=>?_) fun e s' hs=>hs
  have fin:∀ {σ':St} {H':Hp} {v:V} {u:Value},Inv (cxOf CX P w K mg base N qual scope f cdv A outer s H E) [] σ' H' s' → RelV v u → Q v H' → CE outer P w H s Q u s' :=
    fun {σ' H' v u} J rv q=>⟨v,H',J.os,J.bare,J.base,J.hok,rv,q⟩
  cases fl with
  | ret u =>
    obtain ⟨v,σ',H',J,rv,q⟩:=hs
    exact fin J rv q
  | next =>
    obtain ⟨σ',H',J,q⟩:=hs
    exact fin (v:=V.non) (u:=Value.none) J rfl q
  | brk =>
    obtain ⟨_,_,_,q⟩:=hs
    exact qAf q
  | cont =>
    obtain ⟨_,_,_,q⟩:=hs
    exact qAf q
end L2
namespace L2
open PySem PySem.Spec PyProof.Rows
section
variable {X:Cx} {x:Str} {p pos:Pos} {e:Expr} {es:List Expr} {t:TA} {id T:String} {r:List V → Hp → VK → Prop}
noncomputable def tCB (r:List V → Hp → VK → Prop) (t:TA):TE:=fun σ H Q=>t σ H fun vs H1=>r vs H1 Q
theorem zAL (hc:zCK X (.builtin id) r) (hg:Gl X x) (hm:X.mg x = none) (hv:bootBuiltins x = some (.builtin id)) (ha:PA X (e :: es) t) (hn:x ≠ "__name__":=by decide) (hdb:(x == ("__debug__":Str)) = false:=by decide)
    (he:starEach (e :: es) X.env = (false,eval e X.env) :: starEach es X.env:=by rfl) (hpl:(backTo pos (starEach es X.env)).any (·.1) = false:=by rfl):PE X (.Call (.Name x p) (e :: es) [] pos) (tCB r t):=by
  intro pins s σ H Q I h
  refine wpAny_Call_Name_kw (zHJ I hg hm hv ?_ hn hdb)
  exact qD0 (thn (ha pos pins s σ H _ I h) fun us s1 ⟨vs,H1,I1,r1,q1⟩=>hc pins s1 σ H1 vs us Q I1 r1 q1) he hpl
theorem zCX (hc:zCK X (.type T) r) (hg:Gl X x) (hm:X.mg x = none) (hv:bootBuiltins x = some (.type T)) (ha:PA X (e :: es) t) (hn:x ≠ "__name__":=by decide) (hdb:(x == ("__debug__":Str)) = false:=by decide)
    (he:starEach (e :: es) X.env = (false,eval e X.env) :: starEach es X.env:=by rfl) (hpl:(backTo pos (starEach es X.env)).any (·.1) = false:=by rfl):PE X (.Call (.Name x p) (e :: es) [] pos) (tCB r t):=by
  intro pins s σ H Q I h
  refine wpAny_Call_Name_kw (zHJ I hg hm hv ?_ hn hdb)
  exact qC7 (thn (ha pos pins s σ H _ I h) fun us s1 ⟨vs,H1,I1,r1,q1⟩=>hc pins s1 σ H1 vs us Q I1 r1 q1) he hpl
end
end L2
namespace HT
open PySem PyProof.Rows
section
open PySem.SeqAt
open PySem.AutoSeq1 (wpAny_loadPart')
open PySem.MeetsSeq PySem.MeetsSeq2 PySem.MeetsSeq3
end
section
variable {prog:Program} {w:World} {A:Around} {E:Value → Shared → Prop} {s:Shared}
noncomputable def sIx (n d:Nat):Option Int → Nat
  | none=>d
  | some v=>if v < 0 then (v + (n:Int)).toNat else min v.toNat n
end
end HT
namespace L2
open PySem PySem.Spec PyProof.Rows
abbrev TO:=St → Hp → (Option Int → Hp → Prop) → Prop
def PO (X:Cx) (e:Option Expr) (t:TO):Prop :=
  ∀ (pins:List (Addr × Obj)) (s:Shared) (σ:St) (H:Hp) (Q:Option Int → Hp → Prop),Inv X pins σ H s → t σ H Q →
    wpAny (model X.prog X.w) X.A (evalPart e X.env) (fun u s'=>∃ o H',Inv X pins σ H' s' ∧ IsPart u o ∧ Q o H') X.xe s
noncomputable def zNK:TO:=fun _ H Q=>Q none H
noncomputable def zVE (t:TE):TO:=fun σ H Q=>t σ H fun x H1=>∃ i,x = .int i ∧ Q (some i) H1
section
variable {X:Cx} {e:Expr} {te:TE} {lo hi:Option Expr} {tl th:TO} {pos p2:Pos}
theorem zBE:PO X none zNK:=by
  intro pins s σ H Q I h
  rw [evalPart_none]
  exact wpAny_pure ⟨none,H,I,.none,h⟩
theorem zB7 (h:PE X e te):PO X (some e) (zVE te):=by
  intro pins s σ H Q I hw
  rw [evalPart_some]
  refine thn (h pins s σ H _ I hw) fun u s1 ⟨x,H1,I1,r1,q1⟩=>?_
  obtain ⟨i,rfl,q⟩:=q1
  obtain ⟨t,rfl⟩:=r1
  exact ⟨some i,H1,I1,.int i t,q⟩
def SlR (X:Cx) (r:V → Option Int → Option Int → Hp → VK → Prop):Prop :=
  ∀ (pins:List (Addr × Obj)) (s:Shared) (σ:St) (H:Hp) (x:V) (v vl vu:Value) (lo hi:Option Int) (sl:Addr) (Q:VK),Inv X pins σ H s → RelV x v → s.heap.IsSliceOf sl vl vu .none → IsPart vl lo → IsPart vu hi → r x lo hi H Q →
    ∃ T id,typeLookup (.type T) "__getitem__" = pure (some (.builtin id)) ∧ s.TypeIs v T ∧ wpAny (model X.prog X.w) X.A (getItem v (.ref sl)) (EP X pins σ Q) X.xe s
noncomputable def tSl (r:V → Option Int → Option Int → Hp → VK → Prop) (te:TE) (tl th:TO):TE:=fun σ H Q=>te σ H fun x H1=>tl σ H1 fun l H2=>th σ H2 fun u H3=>r x l u H3 Q
theorem zB3 {r:V → Option Int → Option Int → Hp → VK → Prop} (hr:SlR X r) (he:PE X e te) (hl:PO X lo tl) (hu:PO X hi th):PE X (.Subscript e (.Slice lo hi none p2) pos) (tSl r te tl th):=by
  intro pins s σ H Q I h
  refine Subscript_ (thn (he pins s σ H _ I h) fun v s1 ⟨x,H1,I1,r1,q1⟩=>?_)
  refine wpAny_Slice (thn (hl pins s1 σ H1 _ I1 q1) fun vl s2 ⟨l,H2,I2,pl,q2⟩=>thn (hu pins s2 σ H2 _ I2 q2) fun vu s3 ⟨u,H3,I3,pu,q3⟩=>?_)
  rw [evalPart_none]
  refine wpAny_pure ?_
  have I4:Inv X pins σ H3 { s3 with heap:=s3.heap.push { cls:=.type "slice",data:=.fields #[vl,vu,.none] } }:=I3.kept (t':=s3.toks) fun b ob q=>Heap.get?_push_of_some _ q
  obtain ⟨T,id,hT,ht,hg⟩:=hr pins { s3 with heap:=s3.heap.push { cls:=.type "slice",data:=.fields #[vl,vu,.none] } } σ H3 x v vl vu l u s3.heap.objs.size Q I4 r1 (Heap.IsSliceOf.new ..) pl pu q3
  show wpAny (model X.prog X.w) X.A (subscriptTail e (.Slice lo hi none p2) v (.ref s3.heap.objs.size)) (EP X pins σ Q) X.xe { s3 with heap:=s3.heap.push { cls:=.type "slice",data:=.fields #[vl,vu,.none] } }
  exact tail_any (ops:=[.ref s3.heap.objs.size,v]) ht hT hg (by with_unfolding_all rfl)
def cutV (xs:List V) (lo hi:Option Int):List V:=(xs.drop (HT.sIx xs.length 0 lo)).take (HT.sIx xs.length xs.length hi - HT.sIx xs.length 0 lo)
theorem zL9 (xs:List V) (lo hi:Option Int):(cutV xs lo hi).length ≤ xs.length:=by
  unfold cutV
  rw [qEy,List.length_drop]
  omega
end
end L2
namespace L2
open PySem PySem.Spec PyProof.Rows
noncomputable def ixN (n:Nat) (i:Int):Option Nat:=if 0 ≤ i then (if i < n then some i.toNat else none) else if -(n:Int) ≤ i then some (i + n).toNat else none
def atI {α:Type} (xs:List α) (i:Int):Option α:=(ixN xs.length i).bind fun j=>xs[j]?
theorem zIL {n:Nat} {i:Int} {j:Nat} (h:ixN n i = some j):seqIndex? i n = some j ∧ j < n ∧ -(n:Int) ≤ i ∧ i < n:=by
  unfold ixN at h
  by_cases h0:0 ≤ i
  · rw [if_pos h0] at h
    by_cases h1:i < n
    · rw [if_pos h1] at h
      have e:i.toNat = j:=qAx h
      exact ⟨by rw [seqIndex_of h0 h1,e],by omega,by omega,h1⟩
    · rw [if_neg h1] at h; cases h
  · rw [if_neg h0] at h
    by_cases h1:-(n:Int) ≤ i
    · rw [if_pos h1] at h
      have e:(i + n).toNat = j:=qAx h
      exact ⟨by rw [seqIndex_neg (by omega) h1,e],by omega,h1,by omega⟩
    · rw [if_neg h1] at h; cases h
theorem zLH {α:Type} {xs:List α} {i:Int} {v:α} (h:atI xs i = some v):∃ j,seqIndex? i xs.length = some j ∧ xs[j]? = some v ∧ j < xs.length ∧ -(xs.length:Int) ≤ i ∧ i < xs.length:=by
  unfold atI at h
  cases e:ixN xs.length i with
  | none=>rw [e] at h; cases h
  | some j =>
    rw [e] at h
    obtain ⟨h1,h2,h3,h4⟩:=zIL e
    exact ⟨j,h1,h,h2,h3,h4⟩
def zUY (b:Expr):Prop:=∀ o i,subscripted b false o i = operate [o,i] (getItem o i)
def IxR (X:Cx) (r:R2):Prop :=
  ∀ (value slice:Expr) (pins:List (Addr × Obj)) (s:Shared) (σ:St) (H:Hp) (x y:V) (v u:Value) (Q:VK),Inv X pins σ H s → RelV x v → RelV y u → r x y H Q →
    subscripted slice false v u = operate [v,u] (getItem v u) → wpAny (model X.prog X.w) X.A (subscriptTail value slice v u) (EP X pins σ Q) X.xe s
def MtR (X:Cx) (id:String) (r:V → List V → Hp → VK → Prop):Prop :=
  ∀ (pins:List (Addr × Obj)) (s:Shared) (σ:St) (H:Hp) (x:V) (xs:List V) (v:Value) (us:List Value) (Q:VK),Inv X pins σ H s → RelV x v → Vals xs us → r x xs H Q →
    wpAny (model X.prog X.w) X.A (call (.builtin id) (v :: us)) (EP X pins σ Q) X.xe s
section
variable {X:Cx} {a b:Expr} {ta tb:TE} {pos:Pos}
theorem zCN {r:R2} (hr:IxR X r) (ha:PE X a ta) (hb:PE X b tb) (hs:zUY b):PE X (.Subscript a b pos) (tOp r ta tb):=by
  intro pins s σ H Q I h
  exact Subscript_ (binT ha hb I h fun v u s2 x y H2 I2 rx ry q=>hr a b pins s2 σ H2 x y v u Q I2 rx ry q (hs _ _))
def rIxL (K:qA1):R2:=fun x y H Q=>∃ p xs i v,x = .ref p ∧ y = .int i ∧ SqL K H p xs ∧ atI xs i = some v ∧ Q v H
def rIxT (K:qA1):R2:=fun x y H Q=>∃ p xs i v,x = .ref p ∧ y = .int i ∧ SqT K H p xs ∧ atI xs i = some v ∧ Q v H
def rIxS:R2:=fun x y H Q=>∃ z i c,x = .str z ∧ y = .int i ∧ z.length ≤ sizeLine ∧ atI z.cps.toList i = some c ∧ Q (.str ⟨#[c]⟩) H
theorem zUB:IxR X (rIxL X.K):=by
  intro value slice pins s σ H x y v u Q I rx ry h hs
  obtain ⟨p,xs,i,z,rfl,rfl,hq,he,q⟩:=h
  cases rx
  obtain ⟨t,rfl⟩:=ry
  obtain ⟨its,r,pl,hz⟩:=I.list hq
  obtain ⟨j,h1,h2,h3,h4,h5⟩:=zLH he
  obtain ⟨w,ew,rw'⟩:=r.get h2
  have hl:=r.length
  have hn:=zGB
  have fin:EP X pins σ Q w s:=⟨z,H,I,rw',q⟩
  by_cases h0:0 ≤ i
  · have hj:i.toNat = j:=by
      rw [seqIndex_of h0 h5] at h1
      exact qAx h1
    exact item_listR pl.isList h0 (by omega) (by rw [hj]; simpa using ew) fin hs
  · have hj:(i + (its.toArray.size:Int)).toNat = j:=by
      rw [seqIndex_neg (by omega) h4] at h1
      rw [qAc,← hl]
      exact qAx h1
    exact subscriptTail_builtinR (x:=w) pl.isList.typeIs slot_list_getitem.lookup
      (wpAny_getItem_list_neg (Q:=fun r s'=>r = w ∧ EP X pins σ Q r s') pl.isList (by omega) (by rw [qAc] <;> omega) (by omega) (by rw [hj]; simpa using ew) ⟨rfl,fin⟩) hs
theorem zWX:IxR X (rIxT X.K):=by
  intro value slice pins s σ H x y v u Q I rx ry h hs
  obtain ⟨p,xs,i,z,rfl,rfl,hq,he,q⟩:=h
  cases rx
  obtain ⟨t,rfl⟩:=ry
  obtain ⟨its,r,pl,hz⟩:=I.tuple hq
  obtain ⟨j,h1,h2,h3,h4,h5⟩:=zLH he
  obtain ⟨w,ew,rw'⟩:=r.get h2
  have hl:=r.length
  have hn:=zGB
  have fin:EP X pins σ Q w s:=⟨z,H,I,rw',q⟩
  exact subscriptTail_builtinR (x:=w) pl.typeIs slot_tuple_getitem.lookup
    (getItem_tuple (j:=j) (Q:=fun r s'=>r = w ∧ EP X pins σ Q r s') pl (by omega) (by omega) (by rw [qAc,← hl]; exact h1) (by simpa using ew) ⟨rfl,fin⟩) hs
theorem zWY:IxR X rIxS:=by
  intro value slice pins s σ H x y v u Q I rx ry h hs
  obtain ⟨z,i,c,rfl,rfl,hz,he,q⟩:=h
  obtain ⟨t,rfl⟩:=rx
  obtain ⟨t',rfl⟩:=ry
  obtain ⟨j,h1,h2,h3,h4,h5⟩:=zLH he
  have hl:z.cps.toList.length = z.length:=by simp [Str.length]
  rw [hl] at h1 h4 h5
  have hn:=zGB
  exact tail_any (typeIs_str s z t) slot_str_getitem.lookup (getItem_str (c:=c) (by
    have e1:decide (i < -(2 ^ 63:Int)) = false:=decide_eq_false (by omega)
    have e2:decide (i ≥ 2 ^ 63) = false:=decide_eq_false (by omega)
    rw [e1,e2,Bool.or_false]) (by rw [h1]; simpa using h2) ⟨.str ⟨#[c]⟩,H,I.tok _,⟨_,rfl⟩,q⟩) hs
theorem zMP (its:List Value) (n j:Nat) (u:Value):Obj.mapSeq (·.setIfInBounds j u) { cls:=.type "list",data:=.seq its.toArray n } = { cls:=.type "list",data:=.seq (its.set j u).toArray n }:=by
  simp [Obj.mapSeq]
theorem Inv.lst {pins:List (Addr × Obj)} {σ:St} {H:Hp} {s:Shared} {p:Addr} {xs:List V} (I:Inv X pins σ H s) (h:H p = some (.lst xs)) :
    ∃ (its:List Value) (n:Nat),Vals xs its ∧ s.heap.get? p = some { cls:=.type "list",data:=.seq its.toArray n } ∧ xs.length ≤ sizeLine:=by
  obtain ⟨z,its,n,r,e⟩:=I.hok p _ h
  exact ⟨its,n,r,e,z⟩
theorem Inv.lstUpd {pins:List (Addr × Obj)} {σ:St} {H:Hp} {s:Shared} {p:Addr} {xs ys:List V} {its its':List Value} {n n':Nat} {f:Obj → Obj} (I:Inv X pins σ H s) (h:H p = some (.lst xs))
    (ho:s.heap.get? p = some { cls:=.type "list",data:=.seq its.toArray n }) (hf:f { cls:=.type "list",data:=.seq its.toArray n } = { cls:=.type "list",data:=.seq its'.toArray n' }) (r:Vals ys its') (hz:ys.length ≤ sizeLine) (t:Nat) :
    Inv X pins σ (upd H p (.lst ys)) { s with heap:=s.heap.update p f,toks:=t }:=by
  have e:(s.heap.update p f).get? p = some { cls:=.type "list",data:=.seq its'.toArray n' }:=by
    rw [Heap.get?_update_self f ho (by rw [hf] <;> rfl),hf]
  refine I.write (x:=p) (e:=p) (by rw [h]; trivial) (.inl rfl) (fun b u hb q=>(Heap.get?_update_other _ _ (qCn hb)).trans q) ⟨_,e⟩ ?_
  exact ⟨hz,its',n',r,e⟩
def zXX:V → V → V → Hp → (Hp → Prop) → Prop:=fun o i v H Q=>∃ p xs k j,o = .ref p ∧ i = .int k ∧ H p = some (.lst xs) ∧ ixN xs.length k = some j ∧ Q (upd H p (.lst (xs.set j v)))
theorem zPX:PSet X zXX:=by
  intro pins s σ H o i v ov iv u Q I ro ri rv h
  obtain ⟨p,xs,k,j,rfl,rfl,hp,hj,q⟩:=h
  cases ro
  obtain ⟨t,rfl⟩:=ri
  obtain ⟨its,n,r,ho,hz⟩:=I.lst hp
  obtain ⟨h1,h2,h3,h4⟩:=zIL hj
  have hl:=r.length
  have hn:=zGB
  have I':Inv X pins σ (upd H p (.lst (xs.set j v))) { s with heap:=s.heap.update p (Obj.mapSeq (·.setIfInBounds j u)) } :=
    I.lstUpd hp ho (zMP its n j u) (r.set rv j) (by rw [qE7]; exact hz) s.toks
  by_cases h0:0 ≤ k
  · have hk:k.toNat = j:=by
      rw [seqIndex_of h0 h4] at h1
      exact qAx h1
    exact PySem.W.ki_setAt ho h0 (by omega) (by rw [qAc,← hl]; exact h4) (by rw [hk]; exact ⟨_,I',q⟩)
  · have hk:(k + (its.toArray.size:Int)).toNat = j:=by
      rw [seqIndex_neg (by omega) h3] at h1
      rw [qAc,← hl]
      exact qAx h1
    exact PySem.W.ki_setBack ho (by omega) (by rw [qAc,← hl]; exact h3) (by omega) (by rw [hk]; exact ⟨_,I',q⟩)
theorem zJA (lo hi:Option Int) (n:Nat):(sliceBounds lo hi none n).1 = ((HT.sIx n 0 lo:Nat):Int) ∧ (sliceBounds lo hi none n).2.1 = ((HT.sIx n n hi:Nat):Int) ∧ (sliceBounds lo hi none n).2.2 = 1:=by
  refine ⟨?_,?_,rfl⟩
  · cases lo with
    | none=>simp [sliceBounds,HT.sIx]
    | some i =>
      simp only [sliceBounds,HT.sIx,qEz,show (1:Int) > 0 by decide,if_true]
      by_cases h:i < 0
      · simp only [h,if_true] <;> omega
      · simp only [h,if_false] <;> omega
  · cases hi with
    | none=>simp [sliceBounds,HT.sIx]
    | some i =>
      simp only [sliceBounds,HT.sIx,qEz,show (1:Int) > 0 by decide,if_true]
      by_cases h:i < 0
      · simp only [h,if_true] <;> omega
      · simp only [h,if_false] <;> omega
theorem zI2 (its:List Value) (lo hi:Option Int):slicePick its.toArray lo hi none = ((its.drop (HT.sIx its.length 0 lo)).take (HT.sIx its.length its.length hi - HT.sIx its.length 0 lo)).toArray:=by
  obtain ⟨h1,h2,h3⟩:=zJA lo hi its.toArray.size
  unfold slicePick
  rw [h1,h2,h3]
  simp only [sliceRange_one,pick_run,qAc] <;> rfl
def rSlL (K:qA1):V → Option Int → Option Int → Hp → VK → Prop:=fun x lo hi H Q=>∃ a xs,x = .ref a ∧ SqL K H a xs ∧ ∀ p,H p = none → Q (.ref p) (upd H p (.lst (cutV xs lo hi)))
theorem zTB:SlR X (rSlL X.K):=by
  intro pins s σ H x v vl vu lo hi sl Q I rx hs pl pu h
  obtain ⟨a,xs,rfl,hx,q⟩:=h
  cases rx
  obtain ⟨its,r,ht,hz⟩:=I.list hx
  have hlen:=r.length
  refine ⟨"list",_,slot_list_getitem.lookup,ht.isList.typeIs,?_⟩
  refine wpAny_getItem_list_slice ht.isList hs pl pu .none (by simp) ?_ (by rw [qAc] <;> omega)
  rw [zI2,← hlen]
  refine ⟨.ref s.heap.objs.size,_,I.laid (t':=s.toks) (o:=.lst (cutV xs lo hi)) (fun b ob q=>Heap.get?_push_of_some _ q) (qA7 _) ?_,rfl,q _ (I.hok.fresh (qA7 _))⟩
  exact ⟨qAo (zL9 xs lo hi) hz,_,0,(r.drop (HT.sIx xs.length 0 lo)).take (HT.sIx xs.length xs.length hi - HT.sIx xs.length 0 lo),Heap.get?_push_size _ rfl⟩
noncomputable def zEZ:V → Bool
  | .non=>true
  | .bl _=>true
  | .int _=>true
  | .str _=>true
  | _=>false
noncomputable def eqV:V → V → Bool
  | .non,.non=>true
  | .bl a,.bl b=>a == b
  | .bl a,.int b=>(if a then 1 else 0) == b
  | .int a,.bl b=>a == (if b then 1 else 0)
  | .int a,.int b=>a == b
  | .str a,.str b=>a == b
  | _,_=>false
theorem zSI {A:Around} {s:Shared} {y x:V} {u v:Value} (ry:RelV y u) (rx:RelV x v) (fy:zEZ y = true) (fx:zEZ x = true):SeqAt.EqAt A s u v (eqV y x):=by
  cases y with
  | non =>
    cases ry
    cases x with
    | non=>cases rx; exact SeqAt.EqAt.same _
    | bl b=>cases rx; exact SeqAt.EqAt.none_bool b
    | int b=>obtain ⟨t,rfl⟩:=rx; exact SeqAt.EqAt.none_int b t
    | str b=>obtain ⟨t,rfl⟩:=rx; exact SeqAt.EqAt.none_str b t
    | _=>exact absurd (show false = true from fx) qAe
  | bl a =>
    cases ry
    cases x with
    | non=>cases rx; exact SeqAt.EqAt.bool_none a
    | bl b=>cases rx; exact SeqAt.EqAt.bool_bool a b
    | int b=>obtain ⟨t,rfl⟩:=rx; exact SeqAt.EqAt.bool_int a b t
    | str b=>obtain ⟨t,rfl⟩:=rx; exact SeqAt.EqAt.bool_str a b t
    | _=>exact absurd (show false = true from fx) qAe
  | int a =>
    obtain ⟨t',rfl⟩:=ry
    cases x with
    | non=>cases rx; exact SeqAt.EqAt.int_none a t'
    | bl b=>cases rx; exact SeqAt.EqAt.int_bool a t' b
    | int b=>obtain ⟨t,rfl⟩:=rx; exact SeqAt.EqAt.int_int a t' b t
    | str b=>obtain ⟨t,rfl⟩:=rx; exact SeqAt.EqAt.int_str a t' b t
    | _=>exact absurd (show false = true from fx) qAe
  | str a =>
    obtain ⟨t',rfl⟩:=ry
    cases x with
    | non=>cases rx; exact SeqAt.EqAt.str_none a t'
    | bl b=>cases rx; exact SeqAt.EqAt.str_bool a t' b
    | int b=>obtain ⟨t,rfl⟩:=rx; exact SeqAt.EqAt.str_int a t' b t
    | str b=>obtain ⟨t,rfl⟩:=rx; exact SeqAt.EqAt.str_str a t' b t
    | _=>exact absurd (show false = true from fx) qAe
  | _=>exact absurd (show false = true from fy) qAe
def eqU (x:V) (u:Value):Bool:=match u with
  | .none=>eqV .non x
  | .bool b=>eqV (.bl b) x
  | .int i _=>eqV (.int i) x
  | .str z _=>eqV (.str z) x
  | _=>false
theorem zSG {x y:V} {u:Value} (r:RelV y u) (f:zEZ y = true):eqU x u = eqV y x:=by
  cases y with
  | non=>cases r; rfl
  | bl b=>cases r; rfl
  | int i=>obtain ⟨t,rfl⟩:=r; rfl
  | str z=>obtain ⟨t,rfl⟩:=r; rfl
  | _=>exact absurd (show false = true from f) qAe
theorem zGT {x:V}:∀ {xs:List V} {us:List Value},Vals xs us → xs.all zEZ = true → us.any (eqU x) = xs.any fun y=>eqV y x
  | _,_,.nil,_=>rfl
  | y :: xs,u :: us,.cons r t,f=>by
    rw [qCq,qBk] at f
    rw [qCc,qCc,zSG r f.1,zGT t f.2]
theorem zEM {A:Around} {s:Shared} {x:V} {v:Value} (rx:RelV x v) (fx:zEZ x = true):∀ {xs:List V} {us:List Value},Vals xs us → xs.all zEZ = true → ∀ u ∈ us,SeqAt.EqAt A s u v (eqU x u)
  | _,_,.nil,_=>fun u hu=>by cases hu
  | y :: xs,u :: us,.cons r t,f=>fun u' hu=>by
    rw [qCq,qBk] at f
    rcases qA9.mp hu with rfl | hu
    · rw [zSG r f.1]; exact zSI r rx f.1 fx
    · exact zEM rx fx t f.2 u' hu
def inV (x:V) (xs:List V):Bool:=xs.any fun y=>eqV y x
def rIn (K:qA1) (neg:Bool):R2:=fun x y H Q=>∃ p xs,y = .ref p ∧ (SqL K H p xs ∨ SqT K H p xs) ∧ zEZ x = true ∧ xs.all zEZ = true ∧ Q (.bl (if neg then !inV x xs else inV x xs)) H
theorem zOC:OpR X (compareOp .In) (rIn X.K false):=by
  intro pins s σ H x y v u Q I rx ry h
  obtain ⟨p,xs,rfl,hq,fx,fs,q⟩:=h
  cases ry
  rcases hq with hq | hq
  · obtain ⟨its,r,pl,hz⟩:=I.list hq
    refine SeqAt.in_listAt (eqU x) pl.isList (fun w hw=>zEM rx fx r fs w (by simpa using hw)) ⟨.bl _,H,I,rfl,?_⟩
    rw [show its.toArray.any (eqU x) = its.any (eqU x) by simp,zGT r fs]
    exact q
  · obtain ⟨its,r,pl,hz⟩:=I.tuple hq
    refine SeqAt.in_tupleAt (eqU x) pl (fun w hw=>zEM rx fx r fs w (by simpa using hw)) ⟨.bl _,H,I,rfl,?_⟩
    rw [show its.toArray.any (eqU x) = its.any (eqU x) by simp,zGT r fs]
    exact q
theorem zJK:OpR X (compareOp .NotIn) (rIn X.K true):=by
  intro pins s σ H x y v u Q I rx ry h
  obtain ⟨p,xs,rfl,hq,fx,fs,q⟩:=h
  cases ry
  rcases hq with hq | hq
  · obtain ⟨its,r,pl,hz⟩:=I.list hq
    refine SeqAt.notIn_listAt (eqU x) pl.isList (fun w hw=>zEM rx fx r fs w (by simpa using hw)) ⟨.bl _,H,I,rfl,?_⟩
    rw [show its.toArray.any (eqU x) = its.any (eqU x) by simp,zGT r fs]
    exact q
  · obtain ⟨its,r,pl,hz⟩:=I.tuple hq
    refine SeqAt.notIn_tupleAt (eqU x) pl (fun w hw=>zEM rx fx r fs w (by simpa using hw)) ⟨.bl _,H,I,rfl,?_⟩
    rw [show its.toArray.any (eqU x) = its.any (eqU x) by simp,zGT r fs]
    exact q
theorem zJJ:OpR X (compareOp .NotIn) (fun x y H Q=>∃ i j,x = .str i ∧ y = .str j ∧ Q (.bl (!(!(Builtin.Str.occurrences j i 0 j.length 1).isEmpty))) H):=by
  intro pins s σ H x y v u Q I rx ry h
  obtain ⟨i,j,rfl,rfl,q⟩:=h
  obtain ⟨t,rfl⟩:=rx
  obtain ⟨t',rfl⟩:=ry
  exact notIn_str ⟨.bl _,H,I,rfl,q⟩
theorem zKC:zCK X (.builtin "len") (fun xs H Q=>∃ p ys,xs = [.ref p] ∧ (SqL X.K H p ys ∨ SqT X.K H p ys) ∧ Q (.int ys.length) H):=by
  intro pins s σ H xs us Q I r h
  obtain ⟨p,ys,rfl,hq,q⟩:=h
  obtain ⟨u,rfl,rx⟩:=zEF r
  cases rx
  have hn:=zGB
  rcases hq with hq | hq
  · obtain ⟨its,r',pl,hz⟩:=I.list hq
    have hlen:=r'.length
    exact Calls.call_len_list pl.isList (by simp only [qAc] <;> omega) ⟨.int ys.length,H,I.tok _,⟨s.toks + 1,by rw [qAc,hlen]⟩,q⟩
  · obtain ⟨its,r',pl,hz⟩:=I.tuple hq
    have hlen:=r'.length
    exact len_tuple pl (by simp only [qAc] <;> omega) ⟨.int ys.length,H,I.tok _,⟨s.toks + 1,by rw [qAc,hlen]⟩,q⟩
theorem zKB:zCK X (.builtin "len") (fun xs H Q=>∃ z,xs = [.str z] ∧ z.length ≤ sizeLine ∧ Q (.int z.length) H):=by
  intro pins s σ H xs us Q I r h
  obtain ⟨z,rfl,hz,q⟩:=h
  obtain ⟨u,rfl,t,rfl⟩:=zEF r
  have hn:=zGB
  exact len_str (by omega) ⟨.int z.length,H,I.tok _,⟨_,rfl⟩,q⟩
theorem zKA:zCK X (.type "list") (fun xs H Q=>∃ p ys,xs = [.ref p] ∧ (SqL X.K H p ys ∨ SqT X.K H p ys) ∧ ∀ l,H l = none → Q (.ref l) (upd H l (.lst ys))):=by
  intro pins s σ H xs us Q I r h
  obtain ⟨p,ys,rfl,hq,q⟩:=h
  obtain ⟨u,rfl,rx⟩:=zEF r
  cases rx
  have fin:∀ (its:List Value),Vals ys its → ys.length ≤ sizeLine → ∀ (h':Heap) (c':Nat),(∀ b o',s.heap.get? b = some o' → h'.get? b = some o') →
      h'.get? s.heap.objs.size = some { cls:=.type "list",dict:=none,data:=.seq its.toArray c',slots:=#[] } → EP X pins σ Q (.ref s.heap.objs.size) { s with heap:=h' }:=fun its r' hz h' c' kp e =>
    ⟨.ref s.heap.objs.size,_,I.laid (t':=s.toks) kp (qA7 _) (show ObjOk X.prog X.w _ h' _ (.lst ys) from ⟨hz,its,c',r',e⟩),rfl,q _ (I.hok.fresh (qA7 _))⟩
  rcases hq with hq | hq
  · obtain ⟨its,r',pl,hz⟩:=I.list hq
    have hlen:=r'.length
    obtain ⟨o,ho,hc,n,hd⟩:=pl.isList
    exact call_list_seq p (.inl rfl) ho hc hd (fun h' c' kp e=>fin its r' hz h' c' kp e) (by simp only [qAc] <;> omega)
  · obtain ⟨its,r',pl,hz⟩:=I.tuple hq
    have hlen:=r'.length
    obtain ⟨o,ho,hc,n,hd⟩:=pl
    exact call_list_seq p (.inr rfl) ho hc hd (fun h' c' kp e=>fin its r' hz h' c' kp e) (by simp only [qAc] <;> omega)
def tyV (K:qA1) (T:String) (x:V) (H:Hp):Prop:=match x with
  | .str _=>T = "str"
  | .int _=>T = "int"
  | .ref p=>(T = "list" ∧ ∃ xs,SqL K H p xs) ∨ (T = "tuple" ∧ ∃ o,K.lookup p = some o ∧ o.cls = .type "tuple" ∧ o.dict = none) ∨
      (T = "dict" ∧ ((∃ kvs,H p = some (.dK kvs)) ∨ ∃ kvs,H p = some (.dT kvs))) ∨ (T = "set" ∧ ∃ S n,H p = some (.set S n))
  | _=>False
theorem zRJ {pins:List (Addr × Obj)} {σ:St} {H:Hp} {s:Shared} {T:String} {x:V} {v:Value} (I:Inv X pins σ H s) (r:RelV x v) (ty:tyV X.K T x H) :
    s.TypeIs v T ∧ ∀ a,v = .ref a → ∃ ob,s.heap.get? a = some ob ∧ ob.dict = none:=by
  cases x with
  | str z =>
    obtain ⟨t,rfl⟩:=r
    cases (show T = "str" from ty)
    exact ⟨typeIs_str s z t,fun _ e=>nomatch e⟩
  | int i =>
    obtain ⟨t,rfl⟩:=r
    cases (show T = "int" from ty)
    exact ⟨typeIs_int s i t,fun _ e=>nomatch e⟩
  | ref p =>
    cases r
    rcases ty with ⟨rfl,xs,hq⟩ | ⟨rfl,o,hk,hc,hd⟩ | ⟨rfl,hk⟩ | ⟨rfl,S,n,hk⟩
    · obtain ⟨its,_,pl,_⟩:=I.list hq
      refine ⟨pl.isList.typeIs,fun a e=>?_⟩
      cases e
      obtain ⟨o,n,e,c,hd,_⟩:=pl
      exact ⟨o,e,hd⟩
    · refine ⟨⟨o,I.kIn p o hk,hc⟩,fun a e=>?_⟩
      cases e
      exact ⟨o,I.kIn _ o hk,hd⟩
    · have z:∃ o,s.heap.get? p = some o ∧ o.ExactDict:=by
        rcases hk with ⟨kvs,hk⟩ | ⟨kvs,hk⟩
        · obtain ⟨_,_,_,_,o,_,_,e,ex,_⟩:=I.hok p _ hk
          exact ⟨o,e,ex⟩
        · obtain ⟨_,_,_,_,o,_,_,e,ex,_⟩:=I.hok p _ hk
          exact ⟨o,e,ex⟩
      obtain ⟨o,e,ex⟩:=z
      refine ⟨⟨o,e,ex.1⟩,fun a e2=>?_⟩
      cases e2
      exact ⟨o,e,ex.2.1⟩
    · obtain ⟨o,_,_,_,e,ex,_⟩:=I.hok p _ hk
      refine ⟨⟨o,e,ex.1⟩,fun a e2=>?_⟩
      cases e2
      exact ⟨o,e,ex.2.1⟩
  | _=>exact qAf ty
noncomputable def tBM (K:qA1) (T:String) (r:V → List V → Hp → VK → Prop) (to:TE) (t:TA):TE:=fun σ H Q=>to σ H fun x H1=>tyV K T x H1 ∧ t σ H1 fun xs H2=>r x xs H2 Q
variable {o e:Expr} {es:List Expr} {to:TE} {t:TA} {name:Str} {apos cpos:Pos} {T id:String} {r:V → List V → Hp → VK → Prop}
theorem zEY (pa:PlainAttrs T) (slot:Slot T name id) (hty:typeOf (.builtin id) = pure (.type "method_descriptor")) (hm:MtR X id r) (ho:PE X o to) (ha:PA X (e :: es) t)
    (hbase:attributeBase o name X.env (eval o X.env) = eval o X.env:=by rfl)
    (hfew:((backTo cpos (starEach (e :: es) X.env)).all (fun x=>!x.1) && (backToKw cpos (keywordEach [] X.env)).all (fun x=>x.1.isSome)
      && decide ((e :: es).length + ([]:List Keyword).length + (if ([]:List Keyword).isEmpty then 0 else 1) < 30)) = true:=by rfl)
    (hline:(apos.endLine == cpos.line) = true:=by rfl) (hs:starEach (e :: es) X.env = (false,eval e X.env) :: starEach es X.env:=by rfl) (hplain:(backTo cpos (starEach es X.env)).any (·.1) = false:=by rfl) :
    PE X (.Call (.Attribute o name apos) (e :: es) [] cpos) (tBM X.K T r to t):=by
  intro pins s σ H Q I h
  refine wpAny_Call_method_late hbase hfew hline rfl (thn (ho pins s σ H _ I h) fun v s1 ⟨x,H1,I1,r1,ty,q1⟩=>?_)
  obtain ⟨h1,h2⟩:=zRJ I1 r1 ty
  refine ⟨T,id,pa,slot,hty,h1,h2,?_⟩
  have hA:=ha cpos pins s1 σ H1 _ I1 q1
  rw [hs] at hA ⊢
  refine Calls.callWith_builtin (by show (false || (backTo cpos (starEach es X.env)).any (·.1)) = false; rw [hplain] <;> rfl) (Calls.evalArgs_plain ?_)
  exact thn hA fun us s2 ⟨vs,H2,I2,r2,q2⟩=>hm pins s2 σ H2 x vs v us Q I2 r1 r2 q2
end
end L2
namespace L2
open PySem PySem.Spec PyProof.Rows
def MtM (X:Cx) (id:String) (r:V → List V → Hp → VK → Prop):Prop :=
  ∀ (pins:List (Addr × Obj)) (s:Shared) (σ:St) (H:Hp) (x:V) (xs:List V) (v:Value) (us:List Value) (Q:VK),Inv X pins σ H s → RelV x v → Vals xs us → r x xs H Q →
    wpAny (model X.prog X.w) X.A (call (.builtin id) (v :: us)) (EP X pins σ Q) X.xe s
theorem Vals.one:∀ {x:V} {us:List Value},Vals [x] us → ∃ u,us = [u] ∧ RelV x u
  | _,_,.cons r .nil=>⟨_,rfl,r⟩
theorem Vals.zero:∀ {us:List Value},Vals [] us → us = []
  | _,.nil=>rfl
theorem Vals.dropLast {xs:List V} {us:List Value} (h:Vals xs us):Vals xs.dropLast us.dropLast:=by
  induction h with
  | nil=>exact .nil
  | cons r t ih =>
    cases t with
    | nil=>exact .nil
    | cons q t'=>exact .cons r ih
theorem Vals.eraseIdx:∀ {xs:List V} {us:List Value} (i:Nat),Vals xs us → Vals (xs.eraseIdx i) (us.eraseIdx i)
  | _,_,_,.nil=>.nil
  | _,_,0,.cons _ t=>t
  | _,_,i + 1,.cons r t=>.cons r (Vals.eraseIdx i t)
theorem zMW {α:Type} (l:List α):l.eraseIdx (l.length - 1) = l.dropLast:=by
  induction l with
  | nil=>rfl
  | cons a r ih =>
    cases r with
    | nil=>rfl
    | cons b r =>
      have e:(a :: b :: r).length - 1 = ((b :: r).length - 1) + 1:=by
        have h1:(a :: b :: r).length = r.length + 2:=rfl
        have h2:(b :: r).length = r.length + 1:=rfl
        omega
      rw [e,qC1,ih]
      all_goals rfl
theorem len_erase {α:Type}:∀ (l:List α) (i:Nat),(l.eraseIdx i).length ≤ l.length
  | [],_=>qA7 _
  | _ :: _,0=>qDa _
  | _ :: r,i + 1=>Nat.succ_le_succ (len_erase r i)
section
variable {X:Cx} {pins:List (Addr × Obj)} {σ:St} {H:Hp} {s:Shared} {l b:Addr} {xs ys zs:List V}
theorem Inv.lset {its its':List Value} {n:Nat} {f:Array Value → Array Value} {t':Nat} (I:Inv X pins σ H s) (hH:H l = some (.lst xs))
    (e:s.heap.get? l = some { cls:=.type "list",data:=.seq its.toArray n }) (hf:f its.toArray = its'.toArray) (hv:Vals ys its') (hz:ys.length ≤ sizeLine) :
    Inv X pins σ (upd H l (.lst ys)) { s with heap:=s.heap.update l (Obj.mapSeq f),toks:=t' }:=by
  have q:=PySem.IsL.update e f
  rw [hf] at q
  refine I.write (x:=l) (e:=l) (by rw [hH]; exact trivial) (.inl rfl) (fun b' u hb hu=>(Heap.get?_update_other s.heap (Obj.mapSeq f) (qCn hb)).trans hu) ⟨_,q⟩ ?_
  exact ⟨hz,its',_,hv,q⟩
theorem Inv.lnew {its:List Value} {t':Nat} (I:Inv X pins σ H s) (hv:Vals ys its) (hz:ys.length ≤ sizeLine) :
    Inv X pins σ (upd H s.heap.objs.size (.lst ys)) { s with heap:=s.heap.push { cls:=.type "list",data:=.seq its.toArray },toks:=t' } :=
  I.laid (fun _ _ q=>Heap.get?_push_of_some _ q) (qA7 _) ⟨hz,its,0,hv,Heap.get?_push_size _ rfl⟩
theorem Inv.fresh (I:Inv X pins σ H s):H s.heap.objs.size = none:=I.hok.fresh (qA7 _)
theorem Inv.lstM (I:Inv X pins σ H s) (hH:H l = some (.lst xs)):xs.length ≤ sizeLine ∧ ∃ (its:List Value) (n:Nat),Vals xs its ∧ xs.length = its.length ∧ s.heap.get? l = some { cls:=.type "list",data:=.seq its.toArray n }:=by
  obtain ⟨z,its,n,r,e⟩:=I.hok l _ hH
  exact ⟨z,its,n,r,r.length,e⟩
theorem zQF {n:Nat} (h:n ≤ sizeLine):Builtin.List.listTooLong n = false:=by
  unfold Builtin.List.listTooLong
  exact decide_eq_false (by omega)
end
section
variable {X:Cx}
def zTP:V → List V → Hp → VK → Prop:=fun x vs H Q=>∃ l xs y,x = .ref l ∧ vs = [y] ∧ H l = some (.lst xs) ∧ xs.length < sizeLine ∧ Q .non (upd H l (.lst (xs ++ [y])))
theorem zOE:MtM X "list.append" zTP:=by
  intro pins s σ H x vs v us Q I rx rv h
  obtain ⟨l,xs,y,rfl,rfl,hH,hz,q⟩:=h
  cases rx
  obtain ⟨u,rfl,ru⟩:=rv.one
  obtain ⟨z,its,n,r,hl,e⟩:=I.lstM hH
  refine call_meets F.slot_list_append ⟨_,e,rfl⟩ F.entry_list_append (F.args_list_append_2 _ _) (PySem.list_append l its.toArray n u (by rw [qAc]; omega)) ⟨e,?_⟩
  refine ⟨.non,_,I.lset (its':=its ++ [u]) hH e (by simp) (r.append (.cons ru .nil)) ?_,rfl,q⟩
  rw [qAt,qE8]
  omega
def zTN:V → List V → Hp → VK → Prop:=fun x vs H Q=>∃ l b xs zs,x = .ref l ∧ vs = [.ref b] ∧ H l = some (.lst xs) ∧ H b = some (.lst zs) ∧ xs.length + zs.length ≤ sizeLine ∧ Q .non (upd H l (.lst (xs ++ zs)))
theorem mt_extend:MtM X "list.extend" zTN:=by
  intro pins s σ H x vs v us Q I rx rv h
  obtain ⟨l,b,xs,zs,rfl,rfl,hH,hB,hz,q⟩:=h
  cases rx
  obtain ⟨u,rfl,ru⟩:=rv.one
  cases ru
  obtain ⟨z,its,n,r,hl,e⟩:=I.lstM hH
  obtain ⟨z2,its2,n2,r2,hl2,e2⟩:=I.lstM hB
  have hsz:its.toArray.size + its2.toArray.size ≤ sizeLine:=by rw [qAc,qAc]; omega
  have hlong:¬ (!its.toArray.isEmpty && Builtin.List.listTooLong (its.toArray.size + its2.toArray.size)) = true:=by
    rw [zQF hsz,qCf]
    exact qAe
  refine call_meets F.slot_list_extend ⟨_,e,rfl⟩ F.entry_list_extend (F.args_list_extend_2 _ _)
    (AutoSeq1.list_extend_list_list_0 l its.toArray n b its2.toArray n2 hlong (by rw [qAc]; omega) (by omega)) ⟨e,e2,?_⟩
  refine ⟨.non,_,I.lset (its':=its ++ its2) hH e (by simp) (r.append r2) ?_,rfl,q⟩
  rw [qAt]
  omega
def rPop:V → List V → Hp → VK → Prop:=fun x vs H Q=>∃ l xs y,x = .ref l ∧ vs = [] ∧ H l = some (.lst xs) ∧ xs[xs.length - 1]? = some y ∧ Q y (upd H l (.lst xs.dropLast))
theorem zWK:MtM X "list.pop" rPop:=by
  intro pins s σ H x vs v us Q I rx rv h
  obtain ⟨l,xs,y,rfl,rfl,hH,hy,q⟩:=h
  cases rx
  have hus:=rv.zero
  subst hus
  obtain ⟨z,its,n,r,hl,e⟩:=I.lstM hH
  obtain ⟨u,hu,ru⟩:=r.get hy
  have hy':its.toArray[its.toArray.size - 1]? = some u:=by
    show its.toArray[its.length - 1]? = some u
    rw [← qC8,← hl]
    exact hu
  refine call_meets F.slot_list_pop ⟨_,e,rfl⟩ F.entry_list_pop (F.args_list_pop_1 _) (MeetsSeq.list_pop_last l its.toArray n u hy' (by rw [qAc]; omega)) ⟨e,?_⟩
  refine ⟨y,_,I.lset (its':=its.dropLast) hH e ?_ r.dropLast ?_,ru,q⟩
  · show its.toArray.eraseIdxIfInBounds (its.toArray.size - 1) = its.dropLast.toArray
    rw [qAc,qCw,zMW]
  · rw [List.length_dropLast]
    omega
def zVW:V → List V → Hp → VK → Prop:=fun x vs H Q=>∃ l xs i k y,x = .ref l ∧ vs = [.int i] ∧ H l = some (.lst xs) ∧ -(2 ^ 63) ≤ i ∧ i < 2 ^ 63 ∧ seqIndex? i xs.length = some k ∧ xs[k]? = some y ∧ Q y (upd H l (.lst (xs.eraseIdx k)))
theorem zQG:MtM X "list.pop" zVW:=by
  intro pins s σ H x vs v us Q I rx rv h
  obtain ⟨l,xs,i,k,y,rfl,rfl,hH,h1,h2,hk,hy,q⟩:=h
  cases rx
  obtain ⟨u,rfl,ru⟩:=rv.one
  obtain ⟨t,rfl⟩:=ru
  obtain ⟨z,its,n,r,hl,e⟩:=I.lstM hH
  obtain ⟨w,hw,rw'⟩:=r.get hy
  refine call_meets F.slot_list_pop ⟨_,e,rfl⟩ F.entry_list_pop (F.args_list_pop_2 _ _)
    (MeetsSeq.list_pop_at l its.toArray n i t k w (fitsIndex_both h1 h2) (by rw [qAc,← hl]; exact hk) (by rw [← qC8]; exact hw) (by rw [qAc]; omega)) ⟨e,?_⟩
  refine ⟨y,_,I.lset (its':=its.eraseIdx k) hH e ?_ (r.eraseIdx k) ?_,rw',q⟩
  · show its.toArray.eraseIdxIfInBounds k = (its.eraseIdx k).toArray
    rw [qCw]
  · have:=len_erase xs k
    omega
def rCat:R2:=fun x y H Q=>∃ l b xs zs,x = .ref l ∧ y = .ref b ∧ H l = some (.lst xs) ∧ H b = some (.lst zs) ∧ xs.length + zs.length ≤ sizeLine ∧ ∀ p,H p = none → Q (.ref p) (upd H p (.lst (xs ++ zs)))
theorem zWH:OpR X (binaryOp .Add) rCat:=by
  intro pins s σ H x y v u Q I rx ry h
  obtain ⟨l,b,xs,zs,rfl,rfl,hH,hB,hz,q⟩:=h
  cases rx
  cases ry
  obtain ⟨z,its,n,r,hl,e⟩:=I.lstM hH
  obtain ⟨z2,its2,n2,r2,hl2,e2⟩:=I.lstM hB
  refine PySem.P.add_list e e2 ?_ (by rw [qAc,qAc]; omega)
  have ea:its.toArray ++ its2.toArray = (its ++ its2).toArray:=by simp
  rw [ea]
  exact ⟨.ref _,_,I.lnew (t':=s.toks) (r.append r2) (by rw [qAt]; omega),rfl,q _ I.fresh⟩
end
section
variable {prog:Program} {w:World} {A:Around} {E:Value → Shared → Prop} {s:Shared}
end
section
variable {X:Cx}
end
end L2
namespace L2
open PySem PySem.Spec PyProof.Rows
section
variable {κ:Type} [DecidableEq κ]
noncomputable def valV (kvs:List (κ × V)) (k:κ):Option V:=(kvs.find? fun kv=>decide (kv.1 = k)).map (·.2)
noncomputable def putK (kvs:List (κ × V)) (k:κ) (v:V):List (κ × V) :=
  if (kvs.any fun kv=>decide (kv.1 = k)) = true then kvs.map (fun kv=>if kv.1 = k then (kv.1,v) else kv) else kvs ++ [(k,v)]
noncomputable def zXA (kvs:List (κ × V)) (k:κ):List (κ × V):=kvs.filter fun kv=>decide (kv.1 ≠ k)
theorem zHV {p:κ × V} {r:List (κ × V)} {k:κ} (e:p.1 = k):valV (p :: r) k = some p.2:=by simp [valV,qBu,e]
theorem zHW {p:κ × V} {r:List (κ × V)} {k:κ} (e:¬ p.1 = k):valV (p :: r) k = valV r k:=by simp [valV,qBu,e]
theorem zLM (k:κ):∀ kvs:List (κ × V),(kvs.any fun kv=>decide (kv.1 = k)) = (valV kvs k).isSome
  | []=>rfl
  | p :: r=>by
    rw [qCc]
    by_cases e:p.1 = k
    · simp only [zHV e,decide_eq_true e,Bool.true_or,qDh]
    · rw [zHW e,decide_eq_false e,Bool.false_or]; exact zLM k r
theorem zGC (kvs:List (κ × V)) (k:κ) (v:V):(putK kvs k v).length ≤ kvs.length + 1:=by
  unfold putK
  split
  · rw [qAm]; omega
  · rw [qAt,qAi,qCr]; omega
theorem RelO.isSome_eq {o:Option V} {u:Option Value} (r:RelO o u):o.isSome = u.isSome:=by
  cases o with
  | none=>cases u with
    | none=>rfl
    | some _=>exact (show False from r).elim
  | some _=>cases u with
    | none=>exact (show False from r).elim
    | some _=>rfl
theorem KV.val {kvs:List (κ × V)} {vs:List (κ × Value)} (r:KV kvs vs) (k:κ):RelO (valV kvs k) (valueAt vs k):=by
  unfold KV at r
  induction r with
  | nil=>exact qCj
  | @cons p q ps qs h t ih =>
    obtain ⟨h1,h2⟩:=h
    by_cases e:p.1 = k
    · have e':q.1 = k:=h1.symm.trans e
      have b:valueAt (q :: qs) k = some q.2:=by simp [valueAt,qBu,e']
      rw [zHV e,b]; exact h2
    · have e':¬ q.1 = k:=fun z=>e (h1.trans z)
      have b:valueAt (q :: qs) k = valueAt qs k:=by simp [valueAt,qBu,e']
      rw [zHW e,b]; exact ih
theorem KV.any {kvs:List (κ × V)} {vs:List (κ × Value)} (r:KV kvs vs) (k:κ):(kvs.any fun kv=>decide (kv.1 = k)) = vs.any fun kv=>decide (kv.1 = k):=by
  unfold KV at r
  induction r with
  | nil=>rfl
  | cons h t ih=>rw [qCc,qCc,ih,h.1]
theorem KV.repl {kvs:List (κ × V)} {vs:List (κ × Value)} (r:KV kvs vs) (k:κ) {y:V} {u:Value} (ry:RelV y u) :
    KV (kvs.map fun kv=>if kv.1 = k then (kv.1,y) else kv) (vs.map fun kv=>if kv.1 = k then (kv.1,u) else kv):=by
  unfold KV at r ⊢
  induction r with
  | nil=>exact .nil
  | @cons p q ps qs h t ih =>
    rw [qAp,qAp]
    refine .cons ?_ ih
    obtain ⟨h1,h2⟩:=h
    by_cases e:p.1 = k
    · rw [if_pos e,if_pos (h1.symm.trans e)]; exact ⟨h1,ry⟩
    · rw [if_neg e,if_neg (fun z=>e (h1.trans z))]; exact ⟨h1,h2⟩
theorem KV.put {kvs:List (κ × V)} {vs:List (κ × Value)} (r:KV kvs vs) (k:κ) {y:V} {u:Value} (ry:RelV y u):KV (putK kvs k y) (stored vs k u):=by
  unfold putK stored
  rw [r.any k]
  by_cases e:(vs.any fun kv=>decide (kv.1 = k)) = true
  · rw [if_pos e,if_pos e]; exact r.repl k ry
  · rw [if_neg e,if_neg e]; exact Paired.snoc r ⟨rfl,ry⟩
theorem KV.drop {kvs:List (κ × V)} {vs:List (κ × Value)} (r:KV kvs vs) (k:κ):KV (zXA kvs k) (without vs k):=by
  unfold KV at r ⊢
  unfold zXA without
  induction r with
  | nil=>exact .nil
  | @cons p q ps qs h t ih =>
    obtain ⟨h1,h2⟩:=h
    rw [qDy,qDy]
    by_cases e:p.1 = k
    · have a:¬ decide (p.1 ≠ k) = true:=by simp [e]
      have b:¬ decide (q.1 ≠ k) = true:=by simp [h1.symm.trans e]
      rw [if_neg a,if_neg b]; exact ih
    · have e':¬ q.1 = k:=fun z=>e (h1.trans z)
      have a:decide (p.1 ≠ k) = true:=by simp [e]
      have b:decide (q.1 ≠ k) = true:=by simp [e']
      rw [if_pos a,if_pos b]; exact .cons ⟨h1,h2⟩ ih
theorem KV.length {kvs:List (κ × V)} {vs:List (κ × Value)} (r:KV kvs vs):kvs.length = vs.length:=Paired.length r
end
theorem zOL {P:Program} {w:World} {k:Key} {u:Value} (r:RelV (kV k) u):(zB6 P w).is k u = true:=by
  cases k with
  | inl i=>obtain ⟨t,e⟩:=(show ∃ t,u = Value.int i t from r); subst e; exact zL1 P w i t
  | inr x=>obtain ⟨t,e⟩:=(show ∃ t,u = Value.str x t from r); subst e; exact zL0 P w x t
theorem zJU {P:Program} {w:World}:∀ {ks:List Key} {us:List Value},Vals (ks.map kV) us → ItemsAre (zB6 P w) ks us
  | [],_,r=>by rw [qGa] at r; cases r; exact .nil
  | k :: ks,_,r=>by
    rw [qAp] at r
    cases r with
    | cons h t=>exact .cons (zOL h) (zJU t)
abbrev KT (H:Hp):List (List Key × V) → List (List Key × Addr × Value) → Prop:=Paired fun p q=>p.1 = q.1 ∧ H q.2.1 = some (.tup (p.1.map kV)) ∧ RelV p.2 q.2.2
theorem KT.val {H:Hp} {kvs:List (List Key × V)} {xs:List (List Key × Addr × Value)} (r:KT H kvs xs) (k:List Key):RelO (valV kvs k) ((atKey xs k).map (·.2)):=by
  induction r with
  | nil=>exact qCj
  | @cons p q ps qs h t ih =>
    obtain ⟨h1,_,h2⟩:=h
    by_cases e:p.1 = k
    · have e':q.1 = k:=h1.symm.trans e
      have b:atKey (q :: qs) k = some q.2:=by simp [atKey,qBu,e']
      rw [zHV e,b]; exact h2
    · have e':¬ q.1 = k:=fun z=>e (h1.trans z)
      have b:atKey (q :: qs) k = atKey qs k:=by simp [atKey,qBu,e']
      rw [zHW e,b]; exact ih
theorem KT.repl {H:Hp} {kvs:List (List Key × V)} {xs:List (List Key × Addr × Value)} (r:KT H kvs xs) (k:List Key) {y:V} {u:Value} (ry:RelV y u) :
    KT H (kvs.map fun kv=>if kv.1 = k then (kv.1,y) else kv) (xs.map (putAt k u)):=by
  induction r with
  | nil=>exact .nil
  | @cons p q ps qs h t ih =>
    rw [qAp,qAp]
    refine .cons ?_ ih
    obtain ⟨h1,h2,h3⟩:=h
    unfold putAt
    by_cases e:p.1 = k
    · rw [if_pos e,if_pos (h1.symm.trans e)]; exact ⟨h1,h2,ry⟩
    · rw [if_neg e,if_neg (fun z=>e (h1.trans z))]; exact ⟨h1,h2,h3⟩
theorem KT.put {H:Hp} {kvs:List (List Key × V)} {xs:List (List Key × Addr × Value)} (r:KT H kvs xs) (k:List Key) {b:Addr} {y:V} {u:Value} (hb:H b = some (.tup (k.map kV))) (ry:RelV y u) :
    KT H (putK kvs k y) (storedH xs k b u):=by
  have e:(kvs.any fun kv=>decide (kv.1 = k)) = (atKey xs k).isSome:=by
    rw [zLM,(r.val k).isSome_eq,qBv]
  unfold putK storedH
  rw [e]
  by_cases q:(atKey xs k).isSome = true
  · rw [if_pos q,if_pos q]; exact r.repl k ry
  · rw [if_neg q,if_neg q]; exact Paired.snoc r ⟨rfl,hb,ry⟩
theorem KT.keeps {H H':Hp} {kvs:List (List Key × V)} {xs:List (List Key × Addr × Value)} (r:KT H kvs xs) (ht:∀ b ys,H b = some (.tup ys) → H' b = some (.tup ys)):KT H' kvs xs :=
  Paired.mapP r fun _ _ z=>⟨z.1,ht _ _ z.2.1,z.2.2⟩
section
variable {P:Program} {w:World} {H:Hp} {h:Heap} {a:Addr}
theorem zVU {u:HO} (ok:HOk P w H h) (e:Rd H a u):ObjOk P w H h a u:=e.ok ok
theorem zP1 {kvs:List (Key × V)} (ok:HOk P w H h) (e:Rd H a (.dK kvs)):kvs.length ≤ sizeLine ∧ (a == sysModules) = false ∧ ∃ vs,KV kvs vs ∧ h.DictOf (zB6 P w) a vs :=
  show ObjOk P w H h a (.dK kvs) from zVU ok e
theorem zR2 {kvs:List (Key × V)} (ok:HOk P w H h) (e:H a = some (.dK kvs)):kvs.length ≤ sizeLine ∧ (a == sysModules) = false ∧ ∃ vs,KV kvs vs ∧ h.DictOf (zB6 P w) a vs:=zP1 ok (.inl e)
theorem zJT {ks:List Key} (ok:HOk P w H h) (e:H a = some (.tup (ks.map kV))):(tupleKind (zB6 P w)).is h ks a:=by
  obtain ⟨_,its,r,o,h1,h2,n,h3⟩:=(show ObjOk P w H h a (.tup (ks.map kV)) from ok a _ e)
  exact ⟨o,its.toArray,n,h1,h2,h3,by simpa using zJU r⟩
theorem zOY {kvs:List (List Key × V)} (ok:HOk P w H h) (e:Rd H a (.dT kvs)):kvs.length ≤ sizeLine ∧ (a == sysModules) = false ∧
    ∃ xs,KT H kvs xs ∧ h.DictOfH (tupleKind (zB6 P w)) a xs:=by
  obtain ⟨z,y,xs,r,o,es,ep,h1,h2,h3,h4,h5⟩:=(show ObjOk P w H h a (.dT kvs) from zVU ok e)
  refine ⟨z,y,xs,r,o,es,ep,h1,h2,h3,h4,fun x hx=>?_,h5⟩
  have all:∀ {l:List (List Key × V)} {m:List (List Key × Addr × Value)},KT H l m → ∀ x ∈ m,(tupleKind (zB6 P w)).is h x.1 x.2.1:=by
    intro l m q
    induction q with
    | nil=>intro x hx; exact nomatch hx
    | @cons p q ps qs hq t ih =>
      intro x hx
      rcases qA9.mp hx with e | hx
      · subst e
        exact zJT ok (by rw [← hq.1]; exact hq.2.1)
      · exact ih x hx
  exact all r x hx
theorem zYD {kvs:List (List Key × V)} (ok:HOk P w H h) (e:H a = some (.dT kvs)):kvs.length ≤ sizeLine ∧ (a == sysModules) = false ∧
    ∃ xs,KT H kvs xs ∧ h.DictOfH (tupleKind (zB6 P w)) a xs:=zOY ok (.inl e)
end
def DGet (H:Hp) (a:Addr) (y:V) (r:Option V):Prop :=
  (∃ kvs k,Rd H a (.dK kvs) ∧ y = kV k ∧ r = valV kvs k) ∨ ∃ kvs k b,Rd H a (.dT kvs) ∧ y = .ref b ∧ H b = some (.tup (k.map kV)) ∧ r = valV kvs k
def DPut (H:Hp) (a:Addr) (y v:V) (H':Hp):Prop :=
  (∃ kvs k,H a = some (.dK kvs) ∧ y = kV k ∧ kvs.length < sizeLine ∧ H' = upd H a (.dK (putK kvs k v))) ∨
  ∃ kvs k b,H a = some (.dT kvs) ∧ y = .ref b ∧ H b = some (.tup (k.map kV)) ∧ kvs.length < sizeLine ∧ H' = upd H a (.dT (putK kvs k v))
theorem DGet.k {H:Hp} {a:Addr} {kvs:List (Key × V)} {k:Key} (e:H a = some (.dK kvs)):DGet H a (kV k) (valV kvs k):=.inl ⟨kvs,k,.inl e,rfl,rfl⟩
theorem DPut.k {H:Hp} {a:Addr} {kvs:List (Key × V)} {k:Key} {v:V} (e:H a = some (.dK kvs)) (hl:kvs.length < sizeLine):DPut H a (kV k) v (upd H a (.dK (putK kvs k v))):=.inl ⟨kvs,k,e,rfl,hl,rfl⟩
section
variable {X:Cx} {pins:List (Addr × Obj)} {σ:St} {H:Hp} {s:Shared} {a:Addr} {y v:V} {u r:Value} {o:Option V} {A:Around} {E:Value → Shared → Prop}
theorem Inv.big (I:Inv X pins σ H s):sysModules < s.heap.objs.size:=by
  have h:mainGlobals < s.heap.objs.size:=(I.mod.glob.keeps I.bk).lt
  exact Nat.lt_trans (by decide) h
theorem zPC {Q:Value → Shared → Prop} (hu:A.units + 1 < cLine) (I:Inv X pins σ H s) (g:DGet H a y (some v)) (ry:RelV y u) (h:∀ w' s',Inv X pins σ H s' → RelV v w' → Q w' s') :
    wpAny (model X.prog X.w) A (getItem (.ref a) u) Q E s:=by
  rcases g with ⟨kvs,k,e,ey,l⟩ | ⟨kvs,k,b,e,ey,eb,l⟩
  · subst ey
    obtain ⟨z,hd,vs,rel,dd⟩:=zP1 I.hok e
    obtain ⟨w',hw,rw'⟩:=RelO.some_of (v:=v) (o:=valueAt vs k) (by rw [l]; exact rel.val k)
    exact wpAny_getItem_of (zOL ry) dd.mapOf hw (h w' _ (I.tok _) rw')
  · subst ey
    cases (show u = Value.ref b from ry)
    obtain ⟨z,hd,xs,rel,dd⟩:=zOY I.hok e
    obtain ⟨w',hw,rw'⟩:=RelO.some_of (v:=v) (o:=(atKey xs k).map (·.2)) (by rw [l]; exact rel.val k)
    obtain ⟨p,hp,hp2⟩:=qBg.mp hw
    refine wpAny_getItem_heap (tupleKind_room_in1 hu) (zJT I.hok eb) dd hp ?_
    rw [hp2]
    exact h w' _ (I.tok _) rw'
theorem d_in {Q:Value → Shared → Prop} (hu:A.units + 1 < cLine) (I:Inv X pins σ H s) (g:DGet H a y o) (ry:RelV y u) (h:∀ s',Inv X pins σ H s' → Q (.bool o.isSome) s') :
    wpAny (model X.prog X.w) A (compareOp .In u (.ref a)) Q E s:=by
  rcases g with ⟨kvs,k,e,ey,l⟩ | ⟨kvs,k,b,e,ey,eb,l⟩
  · subst ey
    obtain ⟨z,hd,vs,rel,dd⟩:=zP1 I.hok e
    refine wpAny_in_of (zOL ry) hd dd.mapOf ?_
    rw [← (rel.val k).isSome_eq,← l]
    exact h _ (I.tok _)
  · subst ey
    cases (show u = Value.ref b from ry)
    obtain ⟨z,hd,xs,rel,dd⟩:=zOY I.hok e
    refine wpAny_in_heap (tupleKind_room_in1 hu) (zJT I.hok eb) hd dd ?_
    have q:=(rel.val k).isSome_eq
    rw [qBv] at q
    rw [← q,← l]
    exact h _ (I.tok _)
theorem zUR {Q:Value → Shared → Prop} (hu:A.units + 1 < cLine) (I:Inv X pins σ H s) (g:DGet H a y o) (ry:RelV y u) (h:∀ s',Inv X pins σ H s' → Q (.bool (!o.isSome)) s') :
    wpAny (model X.prog X.w) A (compareOp .NotIn u (.ref a)) Q E s:=by
  rcases g with ⟨kvs,k,e,ey,l⟩ | ⟨kvs,k,b,e,ey,eb,l⟩
  · subst ey
    obtain ⟨z,hd,vs,rel,dd⟩:=zP1 I.hok e
    refine wpAny_notIn_of (zOL ry) hd dd.mapOf ?_
    rw [← (rel.val k).isSome_eq,← l]
    exact h _ (I.tok _)
  · subst ey
    cases (show u = Value.ref b from ry)
    obtain ⟨z,hd,xs,rel,dd⟩:=zOY I.hok e
    refine wpAny_notIn_heap (tupleKind_room_in1 hu) (zJT I.hok eb) hd dd ?_
    have q:=(rel.val k).isSome_eq
    rw [qBv] at q
    rw [← q,← l]
    exact h _ (I.tok _)
theorem zPA {h':Heap} {t':Nat} {ob:HO} (I:Inv X pins σ H s) (mu:Mut (H a)) (hs:Heap.SameBut a s.heap h') (he:∃ q,h'.get? a = some q) (new:ObjOk X.prog X.w (upd H a ob) h' a ob) :
    Inv X pins σ (upd H a ob) { s with heap:=h',toks:=t' } :=
  I.write (x:=a) (e:=a) mu (.inl rfl) (fun b q hb z=>(hs.2 b hb).trans z) he new
theorem zXB {P:Program} {w:World} {H':Hp} {h':Heap} {kvs:List (Key × V)} {vs:List (Key × Value)} (z:kvs.length ≤ sizeLine) (hd:(a == sysModules) = false) (rel:KV kvs vs) (dd:h'.DictOf (zB6 P w) a vs) :
    ObjOk P w H' h' a (.dK kvs):=⟨z,hd,vs,rel,dd⟩
theorem zPB {H':Hp} {Q:Unit → Shared → Prop} (hu:A.units + 1 < cLine) (I:Inv X pins σ H s) (g:DPut H a y v H') (ry:RelV y u) (rv:RelV v r) (h:∀ s',Inv X pins σ H' s' → Q () s') :
    wpAny (model X.prog X.w) A (setItem (.ref a) u r) Q E s:=by
  rcases g with ⟨kvs,k,e,ey,l,eH⟩ | ⟨kvs,k,b,e,ey,eb,l,eH⟩
  · subst ey eH
    obtain ⟨z,hd,vs,rel,dd⟩:=zR2 I.hok e
    have hz:vs.length ≤ sizeLine:=by rw [← rel.length]; exact z
    have hl:(putK kvs k v).length ≤ sizeLine:=by have:=zGC kvs k v; omega
    refine wpAny_setItem_pairs (hsz:=hz) (zOL ry) dd fun h' dd' hs=>h _ ?_
    have he:∃ q,h'.get? a = some q:=let ⟨q,_,_,hq,_⟩:=dd'; ⟨q,hq⟩
    exact zPA I (by rw [e]; exact qCj) hs he (zXB hl hd (rel.put k rv) dd')
  · subst ey eH
    cases (show u = Value.ref b from ry)
    obtain ⟨z,hd,xs,rel,dd⟩:=zYD I.hok e
    have hz:xs.length ≤ sizeLine:=by rw [← Paired.length rel]; exact z
    have hl:(putK kvs k v).length ≤ sizeLine:=by have:=zGC kvs k v; omega
    refine wpAny_setItem_heap (hsz:=hz) (tupleKind_room_in1 hu) (zJT I.hok eb) dd fun h' dd' hs=>h _ ?_
    obtain ⟨q,es,ep,hq,h2,h3,h4,_,h5⟩:=dd'
    refine zPA I (by rw [e]; exact qCj) hs ⟨q,hq⟩ ⟨hl,hd,_,(rel.put k eb rv).keeps fun c ys ec=>?_,q,es,ep,hq,h2,h3,h4,h5⟩
    rw [zAG (zU4 ec e (fun z=>nomatch z))]
    exact ec
end
section
variable {X:Cx} {pins:List (Addr × Obj)} {σ:St} {H:Hp} {s:Shared} {a:Addr} {kvs:List (Key × V)} {k:Key} {u:Value} {A:Around} {E:Value → Shared → Prop}
end
def NoSl (i:Expr):Prop:=∀ ov iv,subscripted i false ov iv = operate [ov,iv] (getItem ov iv)
theorem zT9 {prog:Program} {w:World} {A:Around} {E:Value → Shared → Prop} {s:Shared} {env:Env} {value slice:Expr} {pos:Pos} {T id:String} {Q:Value → Shared → Prop}
    (hl:typeLookup (.type T) "__getitem__" = pure (some (.builtin id))) (hs:NoSl slice)
    (h:wpAny (model prog w) A (eval value env) (fun o s₁=>wpAny (model prog w) A (eval slice env) (fun i s₂=>s₂.TypeIs o T ∧ wpAny (model prog w) A (getItem o i) Q E s₂) E s₁) E s) :
    wpAny (model prog w) A (eval (.Subscript value slice pos) env) Q E s:=by
  refine Subscript_ (wpAny_mono h (fun o s₁ h₁=>wpAny_mono h₁ (fun i s₂ h₂=>?_) fun _ _ x=>x) fun _ _ x=>x)
  obtain ⟨hT,h₂⟩:=h₂
  unfold subscriptTail
  refine wpAny_bind ?_
  rw [getitemInPython_of_ne hT.not_modules]
  refine wpAny_bind (wpAny_specialOf hT hl ?_)
  have fin:wpAny (model prog w) A (subscripted slice false o i) (fun r s₃=>wpAny (model prog w) A (letTemporaryGo value o r >>= fun _=>pure r) Q E s₃) E s₂:=by
    rw [hs o i]
    exact wpAny_operating (wpAny_mono h₂ (fun r s₃ h₃=>wpAny_bind (wpAny_letTemporaryGo (wpAny_pure h₃))) fun _ _ x=>x)
  first
    | exact wpAny_pure (wpAny_bind fin)
    | exact wpAny_bind (wpAny_pure (wpAny_bind fin))
    | exact wpAny_bind fin
theorem zL8 {X:Cx} {pins:List (Addr × Obj)} {σ:St} {H:Hp} {s:Shared} {a:Addr} {y:V} {o:Option V} (I:Inv X pins σ H s) (g:DGet H a y o):s.TypeIs (.ref a) "dict":=by
  rcases g with ⟨kvs,k,e,_,_⟩ | ⟨kvs,k,b,e,_,_,_⟩
  · obtain ⟨_,_,vs,_,dd⟩:=zP1 I.hok e
    exact dd.typeIs
  · obtain ⟨_,_,xs,_,dd⟩:=zOY I.hok e
    exact dd.typeIs
noncomputable def zVG (td ty:TE):TE:=fun σ H Q=>td σ H fun x H1=>ty σ H1 fun y H2=>∃ a v,x = .ref a ∧ DGet H2 a y (some v) ∧ Q v H2
noncomputable def tDIn (ty td:TE):TE:=fun σ H Q=>ty σ H fun y H1=>td σ H1 fun x H2=>∃ a o,x = .ref a ∧ DGet H2 a y o ∧ Q (.bl o.isSome) H2
noncomputable def zNM (ty td:TE):TE:=fun σ H Q=>ty σ H fun y H1=>td σ H1 fun x H2=>∃ a o,x = .ref a ∧ DGet H2 a y o ∧ Q (.bl (!o.isSome)) H2
noncomputable def zVJ (td ty tv:TE):TS:=fun D σ H=>tv σ H fun v H1=>td σ H1 fun x H2=>ty σ H2 fun y H3=>∃ a H4,x = .ref a ∧ DPut H3 a y v H4 ∧ D.nx σ H4
section
variable {X:Cx} {o i e value:Expr} {pos pos' tpos:Pos} {td ty tv:TE}
theorem zO5 (hu:X.A.units + 1 < cLine) (ho:PE X o td) (hi:PE X i ty) (hs:NoSl i):PE X (.Subscript o i pos) (zVG td ty):=by
  intro pins s σ H Q I h
  refine zT9 PySem.F.slot_dict_getitem.lookup hs (thn (ho pins s σ H _ I h) fun u s1 ⟨x,H1,I1,rx,q1⟩=>thn (hi pins s1 σ H1 _ I1 q1) fun iv s2 ⟨y,H2,I2,ry,a,v,ex,g,q2⟩=>?_)
  subst ex
  obtain rfl:u = Value.ref a:=rx
  exact ⟨zL8 I2 g,zPC hu I2 g ry fun w' s3 I3 rw'=>⟨v,H2,I3,rw',q2⟩⟩
theorem zS1 (hu:X.A.units + 1 < cLine) (hi:PE X i ty) (ho:PE X o td):PC X .In i o (tDIn ty td):=by
  intro pins s σ H Q I h
  refine thn (hi pins s σ H _ I h) fun iv s1 ⟨y,H1,I1,ry,q1⟩=>thn (ho pins s1 σ H1 _ I1 q1) fun u s2 ⟨x,H2,I2,rx,a,ov,ex,g,q2⟩=>?_
  subst ex
  obtain rfl:u = Value.ref a:=rx
  exact d_in hu I2 g ry fun s3 I3=>⟨.bl ov.isSome,H2,I3,rfl,q2⟩
theorem zJI (hu:X.A.units + 1 < cLine) (hi:PE X i ty) (ho:PE X o td):PC X .NotIn i o (zNM ty td):=by
  intro pins s σ H Q I h
  refine thn (hi pins s σ H _ I h) fun iv s1 ⟨y,H1,I1,ry,q1⟩=>thn (ho pins s1 σ H1 _ I1 q1) fun u s2 ⟨x,H2,I2,rx,a,ov,ex,g,q2⟩=>?_
  subst ex
  obtain rfl:u = Value.ref a:=rx
  exact zUR hu I2 g ry fun s3 I3=>⟨.bl (!ov.isSome),H2,I3,rfl,q2⟩
theorem zI6 (hu:X.A.units + 1 < cLine) (ho:PE X o td) (hi:PE X i ty) (hv:PE X value tv) (hs:swapsWith value (some (.Subscript o i pos')) pos.line X.env = pure false) :
    PS X (.Assign [.Subscript o i pos'] value pos) (zVJ td ty tv):=by
  intro pins s σ H D I h
  refine wpAny_Assign_Subscript (thn (hv pins s σ H _ I h) fun r s1 ⟨v,H1,I1,rv,q1⟩=>thn (ho pins s1 σ H1 _ I1 q1) fun u s2 ⟨x,H2,I2,rx,q2⟩=>thn (hi pins s2 σ H2 _ I2 q2) fun iv s3 ⟨y,H3,I3,ry,a,H4,ex,g,q3⟩=>?_) hs
  subst ex
  obtain rfl:u = Value.ref a:=rx
  exact zPB hu I3 g ry rv fun s4 I4=>⟨σ,H4,I4,q3⟩
end
theorem zR3 {P:Program} {w:World} {H:Hp} (h:Heap) (hb:sysModules < h.objs.size):ObjOk P w H (h.push { cls:=.type "dict",data:=.dict #[] }) h.objs.size (.dK []) :=
  ⟨qAy _,beq_eq_false_iff_ne.mpr (qCn (qAn hb)),[],.nil,Heap.DictOf.new h⟩
def zRM:TE:=fun _ H Q=>∀ p,H p = none → Q (.ref p) (upd H p (.dK []))
section
variable {X:Cx} {pos:Pos}
theorem zLV:PE X (.Dict [] [] pos) zRM:=fun pins s σ H Q I h =>
  wpAny_Dict_empty ⟨.ref s.heap.objs.size,_,I.laid (a:=s.heap.objs.size) (o:=.dK []) (t':=s.toks) (fun _ _ q=>Heap.get?_push_of_some _ q) (qA7 _) (zR3 s.heap I.big),rfl,h _ (I.hok.fresh (qA7 _))⟩
end
structure M1 (X:Cx) (o:Expr) (m:Str) (apos:Pos) (e:Expr) (cpos:Pos):Prop where
  base:attributeBase o m X.env (eval o X.env) = eval o X.env
  few:((backTo cpos (starEach [e] X.env)).all (fun x=>!x.1) && (backToKw cpos (keywordEach [] X.env)).all (fun x=>x.1.isSome)
    && decide (([e]:List Expr).length + ([]:List Keyword).length + (if ([]:List Keyword).isEmpty then 0 else 1) < 30)) = true
  line:(apos.endLine == cpos.line) = true
  trees:backTo cpos (starEach [e] X.env) = [(false,eval e X.env)]
structure M2 (X:Cx) (o:Expr) (m:Str) (apos:Pos) (e f:Expr) (cpos:Pos):Prop where
  base:attributeBase o m X.env (eval o X.env) = eval o X.env
  few:((backTo cpos (starEach [e,f] X.env)).all (fun x=>!x.1) && (backToKw cpos (keywordEach [] X.env)).all (fun x=>x.1.isSome)
    && decide (([e,f]:List Expr).length + ([]:List Keyword).length + (if ([]:List Keyword).isEmpty then 0 else 1) < 30)) = true
  line:(apos.endLine == cpos.line) = true
  trees:backTo cpos (starEach [e,f] X.env) = [(false,eval e X.env),(false,eval f X.env)]
section
variable {X:Cx} {pins:List (Addr × Obj)} {σ:St} {H:Hp} {s:Shared} {a:Addr} {y d:V} {u r:Value} {o:Option V} {A:Around} {E:Value → Shared → Prop}
end
section
variable {X:Cx} {o e f:Expr} {apos cpos:Pos} {td ty tx:TE}
end
section
variable {X:Cx} {pins:List (Addr × Obj)} {σ:St} {H:Hp} {s:Shared} {a:Addr} {kvs:List (Key × V)} {A:Around} {E:Value → Shared → Prop}
end
section
variable {X:Cx} {pins:List (Addr × Obj)} {σ:St} {H:Hp} {s:Shared} {a:Addr} {y:V} {u:Value} {A:Around} {E:Value → Shared → Prop}
end
end L2
namespace Att
open PySem PySem.W PySem.Calls PyProof.Rows
theorem zGF {P:Params} {h:Heap}:∀ (ns:List Int) (vs:List Value),WellAll P h vs (ns.map WData.int) → IntsAre vs ns:=by
  intro ns
  induction ns with
  | nil =>
    intro vs w
    rw [qGa] at w
    cases w
    exact .nil
  | cons n ns ih =>
    intro vs w
    rw [qAp] at w
    cases w with
    | cons a b =>
      cases a
      exact .cons _ _ (ih _ b)
theorem zNQ {l:OpenLaw} {n:Nat} (hn:l.most = some n) {P:Params} {h:Heap} {args:List WData} {vals:List Value}
    (hpre:l.row.toRowW.claim.pre args = true) (hwl:WellAll P h vals args) :
    ∃ a vs ns,vals = [Value.ref a] ∧ args = [WData.list (ns.map WData.int)] ∧ h.get? a = some { cls:=.type "list",data:=.seq vs.toArray } ∧ IntsAre vs ns ∧ ns.length ≤ n:=by
  have hsh:WShape.hasAll [] args [.list .int] = true:=(pre_splitW hpre).1
  have hc:l.pre.holds [] { args:=args } = true:=(pre_splitW hpre).2
  obtain ⟨d,r,rfl,h1,h2⟩:=hasAllW_cons hsh
  obtain rfl:=hasAllW_nil h2
  obtain ⟨xs,rfl,h3⟩:=hasW_list h1
  obtain ⟨ns,rfl⟩:=items_int h3
  have hlen:ns.length ≤ n:=by
    unfold OpenLaw.pre at hc
    have h4:(WTm.not (.lt (.lit (.int (n:Int))) (.len (.arg 0)))).holds [] { args:=[.list (ns.map .int)] } = true:=by
      have h4:=(holds_andW hc).1
      rw [hn] at h4
      exact h4
    have h5:=condW_of h4 (w_not (w_lt w_lit (w_len_list (w_arg rfl))))
    rw [qAm] at h5
    refine Nat.le_of_not_lt fun q=>?_
    have q':(n:Int) < ((ns.length:Nat):Int):=by omega
    first
      | (rw [decide_eq_true q'] at h5; exact absurd h5 (by decide))
      | (simp at h5; omega)
  cases hwl with
  | cons w1 w2 =>
    cases w2
    cases w1 with
    | list ho hall=>exact ⟨_,_,ns,rfl,rfl,ho,zGF ns _ hall,hlen⟩
theorem zO1 (l:OpenLaw) (args:List WData):l.row.toRowW.claim.post args (.bool true) args = true :=
  postW_of (r:=l.row.toRowW) (X:=(true == true))
    (show WShape.has [] (.bool true) .bool = true by first | rfl | decide | simp [WShape.has,WShape.arms,WShape.armsAll])
    (show (WTm.eq .res (.lit (.bool true))).value [] { args:=args,res:=some (.bool true),after:=args } = some (.bool (true == true)) from w_eq_bool (w_res rfl) w_lit) rfl
section
variable {prog:Program} {w:World} {A:Around} {E:Value → Shared → Prop} {s:Shared} {K:Frag}
end
end Att
namespace L2
open PySem PySem.Spec PyProof.Rows
theorem zJ2:∀ {vs:List Value} {ns:List Int},IntsAre vs ns → Vals (ns.map V.int) vs
  | _,_,.nil=>.nil
  | _,_,.cons n t h=>.cons ⟨t,rfl⟩ (zJ2 h)
def Only (H:Hp):Prop:=∀ b,H b = none ∨ ∃ o xs,H b = some (.frz o (.lst xs))
theorem zQL {P:Program} {w:World} {K:qA1} {mg mb:Str → Option Value} {CX:CXT} {k:Nat} {fa a:Addr} {fd:FuncData} {x:Str} {sp:Sp} {s₁:Shared} {vs:List Value} {ns:List Int}
    (KX:K.In s₁.heap) (hns:s₁.heap.Ns mainGlobals mg) (hb:s₁.heap.Ns builtinsNs mb) (hbb:∀ x:Str,x ≠ "__name__" → mb x = bootBuiltins x) (hlim:s₁.heap.NoLimit) (hg:s₁.gens = #[])
    (ha:s₁.heap.get? a = some { cls:=.type "list",data:=.seq vs.toArray }) (hi:IntsAre vs ns) (hl:ns.length ≤ sizeLine) (hr:Room k callerA)
    (F:∀ base:Heap,K.In base → base.Ns mainGlobals mg → FnOk P w K mg base CX k fa fd [x] sp) (hbind:∀ (s:Shared) (u:Value),BindsTo s fd ⟨[u],[]⟩ [(x,u)])
    (hsp:∀ H:Hp,Only H → SqL K H a (ns.map V.int) → sp [.ref a] H (fun v _=>v = .bl true) fun _ _ _=>False)
    (hCX:∀ H e s',CX [] H s₁ (fun _ _ _=>False) e s' → False) :
    codeAny (model P w) callerA (.call (.ref fa) ⟨[.ref a],[]⟩) (fun r s'=>r = .ok (.ret (.bool true)) ∧ OldK s₁.heap s'.heap ∧ s'.os = s₁.os ∧ AllBare s'.gens) s₁:=by
  have rv:=zJ2 hi
  have lenV:=hi.length
  have core:∀ H:Hp,Only H → SqL K H a (ns.map V.int) → HOk P w H s₁.heap → (∀ b,H b ≠ none → b = a) → (H a ≠ none → K.lookup a = none) →
      codeAny (model P w) callerA (.call (.ref fa) ⟨[.ref a],[]⟩) (fun r s'=>r = .ok (.ret (.bool true)) ∧ OldK s₁.heap s'.heap ∧ s'.os = s₁.os ∧ AllBare s'.gens) s₁:=by
    intro H hO hS hok hA hK
    have base_of:∀ {b:Addr} {o:Obj},s₁.heap.get? b = some o → H b = none → (hidT s₁.heap H).get? b = some o:=fun e n=>zQS e n
    have noA:∀ {b:Addr} {o:Obj} {es:Array DictEntry} {ep:Nat},s₁.heap.get? b = some o → o.data = .dict es ep → H b = none:=fun {b o es ep} e d=>by
      cases q:H b with
      | none=>rfl
      | some u =>
        have e':b = a:=hA b (by rw [q]; simp)
        subst e'
        rw [ha] at e; cases e
        have d':Data.seq vs.toArray _ = Data.dict es ep:=d
        cases d'
    have nsK:∀ {b:Addr} {m:Str → Option Value},s₁.heap.Ns b m → (hidT s₁.heap H).Ns b m:=fun {b m} ⟨o,es,ep,e,d,r⟩=>⟨o,es,ep,base_of e (noA e d),d,r⟩
    have hKb:K.In (hidT s₁.heap H):=fun b o e=>base_of (KX b o e) (by
      cases q:H b with
      | none=>rfl
      | some u =>
        have e':b = a:=hA b (by rw [q]; simp)
        subst e'
        rw [hK (by rw [q]; simp)] at e; cases e)
    have hM:Mod K mg (hidT s₁.heap H):=⟨hKb,nsK hns,⟨mb,nsK hb,hbb⟩,let ⟨mc,h1,h2⟩:=hlim; ⟨mc,nsK h1,h2⟩⟩
    have e0:Env0 P w K mg (hidT s₁.heap H) callerA [] s₁ H:=⟨rfl,hM,fun b o e=>zU0 e,qBx (zOR _ _),trivial,fun b hb=>absurd (show b ∈ ([]:List Addr) from hb) (by simp),hok,.of_eq hg⟩
    refine codeAny_mono ((F _ hKb (nsK hns)).run callerA [] s₁ H ⟨[.ref a],[]⟩ [.ref a] [.ref a] _ _ hr e0 (hbind s₁ (.ref a)) (.cons rfl .nil) (hsp H hO hS)) fun r s' h=>?_
    cases r with
    | error e=>exact (hCX H e s' h).elim
    | ok fl =>
      cases fl with
      | next=>exact qAf h
      | brk=>exact qAf h
      | cont=>exact qAf h
      | ret u =>
        obtain ⟨v,H',os,bare,un,hok',r',q⟩:=h
        have q':v = .bl true:=q
        subst q'
        obtain rfl:u = Value.bool true:=r'
        refine ⟨rfl,OldK.of_keep fun b o e=>?_,os,bare⟩
        cases q:H b with
        | none=>exact un.keep b o e q (by intro z; exact absurd (show b ∈ ([]:List Addr) from z) (by simp)) (by simp)
        | some u =>
          rcases hO b with z | ⟨ob,xs,z⟩
          · rw [q] at z; cases z
          · have z2:=un.frzs b ob _ z
            obtain ⟨e1,_⟩:=hok b _ z
            obtain ⟨e2,_⟩:=hok' b _ z2
            rw [e] at e1; cases e1
            exact e2
  cases hk:K.lookup a with
  | some o =>
    have e:=KX a o hk
    rw [ha] at e
    cases e
    refine core (fun _=>none) (fun _=>.inl rfl) (.inr ⟨_,vs.toArray,_,hk,rfl,rfl,rfl,by rw [qAc,lenV]; exact hl,by simpa using rv⟩) (fun b u z=>by have z':(none:Option HO) = some u:=z; cases z') (fun b z=>absurd rfl z) fun z=>absurd rfl z
  | none =>
    refine core (fun b=>if b = a then some (.frz { cls:=.type "list",data:=.seq vs.toArray } (.lst (ns.map V.int))) else none) (fun b=>?_) (.inl (.inr ⟨{ cls:=.type "list",data:=.seq vs.toArray },if_pos rfl⟩)) (fun b u z=>?_) (fun b z=>?_) fun _=>hk
    · by_cases hb:b = a
      · exact .inr ⟨_,_,if_pos hb⟩
      · exact .inl (if_neg hb)
    · by_cases hb:b = a
      · have z':=(if_pos hb).symm.trans z
        cases z'
        subst hb
        exact ⟨ha,by rw [qAm]; exact hl,vs,_,rv,ha⟩
      · have z':=(if_neg hb).symm.trans z
        cases z'
    · by_cases hb:b = a
      · exact hb
      · exact absurd (if_neg hb) z
noncomputable def zC7 (s:Stmt):Arguments:=match s with
  | .FunctionDef _ a _ _ _ _ _ _ _ _=>a
  | _=>{ posonlyargs:=[],args:=[],vararg:=none,kwonlyargs:=[],kw_defaults:=[],kwarg:=none,defaults:=[] }
noncomputable def zBA (s:Stmt):List Stmt:=match s with
  | .FunctionDef _ _ b _ _ _ _ _ _ _=>b
  | _=>[]
noncomputable def zA7 (s:Stmt):Scope:=match s with
  | .FunctionDef _ _ _ _ _ _ sc _ _ _=>sc
  | _=>{ kind:=.function,names:=[],isGenerator:=false,isCoroutine:=false }
abbrev CX0:CXT:=fun _ _ _ _ _ _=>False
abbrev E0:XK:=fun _ _ _=>False
theorem zY0 {X:Cx}:zHT CX0 X E0:=fun _ _ _ _ _ _ _ h=>h.elim
structure Fun (K:qA1) (x qual:Str) (st:Stmt) (f:Addr) (fd:FuncData):Prop where
  ex:∃ (oc:Value) (od:Option Addr) (kV doc pm:Value) (an:Option Addr) (cdv ct:Value) (osl:Array (Option Value)),
    fd = qB7 x qual (zC7 st) (zBA st) (zA7 st) .none kV doc pm an cdv ct ∧ K.lookup f = some ⟨oc,od,.func fd,osl⟩ ∧ qCe K cdv qual = true
  kp:qAv K (.ref f) = true
section
variable {P:Program} {w:World} {K:qA1} {mg:Str → Option Value} {base:Heap}
theorem Fun.ok {x qual:Str} {st:Stmt} {f:Addr} {fd:FuncData} {N ps:List Str} {k:Nat} {sp:Sp} (F:Fun K x qual st f fd) (S:FnScope N ps (zA7 st)) (len:∀ vs H Q E,sp vs H Q E → vs.length = ps.length)
    (hbody:∀ (cdv:Value) (A:Around) (outer:List Env) (s:Shared) (H:Hp) (vs:List V) (Q:VK) (E:XK),Room k (A.deeper (envOfC qual (zA7 st) s.heap.objs.size f cdv)) → sp vs H Q E →
      ∃ t,PSs (cxOf CX0 P w K mg base N qual (zA7 st) f cdv A outer s H E).nox (zBA st) t ∧ t { nx:=fun _ H'=>Q .non H',rt:=Q } (start N vs) H):FnOk P w K mg base CX0 (k + 1) f fd ps sp:=by
  obtain ⟨oc,od,kV,doc,pm,an,cdv,ct,osl,rfl,lk,hcd⟩:=F.ex
  refine zX4 lk hcd S len fun A outer s H vs Q E hr hsp=>?_
  obtain ⟨t,h,q⟩:=hbody cdv A outer s H vs Q E hr hsp
  exact ⟨t,h.nox,q⟩
theorem Fun.binds {x qual:Str} {st:Stmt} {f:Addr} {fd:FuncData} {ps:List Str} (F:Fun K x qual st f fd)
    (h:∀ (kV doc pm:Value) (an:Option Addr) (cdv ct:Value) (us:List Value),us.length = ps.length → bindArgs (qB7 x qual (zC7 st) (zBA st) (zA7 st) .none kV doc pm an cdv ct) ⟨us,[]⟩ = pure (ps.zip us)):Binds K fd ps []:=by
  obtain ⟨oc,od,kV,doc,pm,an,cdv,ct,osl,rfl,lk,hcd⟩:=F.ex
  exact .all (h kV doc pm an cdv ct)
theorem zOV {x qual:Str} {st:Stmt} {f:Addr} {oc:Value} {od an:Option Addr} {osl:Array (Option Value)} {kV doc pm cdv ct:Value} (l:K.lookup f = some ⟨oc,od,.func (qB7 x qual (zC7 st) (zBA st) (zA7 st) .none kV doc pm an cdv ct),osl⟩)
    (c:qCe K cdv qual = true) (k:qAv K (.ref f) = true):Fun K x qual st f (qB7 x qual (zC7 st) (zBA st) (zA7 st) .none kV doc pm an cdv ct):=⟨⟨oc,od,kV,doc,pm,an,cdv,ct,osl,rfl,l,c⟩,k⟩
end
theorem zH1 {A:Around} {k:Nat} (hr:Room k A):A.units + 1 < cLine:=qDi (Nat.add_le_add_left (by decide:1 ≤ 64) _) hr.units
section
variable {X:Cx}
theorem pv (i:Nat) {x:Str} {pos:Pos} (hN:X.N[i]? = some x:=by rfl) (hv:Vis X.env.scope x:=by first | exact qGb rfl | exact qG4 (qGb rfl) | exact qG4 (qG4 rfl)) (hd:(x == ("__debug__":Str)) = false:=by decide)
    (hcd:(x == ("__classdict__":Str)) = false:=by decide):PE X (.Name x pos) (tVar i):=zRY hN hv hd hcd
end
def Same (H H':Hp):Prop:=∀ b o,H b = some o → H' b = some o
theorem Same.refl (H:Hp):Same H H:=fun _ _ h=>h
theorem Same.trans {H H1 H2:Hp} (a:Same H H1) (b:Same H1 H2):Same H H2:=fun c o h=>b c o (a c o h)
theorem Same.free {H H':Hp} (e:Same H H') {l:Addr} (h:H' l = qEi):H l = qEi:=by
  cases q:H l with
  | none=>rfl
  | some o =>
    rw [e l o q] at h
    cases h
theorem Same.seq {K:qA1} {H H':Hp} {a:Addr} {xs:List V} (e:Same H H') (h:SqL K H a xs):SqL K H' a xs:=by
  rcases h with (h | ⟨o,h⟩) | h
  · exact .inl (.inl (e _ _ h))
  · exact .inl (.inr ⟨o,e _ _ h⟩)
  · exact .inr h
section
variable {κ:Type} [DecidableEq κ]
end
end L2
namespace L2
open PySem PySem.Spec PyProof.Rows
theorem asN {a b:Nat} (h:a < b):a < b:=h
theorem asL {a b:Nat} (h:a ≤ b):a ≤ b:=h
theorem asE {a b:Nat} (h:a = b):a = b:=h
noncomputable def clos (cells:List (Str × Addr)):List (Str × NameKind) → List (Str × Addr) → List (Str × Addr)
  | [],acc=>acc
  | (n,k) :: r,acc=>if k == .free then clos cells r ((n,(cells.lookup n).getD 0) :: acc) else clos cells r acc
theorem zDW (cells:List (Str × Addr)):∀ (names:List (Str × NameKind)) (acc:List (Str × Addr)),clos cells names acc = clos cells names [] ++ acc
  | [],_=>rfl
  | (n,k) :: r,acc=>by
    unfold clos
    split
    · rw [zDW cells r (_ :: acc),zDW cells r [_],qCd]; rfl
    · exact zDW cells r acc
theorem zFK {cells:List (Str × Addr)} {x:Str} {c:Addr}:∀ {names:List (Str × NameKind)},(x,c) ∈ clos cells names [] → (x,NameKind.free) ∈ names ∧ c = (cells.lookup x).getD 0
  | [],h=>by simp [clos] at h
  | (n,k) :: r,h=>by
    unfold clos at h
    split at h
    · rename_i hk
      rw [zDW] at h
      rcases qBr.mp h with h | h
      · obtain ⟨h1,h2⟩:=zFK h
        exact ⟨qAh _ h1,h2⟩
      · have e:=qDj.mp h
        injection e with e1 e2
        subst e1
        have hk':k = .free:=by simpa using hk
        subst hk'
        exact ⟨qB3,e2⟩
    · obtain ⟨h1,h2⟩:=zFK h
      exact ⟨qAh _ h1,h2⟩
theorem zIS {cells:List (Str × Addr)} {x:Str}:∀ {names:List (Str × NameKind)},(x,NameKind.free) ∈ names → (x,(cells.lookup x).getD 0) ∈ clos cells names []
  | [],h=>by simp at h
  | (n,k) :: r,h=>by
    unfold clos
    rcases qA9.mp h with e | h
    · injection e with e1 e2
      subst e1; subst e2
      rw [if_pos (by rfl),zDW]
      exact qAu _ (by simp)
    · split
      · rw [zDW]
        exact qD7 _ (zIS h)
      · exact zIS h
theorem zBK:∀ (names:List (Str × NameKind)) (n:Nat) (acc:List (Str × Addr)),cellsFrom n names acc = cellsFrom n names [] ++ acc
  | [],_,_=>rfl
  | (x,k) :: r,n,acc=>by
    unfold cellsFrom
    split
    · rw [zBK r (n + 1) (_ :: acc),zBK r (n + 1) [_],qCd]; rfl
    · exact zBK r n acc
theorem zCB {x:Str} {c:Addr}:∀ {names:List (Str × NameKind)} {n:Nat},(x,c) ∈ cellsFrom n names [] → (x,NameKind.cell) ∈ names
  | [],_,h=>by simp [cellsFrom] at h
  | (y,k) :: r,n,h=>by
    unfold cellsFrom at h
    split at h
    · rename_i hk
      rw [zBK] at h
      rcases qBr.mp h with h | h
      · exact qAh _ (zCB h)
      · have e:=qDj.mp h
        injection e with e1 e2
        subst e1
        have hk':k = .cell:=by simpa using hk
        subst hk'
        exact qB3
    · exact qAh _ (zCB h)
theorem zBY {α:Type} {x:Str} {a:α}:∀ {l:List (Str × α)},(l.map (·.1)).Nodup → (x,a) ∈ l → l.lookup x = some a
  | [],_,h=>by simp at h
  | (y,b) :: r,nd,h=>by
    have nd':(y :: r.map (·.1)).Nodup:=nd
    obtain ⟨h1,h2⟩:=qBa.mp nd'
    rcases qA9.mp h with e | hm
    · injection e with e1 e2
      subst e1; subst e2
      rw [qBe,beq_self_eq_true]
    · have hne:(x == y) = false:=by
        rw [beq_eq_false_iff_ne]
        rintro rfl
        exact h1 (qAs.mpr ⟨(x,a),hm,rfl⟩)
      rw [qBe,hne]
      exact zBY h2 hm
theorem zE5 {α:Type} {x:Str}:∀ {l:List (Str × α)},(∀ a,(x,a) ∉ l) → l.lookup x = none
  | [],_=>rfl
  | (y,b) :: r,h=>by
    have hne:(x == y) = false:=by
      rw [beq_eq_false_iff_ne]
      rintro rfl
      exact h b qB3
    rw [qBe,hne]
    exact zE5 fun a m=>h a (qAh _ m)
theorem zE4 {α:Type} {x:Str} {a:α}:∀ {l:List (Str × α)},(x,a) ∈ l → ∃ b,l.lookup x = some b
  | [],h=>by simp at h
  | (y,b) :: r,h=>by
    rw [qBe]
    cases e:x == y with
    | true=>exact ⟨b,rfl⟩
    | false =>
      rcases qA9.mp h with q | q
      · injection q with q1 _
        subst q1
        rw [beq_self_eq_true] at e; cases e
      · exact zE4 q
theorem zHI {α:Type} {x:Str}:∀ (l k:List (Str × α)),(l ++ k).lookup x = (l.lookup x).or (k.lookup x)
  | [],k=>by simp
  | (y,b) :: r,k=>by
    show qDb x ((y,b) :: (r ++ k)) = _
    rw [qBe,qBe]
    cases x == y with
    | true=>rfl
    | false=>exact zHI r k
def zXL (sc:Scope) (env:Env):Prop:=∀ x,(x,NameKind.free) ∈ sc.names → env.kindOf x = some .cell ∨ env.kindOf x = some .free
theorem zER {sc:Scope} {env:Env} (h:∀ x,(x,NameKind.free) ∈ sc.names → ∃ c,env.cells.lookup x = some c):closureFor sc env = pure (clos env.cells sc.names []):=by
  have go:∀ (names:List (Str × NameKind)) (acc:List (Str × Addr)),(∀ x,(x,NameKind.free) ∈ names → ∃ c,env.cells.lookup x = some c) →
      (forIn names acc fun (x:Str × NameKind) (cs:List (Str × Addr))=>(match x with | (name,kind)=>if (kind == NameKind.free) = true then (do let c ← cellOf env name; pure (qC9 ((name,c) :: cs))) else pure (qC9 cs):Sem (ForInStep (List (Str × Addr))))) = pure (clos env.cells names acc):=by
    intro names
    induction names with
    | nil=>intro acc _; rfl
    | cons p r ih =>
      intro acc hn
      obtain ⟨n,k⟩:=p
      have hr:∀ x,(x,NameKind.free) ∈ r → ∃ c,env.cells.lookup x = some c:=fun x hx=>hn x (qAh _ hx)
      rw [qE9]
      unfold clos
      by_cases hk:(k == NameKind.free) = true
      · have hk':k = .free:=by simpa using hk
        subst hk'
        obtain ⟨c,hc⟩:=hn n qB3
        have e:cellOf env n = pure c:=by unfold cellOf; rw [hc]
        rw [if_pos (by rfl)]
        simp only [if_pos (show (NameKind.free == NameKind.free) = true from rfl),e,hc,qDz,pure_bind]
        exact ih _ hr
      · rw [if_neg hk]
        simp only [if_neg hk,pure_bind]
        exact ih _ hr
  unfold closureFor
  have q:=go sc.names [] h
  first
    | (rw [show (forIn sc.names ([]:List (Str × Addr)) _:Sem (List (Str × Addr))) = _ from q]; rfl)
    | (refine (congrArg (fun z=>z >>= pure) q).trans ?_; rfl)
    | (simp only [q]; rfl)
    | exact q
def zDV (sc:Scope) (C:Addr) (env:Env):Env :=
  { scope:=relabel sc env,locals:=C,globals:=env.globals,cells:=cellsFrom (C + 1) sc.names (clos env.cells sc.names []),qual:=env.qual,func:=none,code:=env.code,frame:=env.frame,builtins:=env.builtins }
theorem zEE {M:Model} {A:Around} {E:Value → Shared → Prop} {s:Shared} {sc:Scope} {env:Env} {cl:List (Str × Addr)} {Q:Env → Shared → Prop}
    (hQ:Q { scope:=sc,locals:=s.heap.objs.size,globals:=env.globals,cells:=cellsFrom (s.heap.objs.size + 1) sc.names cl,qual:=env.qual,func:=none,code:=env.code,frame:=env.frame,builtins:=env.builtins }
      { s with heap:=pushCells (s.heap.push { cls:=.type "dict",data:=.dict #[] }) sc.names }) :
    wpAny M A (newFunctionEnv sc env.globals cl [] env.qual none .none (some env)) Q E s:=by
  simp only [newFunctionEnv,qDh,if_true]
  refine wpAny_bind (wpAny_alloc ?_)
  refine wpAny_bind (wpAny_layCells _ (fun name kind cells=>by cases hkc:kind == NameKind.cell <;> simp [hkc]) _ _ _ _ ?_)
  rw [show ({ s with heap:=s.heap.push { cls:=.type "dict",data:=.dict #[] } }:Shared).heap.objs.size = s.heap.objs.size + 1 from Heap.size_push ..]
  refine wpAny_bind ?_
  rw [List.forIn_nil]
  exact wpAny_pure (wpAny_pure hQ)
def zD2 (X:Cx) (N':List Str) (sc:Scope) (C:Addr) (s:Shared) (H:Hp) (fp:List Addr):Cx :=
  { X with N:=N',s₀:=s,H₀:=H,env:=zDV sc C X.env,outer:=X.stack,stack:=X.stack,ex:=fp,fn:=fun x=>sc.names.lookup x == some .cell,pn:=[],xe:=fun _ _=>False }
def PTs (X:Cx) (ifs:List Expr) (t:TT):Prop :=
  ∀ (pins:List (Addr × Obj)) (s:Shared) (σ:St) (H:Hp) (Q:Bool → Hp → Prop),Inv X pins σ H s → t σ H Q →
    wpAny (model X.prog X.w) X.A (forIn ifs true fun c r=>if r = true then do let ok ← isTrue c X.env (eval c X.env); pure (qC9 ok) else pure (qC9 r)) (TP X pins σ Q) X.xe s
noncomputable def tYes:TT:=fun _ H Q=>Q true H
theorem zE8 {X:Cx}:PTs X [] tYes:=fun _ _ _ H _ I h=>wpAny_tests_nil ⟨H,I,h⟩
theorem zNY {X:Cx} {c:Expr} {t:TT} (h:PT X c t):PTs X [c] t:=fun pins s σ H Q I q=>wpAny_tests_one (h pins s σ H Q I q)
structure CompNames (N N':List Str) (k:Nat) (sc:Scope) (env:Env):Prop where
  kind:sc.kind = .function
  nd:(sc.names.map (·.1)).Nodup
  len:N'.length = N.length + k
  old:∀ (i:Nat) (x:Str),N'[i]? = some x → i < N.length → (x,NameKind.free) ∈ sc.names ∧ N[i]? = some x ∨ sc.names.lookup x = none
  free:zXL sc env
theorem zBO {sc:Scope} {env:Env} {x:Str} {k:NameKind}:∀ {names:List (Str × NameKind)},
    (names.map fun (n,k)=>if (k == NameKind.free && env.scope.kind == .function && env.kindOf n == some .cell) then (n,NameKind.cell) else (n,k)).lookup x = some k →
    names.lookup x = some k ∨ (names.lookup x = some .free ∧ k = .cell)
  | [],h=>by simp at h
  | (n,j) :: r,h=>by
    have ih:=@zBO sc env x k r
    rw [qAp] at h
    rw [qBe]
    by_cases hc:(j == NameKind.free && env.scope.kind == .function && env.kindOf n == some .cell) = true
    · have h':qDb x ((n,NameKind.cell) :: (r.map fun (n,k)=>if (k == NameKind.free && env.scope.kind == .function && env.kindOf n == some .cell) then (n,NameKind.cell) else (n,k))) = some k:=by
        rw [← h]; simp only [if_pos hc]
      rw [qBe] at h'
      cases e:x == n with
      | true =>
        rw [e] at h'
        have hk:k = .cell:=(qAx h').symm
        have hj:j = .free:=by
          simp only [qBk,beq_iff_eq] at hc
          exact hc.1.1
        subst hj
        exact .inr ⟨rfl,hk⟩
      | false =>
        rw [e] at h'
        exact ih h'
    · have h':qDb x ((n,j) :: (r.map fun (n,k)=>if (k == NameKind.free && env.scope.kind == .function && env.kindOf n == some .cell) then (n,NameKind.cell) else (n,k))) = some k:=by
        rw [← h]; simp only [if_neg hc]
      rw [qBe] at h'
      cases e:x == n with
      | true=>rw [e] at h'; exact .inl h'
      | false=>rw [e] at h'; exact ih h'
section
variable {X:Cx} {N':List Str} {k:Nat} {sc:Scope} {pins:List (Addr × Obj)} {σ:St} {H:Hp} {s:Shared}
theorem zN1 {C:Addr} {x:Str} {c:Addr} (nd:(sc.names.map (·.1)).Nodup) (h:(zDV sc C X.env).cells.lookup x = some c) :
    ((x,c) ∈ cellsFrom (C + 1) sc.names [] ∧ (x,NameKind.cell) ∈ sc.names) ∨ ((x,NameKind.free) ∈ sc.names ∧ c = (X.env.cells.lookup x).getD 0):=by
  have m:=mem_of_lookup h
  have m':(x,c) ∈ cellsFrom (C + 1) sc.names (clos X.env.cells sc.names []):=m
  rw [zBK] at m'
  rcases qBr.mp m' with z | z
  · exact .inl ⟨z,zCB z⟩
  · exact .inr (zFK z)
theorem zE6 {C:Addr} {x:Str} (nd:(sc.names.map (·.1)).Nodup) (h:(x,NameKind.free) ∈ sc.names):(zDV sc C X.env).cells.lookup x = some ((X.env.cells.lookup x).getD 0):=by
  show (cellsFrom (C + 1) sc.names (clos X.env.cells sc.names [])).lookup x = _
  rw [zBK,zHI,zE5 (fun a m=>?_),Option.none_or]
  · obtain ⟨b,hb⟩:=zE4 (zIS (cells:=X.env.cells) h)
    have:=(zFK (mem_of_lookup hb)).2
    rw [hb,this]
  · have e1:=zBY nd (zCB m)
    rw [zBY nd h] at e1
    cases e1
theorem zQP (I:Inv X pins σ H s) (hc:X.calm = true) (S:CompNames X.N N' k sc X.env) {fp:List Addr} (hf:∀ b ∈ fp,FpOk X pins H b) (hfo:∀ b ∈ fp,∃ o,s.heap.get? b = some o)
    {s4:Shared} {D C:Addr} (eD:D = s.heap.objs.size) (eC:C = s.heap.objs.size + 1)
    (e4:s4 = { s with heap:=pushCells ((s.heap.push { cls:=.type "list",data:=.seq #[] 0 }).push { cls:=.type "dict",data:=.dict #[] }) sc.names }) :
    Inv (zD2 X N' sc C s H fp) [(D,{ cls:=.type "list",data:=.seq #[] 0 })] (σ ++ qA6 k none) H s4 ∧ ∀ b ∈ fp,FpOk (zD2 X N' sc C s H fp) [(D,{ cls:=.type "list",data:=.seq #[] 0 })] H b:=by
  subst eD eC e4
  generalize hh1:s.heap.push { cls:=.type "list",data:=.seq #[] 0 } = h1
  generalize hh2:h1.push { cls:=.type "dict",data:=.dict #[] } = h2
  have sz1:h1.objs.size = s.heap.objs.size + 1:=by rw [← hh1]; exact Heap.size_push ..
  have sz2:h2.objs.size = s.heap.objs.size + 2:=by rw [← hh2,Heap.size_push,sz1]
  have k1:∀ b o,s.heap.get? b = some o → h1.get? b = some o:=fun b o e=>by rw [← hh1]; exact Heap.get?_push_of_some _ e
  have k2:∀ b o,h1.get? b = some o → h2.get? b = some o:=fun b o e=>by rw [← hh2]; exact Heap.get?_push_of_some _ e
  have k3:∀ b o,h2.get? b = some o → (pushCells h2 sc.names).get? b = some o:=pushCells_keeps sc.names h2
  have kk:∀ b o,s.heap.get? b = some o → (pushCells h2 sc.names).get? b = some o:=fun b o e=>k3 b o (k2 b o (k1 b o e))
  have own:CellsOk (pushCells h2 sc.names) h2.objs.size (cellsFrom h2.objs.size sc.names []):=cellsFrom_ok sc.names h2 h2.objs.size [] ⟨fun _ _ hm=>(nomatch hm),qEr⟩ (qA7 _)
  have eC1:s.heap.objs.size + 1 + 1 = h2.objs.size:=by rw [sz2]
  have freeCell:∀ x,(x,NameKind.free) ∈ sc.names → ∃ c,X.env.cells.lookup x = some c:=fun x hx=>I.ok.has x (S.free x hx)
  have cells:∀ x c,(zDV sc (s.heap.objs.size + 1) X.env).cells.lookup x = some c →
      ((x,c) ∈ cellsFrom h2.objs.size sc.names [] ∧ (x,NameKind.cell) ∈ sc.names ∧ (pushCells h2 sc.names).IsCell c none ∧ h2.objs.size ≤ c) ∨ ((x,NameKind.free) ∈ sc.names ∧ X.env.cells.lookup x = some c):=fun x c e=>by
    rcases zN1 S.nd e with ⟨m,q⟩ | ⟨m,q⟩
    · rw [eC1] at m
      exact .inl ⟨m,q,(own.empty x c m).1,(own.empty x c m).2⟩
    · obtain ⟨c',hc'⟩:=freeCell x m
      rw [hc',qDz] at q
      subst q
      exact .inr ⟨m,hc'⟩
  have old:∀ x c,X.env.cells.lookup x = some c → c < s.heap.objs.size:=fun x c e=>by
    obtain ⟨v,q⟩:=I.cell x c e
    exact q.lt
  have fpl:∀ b ∈ fp,b < s.heap.objs.size:=fun b hb=>by
    obtain ⟨o,e⟩:=hfo b hb
    exact Heap.lt_size e
  have hCn:H (s.heap.objs.size + 1) = none:=I.hok.fresh (qDa _)
  have hDn:H s.heap.objs.size = none:=I.hok.fresh (qA7 _)
  have nofs:∀ a,s.heap.objs.size ≤ a → a ∉ frs X.stack:=fun a ha hb=>by
    rcases qA9.mp (I.stkSub a hb) with e | hb
    · have t1:=asN I.lt
      have t2:=asE e
      have t3:=asL ha
      omega
    · exact I.nofs ha hb
  have fin:∀ b ∈ fp,b ∉ frs X.stack:=fun b hb z=>by
    obtain ⟨f0,f1,f2,f3,f4,f5⟩:=hf b hb
    rcases qA9.mp (I.stkSub b z) with e | z
    · exact f1 e
    · exact f2 z
  have ok:(zD2 X N' sc (s.heap.objs.size + 1) s H fp).Ok:=by
    refine ⟨I.ok.mod,S.kind,I.ok.glob,I.ok.blt,qDa _,?_,?_,?_,I.ok.hd,I.ok.frames,.inl rfl,?_,I.bs,qAo I.ok.bsz I.sz,?_,fin,I.stack,I.stkFree⟩
    · intro x y c hx hy
      rcases cells x c hx with ⟨m1,_,_,g1⟩ | ⟨m1,g1⟩ <;> rcases cells y c hy with ⟨m2,_,_,g2⟩ | ⟨m2,g2⟩
      · exact name_of_addr own.apart m1 m2
      · exact absurd (qAb (old y c g2) (qAo (by rw [sz2]; exact qF0 _ _) g1)) (qBy _)
      · exact absurd (qAb (old x c g1) (qAo (by rw [sz2]; exact qF0 _ _) g2)) (qBy _)
      · exact I.ok.inj x y c g1 g2
    · intro x hx
      have hx:(relabel sc X.env).names.lookup x = some .cell ∨ (relabel sc X.env).names.lookup x = some .free:=hx
      have two:sc.names.lookup x = some .cell ∨ sc.names.lookup x = some .free:=by
        rcases hx with hx | hx
        · rcases zBO (sc:=sc) hx with q | ⟨q,_⟩
          · exact .inl q
          · exact .inr q
        · rcases zBO (sc:=sc) hx with q | ⟨_,q⟩
          · exact .inr q
          · cases q
      rcases two with q | q
      · have:=qCu sc.names (s.heap.objs.size + 1 + 1) (clos X.env.cells sc.names []) (.inl q)
        exact qBt.mp this
      · exact ⟨_,zE6 S.nd (mem_of_lookup q)⟩
    · intro x c hx e
      have hx:(sc.names.lookup x == some NameKind.cell) = true:=hx
      have hx':sc.names.lookup x = some .cell:=by simpa using hx
      rcases cells x c e with ⟨_,_,_,g⟩ | ⟨m,_⟩
      · show s.heap.objs.size ≤ c
        omega
      · rw [zBY S.nd m] at hx'
        cases hx'
    · intro b hb
      refine ⟨?_,fun x c e z=>?_⟩
      · exact qAn (qEs (fpl b hb))
      · rcases cells x c e with ⟨_,_,_,g⟩ | ⟨_,g⟩
        · have t1:=asN (fpl b hb)
          have t2:=asL g
          have t3:=asE z
          omega
        · exact (hf b hb).2.2.2.2.1 x c g z
    · intro b o e hb
      rcases (hf b hb).2.2.2.1 with z | z
      · exact I.ok.noex b o e z
      · exact absurd (qAb (Heap.lt_size e) (qAo I.ok.bsz z)) (qBy _)
  have ns:(pushCells h2 sc.names).Ns (s.heap.objs.size + 1) fun _=>none:=by
    have q:h2.Ns h1.objs.size fun _=>none:=by rw [← hh2]; exact Heap.Ns.new h1 (.type "dict")
    rw [sz1] at q
    exact q.keeps k3
  have hD1:h1.get? s.heap.objs.size = some { cls:=.type "list",data:=.seq #[] 0 }:=by rw [← hh1]; exact Heap.get?_push_size _ rfl
  refine ⟨⟨ok,rfl,I.bare,Un.kept kk,⟨_,ns,?_⟩,?_,hCn,?_,?_,I.hok.kept kk,?_⟩,?_⟩
  · intro i x v h1 h2 h3
    have hi:i < X.N.length:=by
      rw [← I.len]
      by_cases hi:i < σ.length
      · exact hi
      · rw [qAd (by omega),qBl] at h2
        split at h2 <;> cases h2
    have h2':σ[i]? = some (some v):=by
      rw [qAg (by rw [I.len]; exact hi)] at h2
      exact h2
    have h1:N'[i]? = some x:=h1
    rcases S.old i x h1 hi with ⟨m,e⟩ | e
    · obtain ⟨mm,hn,hl⟩:=I.loc
      have hv:Vis X.env.scope x:=(S.free x m).elim (fun z=>.inr (.inl z)) fun z=>.inr (.inr z)
      obtain ⟨u,r,l⟩:=hl i x v e h2' hv
      refine ⟨u,r,?_⟩
      rcases l with ⟨z,_⟩ | ⟨_,c,hc,hcell⟩
      · rcases S.free x m with z' | z' <;> rw [z] at z' <;> cases z'
      · refine .inr ⟨?_,c,?_,hcell.keeps kk⟩
        · have hv3:(relabel sc X.env).names.lookup x = some .local ∨ (relabel sc X.env).names.lookup x = some .cell ∨ (relabel sc X.env).names.lookup x = some .free:=h3
          rcases hv3 with q | q | q
          · rcases zBO (sc:=sc) q with q | ⟨_,q⟩
            · rw [zBY S.nd m] at q; cases q
            · cases q
          · exact .inl q
          · exact .inr q
        · have q:=zE6 (X:=X) (C:=s.heap.objs.size + 1) S.nd m
          rw [hc,qDz] at q
          exact q
    · exfalso
      have hv3:(relabel sc X.env).names.lookup x = some .local ∨ (relabel sc X.env).names.lookup x = some .cell ∨ (relabel sc X.env).names.lookup x = some .free:=h3
      rcases hv3 with q | q | q <;> rcases zBO (sc:=sc) q with q | ⟨q,_⟩ <;> rw [e] at q <;> cases q
  · intro x c e
    rcases cells x c e with ⟨_,_,g,_⟩ | ⟨_,g⟩
    · exact ⟨_,g⟩
    · obtain ⟨v,q⟩:=I.cell x c g
      exact ⟨v,q.keeps kk⟩
  · intro x c e
    rcases cells x c e with ⟨_,_,_,g⟩ | ⟨_,g⟩
    · exact I.hok.fresh (by omega)
    · exact I.freeC x c g
  · intro p hp
    have hp':p = (s.heap.objs.size,{ cls:=.type "list",data:=.seq #[] 0 }):=by
      have:p ∈ ([] ++ [(s.heap.objs.size,({ cls:=.type "list",data:=.seq #[] 0 }:Obj))]:List (Addr × Obj)):=hp
      simpa using this
    subst hp'
    refine ⟨k3 _ _ (k2 _ _ hD1),hDn,?_,nofs _ (qA7 _),fun v z=>by cases z⟩
    show s.heap.objs.size ≠ s.heap.objs.size + 1
    omega
  · show (σ ++ qA6 k none).length = N'.length
    rw [qAt,qCz,I.len,S.len]
  · intro b hb
    obtain ⟨f0,f1,f2,f3,f4,f5⟩:=hf b hb
    refine ⟨f0,(ok.exf b hb).1,fin b hb,.inl hb,fun x c e=>(ok.exf b hb).2 x c e,fun p hp=>?_⟩
    have hp':p = (s.heap.objs.size,{ cls:=.type "list",data:=.seq #[] 0 }):=by
      have:p ∈ ([] ++ [(s.heap.objs.size,({ cls:=.type "list",data:=.seq #[] 0 }:Obj))]:List (Addr × Obj)):=hp
      simpa using this
    subst hp'
    exact qBo (fpl b hb)
end
theorem zDX {prog:Program} {w:World} {A:Around} {R:Result → Shared → Prop} {s:Shared} {elt target iter:Expr} {ifs:List Expr} {scope:Scope} {pos:Pos} {it acc:Value} {env:Env} (I:Nat → Shared → Prop)
    (turn:∀ n s,I n s → wpAny (model prog w) A (pyNext it) (fun r s₁=>match r with
      | none=>R (.ok .next) s₁
      | some v=>wpAny (model prog w) A (letOwnedTupleGo target it v) (fun _ s₂'=>wpAny (model prog w) A (assign target env v) (fun _ s₂ =>
          wpAny (model prog w) A (forIn ifs true fun c r=>if r = true then do let ok ← isTrue c env (eval c env); pure (qC9 ok) else pure (qC9 r)) (fun ok s₃ =>
            if ok = true then wpAny (model prog w) A (eval elt env) (fun x s₄ =>
              wpAny (model prog w) A (call (.builtin "list.append") [acc,x]) (fun _ s₅=>∃ m,m < n ∧ I m s₅) (fun _ _=>False) s₄) (fun _ _=>False) s₃
            else ∃ m,m < n ∧ I m s₃) (fun _ _=>False) s₂) (fun _ _=>False) s₂') (fun _ _=>False) s₁) (fun _ _=>False) s)
    (n:Nat) (h:I n s) :
    codeAny (model prog w) A (.compLoop (.ListComp elt [⟨target,iter,ifs,0⟩] scope pos) 0 it acc env) R s:=by
  refine codeAny_loop rfl I (fun n s hI=>?_) n h
  show wpAny _ A ((compTurn (.ListComp elt [⟨target,iter,ifs,0⟩] scope pos) 0 it acc env).onRaise (fun x=>do noteFrame x env; theTreesLotGoes x)) _ _ s
  refine wpAny_noted ?_
  rw [compTurn_list]
  refine wpAny_bind (wpAny_standAt (wpAny_bind (wpAny_mono (turn n s hI) (fun r s₁ h₁=>?_) fun _ _ z=>z.elim)))
  cases r with
  | none=>exact wpAny_pure h₁
  | some v =>
    refine wpAny_bind (wpAny_mono h₁ (fun _ s₂' h₂'=>?_) fun _ _ z=>z.elim)
    refine wpAny_bind (wpAny_mono h₂' (fun _ s₂ h₂=>wpAny_bind (wpAny_mono h₂ (fun ok s₃ h₃=>?_) fun _ _ z=>z.elim)) fun _ _ z=>z.elim)
    cases ok with
    | false=>exact wpAny_pure ⟨rfl,h₃⟩
    | true =>
      exact wpAny_bind (wpAny_bind (wpAny_mono h₃ (fun x s₄ h₄=>wpAny_bind (wpAny_mono h₄ (fun _ s₅ h₅=>wpAny_pure (wpAny_pure ⟨rfl,h₅⟩)) fun _ _ z=>z.elim)) fun _ _ z=>z.elim))
def zRN (k:Nat) (g:TG) (tif:TT) (te:TE) (σ:St) (Q:VK) (J:It) (H1:Hp):Prop:=∃ W:Nat → Nat → List V → Hp → Prop,(∃ m,W 0 m [] H1) ∧ ∀ i m acc H,W i m acc H →
  (J.stop i H ∧ ∀ D,H D = none → Q (.ref D) (upd H D (.lst acc))) ∨
  (J.go i H ∧ acc.length < sizeLine ∧ ∃ N:List V → Hp → Prop,(∀ acc' H',N acc' H' → ∃ m',m' < m ∧ W (i + 1) m' acc' H') ∧ ∀ x H',J.yld i H x H' → g x (σ ++ qA6 k none) H' fun σ2 H2=>∃ own:St,own.length = k ∧ σ2 = σ ++ own ∧ tif σ2 H2 fun b H3=>if b = true then te σ2 H3 fun v H4=>N (acc ++ [v]) H4 else N acc H3)
noncomputable def zT8 (wi:TI) (k:Nat) (g:TG) (tif:TT) (te:TE):TE:=fun σ H Q=>wi σ H (zRN k g tif te σ Q)
theorem HOk.track {P:Program} {w:World} {H:Hp} {h:Heap} {a:Addr} {o:HO} (x:HOk P w H h) (hn:H a = none) (new:ObjOk P w (upd H a o) h a o):HOk P w (upd H a o) h:=fun b u e=>by
  by_cases hb:b = a
  · subst hb; rw [zAH] at e; cases e; exact new
  · rw [zAG hb] at e
    exact (x b u e).stay (fun c v _ q=>q) (fun c q=>by rw [zAG (zAO q hn)]; exact q) fun c xs q=>by rw [zAG (zAO q hn)]; exact q
section
variable {X:Cx} {N':List Str} {k:Nat} {sc:Scope} {tg iter elt:Expr} {ifs:List Expr} {wi:TI} {g:TG} {tif:TT} {te:TE} {pos:Pos}
theorem zHR {pins:List (Addr × Obj)} {σ:St} {H2:Hp} {s2:Shared} {Q:VK} {RR:Value → Addr → Result → Shared → Prop} {E:Value → Shared → Prop} (hc:X.calm = true) (S:CompNames X.N N' k sc X.env)
    (hg:∀ C s H fp,PG (zD2 X N' sc C s H fp) tg g) (hif:∀ C s H fp,PTs (zD2 X N' sc C s H fp) ifs tif) (he:∀ C s H fp,PE (zD2 X N' sc C s H fp) elt te)
    {it:Addr} {fp:List Addr} {tn:Nat → Heap → Prop} {J:It} (I2:Inv X pins σ H2 s2) (T:Turn X.prog X.w X.K tg J fp it tn) (st2:tn 0 s2.heap) (f2:∀ b ∈ fp,FpOk X pins H2 b)
    {W:Nat → Nat → List V → Hp → Prop} {m0:Nat} (w0:W 0 m0 [] H2)
    (turn:∀ i m acc H,W i m acc H → (J.stop i H ∧ ∀ D,H D = none → Q (.ref D) (upd H D (.lst acc))) ∨
      (J.go i H ∧ acc.length < sizeLine ∧ ∃ N:List V → Hp → Prop,(∀ acc' H',N acc' H' → ∃ m',m' < m ∧ W (i + 1) m' acc' H') ∧ ∀ x H',J.yld i H x H' → g x (σ ++ qA6 k none) H' fun σ2 H2=>∃ own:St,own.length = k ∧ σ2 = σ ++ own ∧ tif σ2 H2 fun b H3=>if b = true then te σ2 H3 fun v H4=>N (acc ++ [v]) H4 else N acc H3))
    (hRR:∀ D C s' H',D < C → s2.heap.objs.size ≤ D → (∃ m,s'.heap.Ns C m) → H' C = none → C ∉ frs X.stack → Inv X pins σ H' s' → Q (.ref D) H' → RR (.ref D) C (.ok .next) s') :
    wpAny (model X.prog X.w) X.A (newList []) (fun acc s₃=>wpAny (model X.prog X.w) X.A (newFunctionEnv sc X.env.globals (clos X.env.cells sc.names []) [] X.env.qual none .none (some X.env)) (fun cenv s₄ =>
      codeAny (model X.prog X.w) X.A (.compStart (.ListComp elt [⟨tg,iter,ifs,0⟩] sc pos) 0 (.ref it) acc { cenv with scope:=relabel sc X.env }) (RR acc cenv.locals) s₄) E s₃) E s2:=by
  refine wpAny_newObj_type (zEE ?_)
  show codeAny _ _ (.compStart _ 0 (.ref it) (.ref s2.heap.objs.size) _) _ _
  have szp:(s2.heap.push { cls:=.type "list",dict:=none,data:=.seq ([]:List Value).toArray }).objs.size = s2.heap.objs.size + 1:=Heap.size_push ..
  obtain ⟨I4,F4⟩:=zQP (s4:={ s2 with heap:=pushCells ((s2.heap.push { cls:=.type "list",data:=.seq #[] 0 }).push { cls:=.type "dict",data:=.dict #[] }) sc.names }) I2 hc S f2 (fun b hb=>let ⟨o,e,_⟩:=T.obj 0 _ st2 b hb; ⟨o,e⟩) rfl rfl rfl
  generalize hC:(s2.heap.push { cls:=.type "list",dict:=none,data:=.seq ([]:List Value).toArray }).objs.size = C at *
  have eC:C = s2.heap.objs.size + 1:=szp
  rw [← eC] at I4 F4
  generalize hs4:({ s2 with heap:=pushCells ((s2.heap.push { cls:=.type "list",data:=.seq #[] 0 }).push { cls:=.type "dict",data:=.dict #[] }) sc.names }:Shared) = s4 at I4 F4
  have kk:∀ b o,s2.heap.get? b = some o → s4.heap.get? b = some o:=fun b o e=>by
    rw [← hs4]
    exact pushCells_keeps sc.names _ b o (Heap.get?_push_of_some _ (Heap.get?_push_of_some _ e))
  have st4:tn 0 s4.heap:=T.keep 0 _ _ st2 fun b _ o e=>kk b o e
  generalize hX':zD2 X N' sc C s2 H2 fp = X' at I4 F4
  have henv:X'.env = zDV sc C X.env:=by rw [← hX']; rfl
  have xprog:X'.prog = X.prog:=by rw [← hX']; rfl
  have xw:X'.w = X.w:=by rw [← hX']; rfl
  have xK:X'.K = X.K:=by rw [← hX']; rfl
  have xcalm:X'.calm = true:=by rw [← hX']; exact hc
  have xA:X'.A = X.A:=by rw [← hX']; rfl
  have xpn:X'.pn = []:=by rw [← hX']; rfl
  have xxe:X'.xe = fun _ _=>False:=by rw [← hX']; rfl
  have xs0:X'.s₀ = s2:=by rw [← hX']; rfl
  have xH0:X'.H₀ = H2:=by rw [← hX']; rfl
  have xfs:X'.fs = frs X.stack:=by rw [← hX']; rfl
  have xex:X'.ex = fp:=by rw [← hX']; rfl
  have hgX:PG X' tg g:=by rw [← hX']; exact hg C s2 H2 fp
  have hifX:PTs X' ifs tif:=by rw [← hX']; exact hif C s2 H2 fp
  have heX:PE X' elt te:=by rw [← hX']; exact he C s2 H2 fp
  have locC:X'.env.locals = C:=by rw [henv]; rfl
  generalize hDd:s2.heap.objs.size = D at *
  have loop:codeAny (model X.prog X.w) X.A (.compLoop (.ListComp elt [⟨tg,iter,ifs,0⟩] sc pos) 0 (.ref it) (.ref D) (zDV sc C X.env)) (RR (.ref D) C) s4:=by
    refine zDX (fun n s'=>∃ i H' acc its nn,Inv X' [] (σ ++ qA6 k none) H' s' ∧ tn i s'.heap ∧ (∀ b ∈ fp,H' b = none) ∧ H' D = none ∧ W i n acc H' ∧ acc.length ≤ sizeLine ∧ Vals acc its ∧ s'.heap.get? D = some { cls:=.type "list",data:=.seq its.toArray nn }) ?_ m0 ?_
    · rintro n s5 ⟨i,H5,acc,its,nn,I5,st5,fr5,hD5,w5,hz5,rv5,hL5⟩
      have hDlt:D < C:=by rw [eC]; exact qF1 _
      have pinD:Inv X' [(D,{ cls:=.type "list",data:=.seq its.toArray nn })] (σ ++ qA6 k none) H5 s5:=I5.pins_of fun p hp=>by
        have hp':p = (D,{ cls:=.type "list",data:=.seq its.toArray nn }):=by simpa using hp
        subst hp'
        refine ⟨hL5,hD5,?_,?_,fun v z=>by cases z⟩
        · rw [locC]; exact qAn hDlt
        · have q:=(I4.pin (D,{ cls:=.type "list",data:=.seq #[] 0 }) (by simp)).2.2.2.1
          exact q
      have fpD:∀ {H':Hp} {oo:Obj},(∀ b ∈ fp,H' b = none) → ∀ b ∈ fp,FpOk X' [(D,oo)] H' b:=fun {H' oo} hn b hb=>by
        obtain ⟨f0,f1,f2,f3,f4,f5⟩:=F4 b hb
        refine ⟨hn b hb,f1,f2,f3,f4,fun p hp=>?_⟩
        have hp':p = (D,oo):=by
          rw [xpn] at hp
          simpa using hp
        subst hp'
        exact f5 (D,{ cls:=.type "list",data:=.seq #[] 0 }) (by simp)
      rcases turn i n acc H5 w5 with ⟨stop,q⟩ | ⟨go,hlt,N,hN,step⟩
      · have dn:=T.done X' xprog xw xK xcalm i _ s5 _ H5 (fun _ _=>False) pinD (fpD fr5) st5 stop
        rw [xA] at dn
        refine thn dn fun r s6 ⟨hr,I6⟩=>?_
        subst hr
        show RR (.ref D) C (.ok .next) s6
        have hL6:=(I6.pin (D,{ cls:=.type "list",data:=.seq its.toArray nn }) (by simp)).1
        have un6:Un (frs X.stack) fp H2 H5 s2.heap s6.heap:=by
          have:=I6.base
          rw [xs0,xH0,xfs,xex] at this
          exact this
        have hok6:HOk X.prog X.w H5 s6.heap:=by
          have:=I6.hok
          rw [xprog,xw] at this
          exact this
        have hDno:s2.heap.get? D = none:=Heap.get?_none_of_le (by rw [hDd]; exact qA7 _)
        have un7:Un (frs X.stack) fp H2 (upd H5 D (.lst acc)) s2.heap s6.heap :=
          ⟨un6.keep,un6.slot,fun b o e n hx=>by
              have hb:b ≠ D:=by rintro rfl; rw [hDno] at e; cases e
              rw [zAG hb]; exact un6.free b o e n hx,un6.there,
            fun b xs e=>by
              have e':=un6.tups b xs e
              rw [zAG (zAO e' hD5)]; exact e',
            fun b o u e=>by
              have e':=un6.frzs b o u e
              rw [zAG (zAO e' hD5)]; exact e',
            fun b ps e=>by
              obtain ⟨more,e'⟩:=un6.tbls b ps e
              exact ⟨more,by rw [zAG (zAO e' hD5)]; exact e'⟩⟩
        have hok7:HOk X.prog X.w (upd H5 D (.lst acc)) s6.heap:=hok6.track hD5 ⟨hz5,its,nn,rv5,hL6⟩
        have os6:s6.os = s2.os:=by have:=I6.os; rw [xs0] at this; exact this
        have I7:Inv X pins σ (upd H5 D (.lst acc)) s6:=I2.call' os6 un7 hok7 I6.bare fun b hb=>by
          obtain ⟨f0,f1,f2,f3,f4,f5⟩:=f2 b hb
          exact ⟨f3,f1,f4,f5⟩
        obtain ⟨mm,hn,_⟩:=I6.loc
        rw [locC] at hn
        have hC5:H5 C = none:=by have:=I6.free; rw [locC] at this; exact this
        refine hRR D C s6 (upd H5 D (.lst acc)) hDlt (qA7 _) ⟨mm,hn⟩ ?_ ?_ I7 (q D hD5)
        · rw [zAG (qBo hDlt)]; exact hC5
        · intro hb
          rcases qA9.mp (I2.stkSub C hb) with e | hb
          · have t1:=asN I2.lt
            have t2:=asE e
            rw [hDd] at t1
            have t3:=asN hDlt
            omega
          · exact I2.nofs (by rw [hDd]; exact qC6 hDlt) hb
      · have itm:=T.item X' xprog xw xK xcalm i _ s5 _ H5 (fun _ _=>False) pinD (fpD fr5) st5 go
        rw [xA] at itm
        refine thn itm fun r s6 ⟨u,hr,h6⟩=>?_
        subst hr
        refine thn h6 fun _ s7 ⟨x,H7,I7,r7,y7,st7,fr7⟩=>?_
        have I7':Inv X' ([(D,{ cls:=.type "list",data:=.seq its.toArray nn })] ++ zHC fp s7.heap) (σ ++ qA6 k none) H7 s7:=I7.pinned (fpD fr7) (T.obj _ _ st7)
        have asg:=hgX _ s7 _ H7 x u _ I7' r7 (step x H7 y7)
        rw [xprog,xw,xA,henv,xxe] at asg
        refine thn asg fun _ s8 ⟨σ8,H8,I8,own,hown,hσ8,q8⟩=>?_
        have weak:∀ {pl:List (Addr × Obj)} {H':Hp} {s':Shared},Inv X' pl σ8 H' s' → Inv X' [] (σ ++ qA6 k none) H' s':=fun {pl H' s'} J'=>by
          have J0:Inv X' [] σ8 H' s':=J'.pins_of (fun p hp=>by simp at hp)
          refine J0.weak (by rw [hσ8]; simp [hown]) fun j v hj=>?_
          rw [hσ8]
          by_cases hjl:j < σ.length
          · rw [qAg hjl] at hj ⊢
            exact hj
          · rw [qAd (by omega),qBl] at hj
            split at hj <;> cases hj
        have tst:=hifX _ s8 σ8 H8 _ I8 q8
        rw [xprog,xw,xA,henv,xxe] at tst
        refine thn tst fun b s9 ⟨H9,I9,q9⟩=>?_
        have pin9:∀ {σ':St} {H':Hp} {s':Shared},Inv X' ([(D,{ cls:=.type "list",data:=.seq its.toArray nn })] ++ zHC fp s7.heap) σ' H' s' →
            s'.heap.get? D = some { cls:=.type "list",data:=.seq its.toArray nn } ∧ H' D = none ∧ tn (i + 1) s'.heap ∧ (∀ b ∈ fp,H' b = none):=fun {σ' H' s'} J'=>by
          have a1:=J'.pin (D,{ cls:=.type "list",data:=.seq its.toArray nn }) (by simp)
          refine ⟨a1.1,a1.2.1,T.keep _ _ _ st7 fun b hb o e=>(J'.pin (b,o) (qAu _ (qAu _ (zDS hb e)))).1,fun b hb=>?_⟩
          obtain ⟨o,e,d⟩:=T.obj _ _ st7 b hb
          exact (J'.pin (b,o) (qAu _ (qAu _ (zDS hb e)))).2.1
        cases b with
        | false =>
          rw [if_neg qAe]
          rw [if_neg qAe] at q9
          obtain ⟨m',hm,w9⟩:=hN _ _ q9
          obtain ⟨p1,p2,p3,p4⟩:=pin9 I9
          exact ⟨m',hm,i + 1,H9,acc,its,nn,weak I9,p3,p4,p2,w9,hz5,rv5,p1⟩
        | true =>
          rw [if_pos rfl]
          rw [if_pos rfl] at q9
          have ev:=heX _ s9 σ8 H9 _ I9 q9
          rw [xprog,xw,xA,henv,xxe] at ev
          refine thn ev fun y s10 ⟨v,H10,I10,r10,n10⟩=>?_
          obtain ⟨m',hm,w10⟩:=hN _ _ n10
          obtain ⟨p1,p2,p3,p4⟩:=pin9 I10
          have hlen:its.length = acc.length:=rv5.length.symm
          refine wpAny_list_append_plain (items:=its.toArray) ⟨nn,p1⟩ (fun h' hl' hs'=>?_) (by simp only [qAc]; omega)
          have hDfp:D ∉ fp:=fun hb=>(F4 D hb).2.2.2.2.2 (D,{ cls:=.type "list",data:=.seq #[] 0 }) (by simp) rfl
          have I11:Inv X' [] (σ ++ qA6 k none) H10 { s10 with heap:=h' }:=by
            have J0:Inv X' [] (σ ++ qA6 k none) H10 s10:=weak I10
            refine J0.turned (t':=s10.toks) (it:=D) (fun b o hb e=>(hs'.2 b hb).trans e) p2 ?_ (.inr ?_) (fun x c e z=>?_) (fun p hp=>?_)
            · rw [locC]; exact qAn hDlt
            · rw [xs0,hDd]; exact qA7 _
            · obtain ⟨v',q⟩:=J0.cell x c e
              obtain ⟨o,ho,hd⟩:=q
              rw [z,p1] at ho
              cases ho
              cases hd
            · rw [xpn] at hp; simp at hp
          obtain ⟨n',hk⟩:=hl'
          have hk':h'.get? D = some { cls:=.type "list",data:=.seq (its ++ [y]).toArray n' }:=by rw [hk]; simp
          refine ⟨m',hm,i + 1,H10,acc ++ [v],its ++ [y],n',I11,T.keep _ _ _ p3 fun b hb o e=>(hs'.2 b (fun z=>hDfp (z ▸ hb))).trans e,p4,p2,w10,?_,rv5.append (.cons r10 .nil),hk'⟩
          rw [qAt,qE8]
          omega
    · refine ⟨0,H2,[],[],0,I4.pins_of (fun p hp=>by simp at hp),st4,fun b hb=>(f2 b hb).1,I2.hok.fresh (by rw [hDd]; exact qA7 _),w0,qAy _,.nil,?_⟩
      exact (I4.pin (D,{ cls:=.type "list",data:=.seq #[] 0 }) (by simp)).1
  exact codeAny_compStart_list loop (T.self _ 0 _ _ _ st4 loop)
theorem zEA (hc:X.calm = true) (S:CompNames X.N N' k sc X.env) (hi:PI X tg iter wi)
    (hg:∀ C s H fp,PG (zD2 X N' sc C s H fp) tg g) (hif:∀ C s H fp,PTs (zD2 X N' sc C s H fp) ifs tif) (he:∀ C s H fp,PE (zD2 X N' sc C s H fp) elt te)
    (hs:∀ x,foldedSetIterable iter X.env x = pure x:=by intro _; rfl):PE X (.ListComp elt [⟨tg,iter,ifs,0⟩] sc pos) (zT8 wi k g tif te):=by
  intro pins s σ H Q I h
  rw [eval_ListComp]
  have hfree:∀ x,(x,NameKind.free) ∈ sc.names → ∃ c,X.env.cells.lookup x = some c:=fun x hx=>I.ok.has x (S.free x hx)
  refine wpAny_comprehension_free (use:=none) rfl hs (zER hfree) S.kind (fun x hx hl=>?_) ?_
  · obtain ⟨n,kd⟩:=x
    dsimp only at hl ⊢
    subst hl
    exact zBY S.nd hx
  · refine thn (hi pins s σ H _ I h) fun v s1 h1=>thn h1 fun itv s2 h2=>?_
    obtain ⟨it,fp,tn,J,H2,e,I2,T,st2,f2,W,⟨m0,w0⟩,turn⟩:=h2
    subst e
    refine zHR (RR:=fun acc C=>compPost (model X.prog X.w) X.A X.xe none (EP X pins σ Q) acc C) hc S hg hif he I2 T st2 f2 w0 turn ?_
    intro D C s' H' hDC hD hn hCn hCf I' q
    obtain ⟨m,hn⟩:=hn
    refine ⟨m,hn,fun h' hs'=>⟨.ref D,H',?_,rfl,q⟩⟩
    have hCb:s2.heap.objs.size ≤ C:=qC6 (qDi hD hDC)
    refine I'.turned (t':=s'.toks) (it:=C) (fun b o hb e=>(hs'.2 b hb).trans e) hCn ?_ (.inr (qAo I2.sz hCb)) (fun x c e z=>?_) (fun p hp z=>?_)
    · exact qBo (qAb I2.lt hCb)
    · obtain ⟨v,q⟩:=I2.cell x c e
      exact absurd z (qAn (qAb q.lt hCb))
    · exact absurd z (qAn (qAb (Heap.lt_size (I2.pin p hp).1) hCb))
theorem zHB {i:Nat} {x:Str} {pos' spos:Pos} (hN:X.N.Nodup) (hi':X.N[i]? = some x) (hx:Loc X.env.scope x) (hc:X.calm = true) (S:CompNames X.N N' k sc X.env) (hi:PI X tg iter wi)
    (hg:∀ C s H fp,PG (zD2 X N' sc C s H fp) tg g) (hif:∀ C s H fp,PTs (zD2 X N' sc C s H fp) ifs tif) (he:∀ C s H fp,PE (zD2 X N' sc C s H fp) elt te)
    (hsw:swapsWith (.ListComp elt [⟨tg,iter,ifs,0⟩] sc pos) (some (.Name x pos')) spos.line X.env = pure true:=by rfl)
    (hs:∀ x,foldedSetIterable iter X.env x = pure x:=by intro _; rfl) (hf:X.fn x = true ∨ X.env.scope.names.lookup x = some .local:=by first | exact .inl rfl | exact .inr rfl | assumption) :
    PS X (.Assign [.Name x pos'] (.ListComp elt [⟨tg,iter,ifs,0⟩] sc pos) spos) (tAsg (zT8 wi k g tif te) (zGH i)):=by
  intro pins s σ H Dn I h
  rw [exec_Assign_Name_used _ _ _ _ hsw]
  refine wpAny_bind (wpAny_standAt (wpAny_bind ?_))
  show wpAny _ X.A (do let _ ← comprehension (.ListComp elt [⟨tg,iter,ifs,0⟩] sc pos) sc X.env _ (newList []) false (eval iter X.env) (some (assign (.Name x pos') X.env))) _ _ s
  have hfree:∀ x,(x,NameKind.free) ∈ sc.names → ∃ c,X.env.cells.lookup x = some c:=fun x hx=>I.ok.has x (S.free x hx)
  refine wpAny_bind (wpAny_mono (wpAny_comprehension_free (use:=some (assign (.Name x pos') X.env)) (Q:=fun _ s'=>SP X pins Dn .next s') rfl hs (zER hfree) S.kind (fun x hx hl=>?_) ?_)
    (fun _ s' hq=>wpAny_pure (wpAny_pure hq)) fun _ _ e=>e)
  · obtain ⟨n,kd⟩:=x
    dsimp only at hl ⊢
    subst hl
    exact zBY S.nd hx
  · refine thn (hi pins s σ H _ I h) fun v s1 h1=>thn h1 fun itv s2 h2=>?_
    obtain ⟨it,fp,tn,J,H2,e,I2,T,st2,f2,W,⟨m0,w0⟩,turn⟩:=h2
    subst e
    refine zHR (Q:=fun v H'=>zGH i v σ H' Dn.nx) (RR:=fun acc C=>compPost (model X.prog X.w) X.A X.xe (some (assign (.Name x pos') X.env)) (fun _ s'=>SP X pins Dn .next s') acc C) hc S hg hif he I2 T st2 f2 w0 turn ?_
    intro D C s' H' hDC hD hn hCn hCf I' q
    obtain ⟨m,hn⟩:=hn
    show wpAny _ _ (assign (.Name x pos') X.env (.ref D)) _ _ _
    have hCb:s2.heap.objs.size ≤ C:=qC6 (qDi hD hDC)
    have hCL:C ≠ X.env.locals:=qBo (qAb I2.lt hCb)
    have hCc:∀ x c,X.env.cells.lookup x = some c → c ≠ C:=fun x c e z=>by
      obtain ⟨v,q⟩:=I2.cell x c e
      exact absurd z (qAn (qAb q.lt hCb))
    refine wpAny_assign_Name (zJ7 (v:=.ref D) I' hN hi' hx rfl (fun s'' I'' ⟨a,sb,ha⟩=>?_) hf)
    have hCa:C ≠ a:=by
      rcases ha with e | e
      · rw [e]; exact hCL
      · exact fun z=>hCc x a e z.symm
    refine ⟨m,hn.sameBut sb hCa,fun h' hs'=>⟨_,H',?_,q⟩⟩
    refine I''.turned (t':=s''.toks) (it:=C) (fun b o hb e=>(hs'.2 b hb).trans e) hCn hCL (.inr (qAo I2.sz hCb)) hCc (fun p hp z=>?_)
    exact absurd z (qAn (qAb (Heap.lt_size (I2.pin p hp).1) hCb))
theorem zHQ {lo:Int} {n:Nat} {σ:St} {H:Hp} {Q:VK} (Pv:Nat → List V → Hp → Prop) (h0:Pv 0 [] H) (hz:∀ i acc H,i < n → Pv i acc H → acc.length < sizeLine)
    (hs:∀ i acc H,i < n → Pv i acc H → g (.int (lo + i)) (σ ++ qA6 k none) H fun σ2 H2=>∃ own:St,own.length = k ∧ σ2 = σ ++ own ∧ tif σ2 H2 fun b H3=>if b = true then te σ2 H3 fun v H4=>Pv (i + 1) (acc ++ [v]) H4 else Pv (i + 1) acc H3)
    (hd:∀ acc H,Pv n acc H → ∀ D,H D = none → Q (.ref D) (upd H D (.lst acc))) :
    zRN k g tif te σ Q (Itr lo n) H:=by
  refine ⟨fun i m acc H=>m = n - i ∧ i ≤ n ∧ Pv i acc H,⟨n,by simp,qAy _,h0⟩,?_⟩
  rintro i m acc H ⟨rfl,hi,p⟩
  by_cases hlt:i < n
  · refine .inr ⟨hlt,hz i acc H hlt p,Pv (i + 1),fun acc' H' p'=>⟨n - (i + 1),by omega,rfl,hlt,p'⟩,fun x H' y=>?_⟩
    obtain ⟨e,y⟩:=y
    subst e y
    exact hs i acc _ hlt p
  · have e:i = n:=by omega
    subst e
    exact .inl ⟨qA7 _,hd acc H p⟩
def zPT (g:TG) (tb:TS) (D:Ends) (σ:St) (J:It) (H1:Hp):Prop:=∃ W:Nat → Nat → St → Hp → Prop,(∃ m,W 0 m σ H1) ∧ ∀ i m σ H,W i m σ H →
  (J.stop i H ∧ D.nx σ H) ∨ (J.go i H ∧ ∃ N:St → Hp → Prop,(∀ σ' H',N σ' H' → ∃ m',m' < m ∧ W (i + 1) m' σ' H') ∧ ∀ x H',J.yld i H x H' → g x σ H' fun σ2 H2=>tb { D with nx:=N,ct:=N,bk:=D.nx } σ2 H2)
theorem zKT {body:List Stmt} {tb:TS} (hp:PassesOwn (model X.prog X.w) X.A X.env X.xe) (hc:X.calm = true) (hi:PI X tg iter wi) (hg:PG X tg g) (hb:PSs X body tb)
    (hs:∀ x,foldedSetIterable iter X.env x = pure x:=by intro _; rfl):PS X (.For tg iter body [] pos) (fun D σ H=>wi σ H (zPT g tb D σ)):=zW6 hp hc hi hg hb hs
end
end L2
namespace L2
open PySem PySem.Spec PyProof.Rows
inductive Dat where
  | non | bl (b:Bool) | int (i:Int) | str (x:Str) | lst (xs:List Dat) | tup (xs:List Dat)
mutual
def Dat.dep:Dat → Nat
  | .lst xs=>Dat.depL xs + 1
  | .tup xs=>Dat.depL xs + 1
  | _=>0
def Dat.depL:List Dat → Nat
  | []=>0
  | x :: r=>max x.dep (Dat.depL r)
end
mutual
def Dat.eq:Dat → Dat → Bool
  | .non,.non=>true
  | .bl a,.bl b=>a == b
  | .bl a,.int b=>(if a then 1 else 0) == b
  | .int a,.bl b=>a == (if b then 1 else 0)
  | .int a,.int b=>a == b
  | .str a,.str b=>a == b
  | .lst xs,.lst ys=>Dat.eqL xs ys
  | .tup xs,.tup ys=>Dat.eqL xs ys
  | _,_=>false
def Dat.eqL:List Dat → List Dat → Bool
  | [],[]=>true
  | x :: r,y :: q=>Dat.eq x y && Dat.eqL r q
  | _,_=>false
end
mutual
def Rep (H:Hp):Dat → V → Prop
  | .non,v=>v = .non
  | .bl b,v=>v = .bl b
  | .int i,v=>v = .int i
  | .str x,v=>v = .str x
  | .lst ds,v=>∃ a xs,v = .ref a ∧ H a = some (.lst xs) ∧ RepL H ds xs
  | .tup ds,v=>∃ a xs,v = .ref a ∧ H a = some (.tup xs) ∧ RepL H ds xs
def RepL (H:Hp):List Dat → List V → Prop
  | [],xs=>xs = []
  | d :: r,xs=>∃ x q,xs = x :: q ∧ Rep H d x ∧ RepL H r q
end
mutual
theorem Rep.mono {H H':Hp} (s:Same H H'):∀ {d:Dat} {v:V},Rep H d v → Rep H' d v
  | .non,_,h=>h
  | .bl _,_,h=>h
  | .int _,_,h=>h
  | .str _,_,h=>h
  | .lst _,_,h=>by obtain ⟨a,xs,e,e',r⟩:=h; exact ⟨a,xs,e,s _ _ e',RepL.mono s r⟩
  | .tup _,_,h=>by obtain ⟨a,xs,e,e',r⟩:=h; exact ⟨a,xs,e,s _ _ e',RepL.mono s r⟩
theorem RepL.mono {H H':Hp} (s:Same H H'):∀ {ds:List Dat} {xs:List V},RepL H ds xs → RepL H' ds xs
  | [],_,h=>h
  | _ :: _,_,h=>by obtain ⟨x,q,e,r,t⟩:=h; exact ⟨x,q,e,Rep.mono s r,RepL.mono s t⟩
end
mutual
theorem Rep.inj {H:Hp}:∀ {d e:Dat} {v:V},Rep H d v → Rep H e v → d = e
  | .non,e,v,h,h'=>by cases h; cases e <;> first | rfl | (cases h'; done) | (obtain ⟨a,xs,z,_⟩:=h'; cases z)
  | .bl b,e,v,h,h'=>by cases h; cases e <;> first | (cases h'; rfl) | (cases h'; done) | (obtain ⟨a,xs,z,_⟩:=h'; cases z)
  | .int b,e,v,h,h'=>by cases h; cases e <;> first | (cases h'; rfl) | (cases h'; done) | (obtain ⟨a,xs,z,_⟩:=h'; cases z)
  | .str b,e,v,h,h'=>by cases h; cases e <;> first | (cases h'; rfl) | (cases h'; done) | (obtain ⟨a,xs,z,_⟩:=h'; cases z)
  | .lst ds,e,v,h,h'=>by
    obtain ⟨a,xs,rfl,ha,q⟩:=h
    cases e with
    | lst es =>
      obtain ⟨b,ys,z,hb,q'⟩:=h'
      cases z
      rw [ha] at hb
      cases hb
      rw [RepL.inj q q']
    | tup es =>
      obtain ⟨b,ys,z,hb,q'⟩:=h'
      cases z
      rw [ha] at hb
      cases hb
    | _=>cases h'
  | .tup ds,e,v,h,h'=>by
    obtain ⟨a,xs,rfl,ha,q⟩:=h
    cases e with
    | tup es =>
      obtain ⟨b,ys,z,hb,q'⟩:=h'
      cases z
      rw [ha] at hb
      cases hb
      rw [RepL.inj q q']
    | lst es =>
      obtain ⟨b,ys,z,hb,q'⟩:=h'
      cases z
      rw [ha] at hb
      cases hb
    | _=>cases h'
theorem RepL.inj {H:Hp}:∀ {ds es:List Dat} {xs:List V},RepL H ds xs → RepL H es xs → ds = es
  | [],[],_,_,_=>rfl
  | [],_ :: _,_,h,h'=>by cases h; obtain ⟨x,q,e,_⟩:=h'; cases e
  | _ :: _,[],_,h,h'=>by cases h'; obtain ⟨x,q,e,_⟩:=h; cases e
  | d :: r,e :: t,_,h,h'=>by
    obtain ⟨x,q,rfl,r1,t1⟩:=h
    obtain ⟨x',q',z,r2,t2⟩:=h'
    cases z
    rw [Rep.inj r1 r2,RepL.inj t1 t2]
end
mutual
theorem Dat.eq_refl:∀ d:Dat,Dat.eq d d = true
  | .non=>by simp [Dat.eq]
  | .bl _=>by simp [Dat.eq]
  | .int _=>by simp [Dat.eq]
  | .str _=>by simp [Dat.eq]
  | .lst xs=>by rw [Dat.eq]; exact Dat.eqL_refl xs
  | .tup xs=>by rw [Dat.eq]; exact Dat.eqL_refl xs
theorem Dat.eqL_refl:∀ ds:List Dat,Dat.eqL ds ds = true
  | []=>by simp [Dat.eqL]
  | d :: r=>by rw [Dat.eqL,Dat.eq_refl d,Dat.eqL_refl r]; rfl
end
theorem RepL.length {H:Hp}:∀ {ds:List Dat} {xs:List V},RepL H ds xs → xs.length = ds.length
  | [],_,h=>by cases h; rfl
  | _ :: _,_,h=>by obtain ⟨x,q,e,r,t⟩:=h; subst e; simp [RepL.length t]
theorem Dat.eqL_len:∀ {xs ys:List Dat},xs.length ≠ ys.length → Dat.eqL xs ys = false
  | [],[],h=>absurd rfl h
  | [],_ :: _,_=>by simp [Dat.eqL]
  | _ :: _,[],_=>by simp [Dat.eqL]
  | x :: r,y :: q,h=>by
    rw [Dat.eqL,Dat.eqL_len (fun e=>h (by simp [e])),qCf]
theorem Dat.eqL_all:∀ {xs ys:List Dat},xs.length = ys.length → ∀ (e:Nat → Bool),(∀ j (h1:j < xs.length) (h2:j < ys.length),e j = Dat.eq xs[j] ys[j]) → (qA4 xs.length).all e = Dat.eqL xs ys
  | [],[],_,_,_=>by simp [Dat.eqL]
  | [],_ :: _,h,_,_=>by simp at h
  | _ :: _,[],h,_,_=>by simp at h
  | x :: r,y :: q,h,e,he=>by
    have hl:r.length = q.length:=by simpa using h
    rw [qAi,qE2,qCq,Dat.eqL,he 0 (by simp) (by simp)]
    have:=Dat.eqL_all (xs:=r) (ys:=q) hl (fun j=>e (j + 1)) (fun j h1 h2=>by
      rw [he (j + 1) (by simpa using h1) (by simpa using h2)]; simp)
    rw [← this,qGc]
    rfl
theorem RepL.get {H:Hp}:∀ {ds:List Dat} {xs:List V} {i:Nat} {x:V},RepL H ds xs → xs[i]? = some x → ∃ d,ds[i]? = some d ∧ Rep H d x
  | [],_,_,_,h,e=>by cases h; simp at e
  | d :: _,_,0,_,h,e=>by obtain ⟨x,q,e1,r,t⟩:=h; subst e1; simp at e; subst e; exact ⟨d,rfl,r⟩
  | _ :: _,_,i + 1,_,h,e=>by
    obtain ⟨x,q,e1,r,t⟩:=h
    subst e1
    obtain ⟨d',h1,h2⟩:=RepL.get (i:=i) t (by simpa using e)
    exact ⟨d',by simpa using h1,h2⟩
theorem Dat.depL_mem {d:Dat}:∀ {ds:List Dat},d ∈ ds → d.dep ≤ Dat.depL ds
  | _ :: _,h=>by
    rw [Dat.depL]
    rcases qA9.mp h with rfl | h
    · exact Nat.le_max_left _ _
    · exact qAo (Dat.depL_mem h) (Nat.le_max_right _ _)
section
variable {P:Program} {w:World} {H:Hp}
theorem zDO (A:Around):A.in1.units = A.units + 1:=rfl
theorem zAW {s:Shared} {a:Addr} {xs:List V} (ok:HOk P w H s.heap) (h:H a = some (.lst xs)):∃ its:List Value,Vals xs its ∧ s.heap.IsList a its.toArray:=by
  obtain ⟨_,its,n,r,e⟩:=ok a _ h
  exact ⟨its,r,⟨_,e,rfl,n,rfl⟩⟩
theorem zB9 {s:Shared} {a:Addr} {xs:List V} (ok:HOk P w H s.heap) (h:H a = some (.tup xs)):∃ its:List Value,Vals xs its ∧ s.heap.IsTuple a its.toArray:=by
  obtain ⟨_,its,r,e⟩:=ok a _ h
  exact ⟨its,r,e⟩
theorem Rep.flat {d:Dat} {v:V} (h:Rep H d v) (hf:d.dep = 0):zEZ v = true:=by
  cases d with
  | non=>cases h; rfl
  | bl _=>cases h; rfl
  | int _=>cases h; rfl
  | str _=>cases h; rfl
  | lst _=>simp [Dat.dep] at hf
  | tup _=>simp [Dat.dep] at hf
theorem Rep.flatEq {d e:Dat} {v u:V} (h:Rep H d v) (h':Rep H e u) (hf:d.dep = 0) (hf':e.dep = 0):eqV v u = Dat.eq d e:=by
  cases d <;> cases e <;> first
    | (simp [Dat.dep] at hf; done)
    | (simp [Dat.dep] at hf'; done)
    | (cases h; cases h'; simp [eqV,Dat.eq]; done)
theorem zQY:∀ (n:Nat) {d e:Dat} {v u:V} {x y:Value} {A:Around} {s:Shared},d.dep ≤ n → HOk P w H s.heap → Rep H d v → Rep H e u → RelV v x → RelV u y → A.units + n < cLine → SeqAt.EqAt A s x y (Dat.eq d e):=by
  intro n
  induction n with
  | zero =>
    intro d e v u x y A s hd ok h1 h2 r1 r2 hu
    have f1:=h1.flat (by omega)
    by_cases he:e.dep = 0
    · have f2:=h2.flat he
      have:=zSI (A:=A) (s:=s) r1 r2 f1 f2
      rw [h1.flatEq h2 (by omega) he] at this
      exact this
    · have hu':A.units < cLine:=by omega
      cases e with
      | lst ys =>
        obtain ⟨a,xs,rfl,ha,_⟩:=h2
        obtain ⟨its,_,hl⟩:=zAW ok ha
        cases r2
        cases d with
        | non=>cases h1; cases r1; exact SeqAt.EqAt.none_list hl hu'
        | bl b=>cases h1; cases r1; exact SeqAt.EqAt.bool_list b hl hu'
        | int i=>cases h1; obtain ⟨t,rfl⟩:=r1; exact SeqAt.EqAt.int_list i t hl hu'
        | str z=>cases h1; obtain ⟨t,rfl⟩:=r1; exact SeqAt.EqAt.str_list z t hl hu'
        | lst _=>simp [Dat.dep] at hd
        | tup _=>simp [Dat.dep] at hd
      | tup ys =>
        obtain ⟨a,xs,rfl,ha,_⟩:=h2
        obtain ⟨its,_,hl⟩:=zB9 ok ha
        cases r2
        cases d with
        | non=>cases h1; cases r1; exact SeqAt.EqAt.none_tuple hl hu'
        | bl b=>cases h1; cases r1; exact SeqAt.EqAt.bool_tuple b hl hu'
        | int i=>cases h1; obtain ⟨t,rfl⟩:=r1; exact SeqAt.EqAt.int_tuple i t hl hu'
        | str z=>cases h1; obtain ⟨t,rfl⟩:=r1; exact SeqAt.EqAt.str_tuple z t hl hu'
        | lst _=>simp [Dat.dep] at hd
        | tup _=>simp [Dat.dep] at hd
      | _=>simp [Dat.dep] at he
  | succ n ih =>
    intro d e v u x y A s hd ok h1 h2 r1 r2 hu
    by_cases hd0:d.dep ≤ n
    · exact ih hd0 ok h1 h2 r1 r2 (by omega)
    have hu':A.units < cLine:=by omega
    have pairs:∀ {ds es:List Dat} {xs ys:List V} {its its2:List Value},Dat.depL ds ≤ n → RepL H ds xs → RepL H es ys → Vals xs its → Vals ys its2 → ∀ j (h1:j < its.toArray.size) (h2:j < its2.toArray.size),
        SeqAt.EqAt A.in1 s its.toArray[j] its2.toArray[j] (Dat.eq (ds.getD j .non) (es.getD j .non)):=by
      intro ds es xs ys its its2 hdl q1 q2 v1 v2 j j1 j2
      have l1:j < xs.length:=by have:=v1.length; simp at j1; omega
      have l2:j < ys.length:=by have:=v2.length; simp at j2; omega
      obtain ⟨d',e1,p1⟩:=q1.get (i:=j) (x:=xs[j]) (by simp [l1])
      obtain ⟨e',e2,p2⟩:=q2.get (i:=j) (x:=ys[j]) (by simp [l2])
      obtain ⟨w1,g1,z1⟩:=v1.get (i:=j) (x:=xs[j]) (by simp [l1])
      obtain ⟨w2,g2,z2⟩:=v2.get (i:=j) (x:=ys[j]) (by simp [l2])
      have k1:its.toArray[j] = w1:=by
        obtain ⟨_,k⟩:=qA2.mp g1
        simpa using k
      have k2:its2.toArray[j] = w2:=by
        obtain ⟨_,k⟩:=qA2.mp g2
        simpa using k
      rw [k1,k2,qA3,qA3,e1,e2]
      exact ih (qAo (Dat.depL_mem (qBd e1)) hdl) ok p1 p2 z1 z2 (by rw [zDO]; omega)
    cases d with
    | lst ds =>
      have hdl:Dat.depL ds ≤ n:=by rw [Dat.dep] at hd; omega
      obtain ⟨a,xs,rfl,ha,q1⟩:=h1
      obtain ⟨its,v1,hl1⟩:=zAW ok ha
      cases r1
      cases e with
      | non=>cases h2; cases r2; exact SeqAt.EqAt.list_none hl1 hu'
      | bl b=>cases h2; cases r2; exact SeqAt.EqAt.list_bool b hl1 hu'
      | int i=>cases h2; obtain ⟨t,rfl⟩:=r2; exact SeqAt.EqAt.list_int i t hl1 hu'
      | str z=>cases h2; obtain ⟨t,rfl⟩:=r2; exact SeqAt.EqAt.list_str z t hl1 hu'
      | tup es =>
        obtain ⟨b,ys,rfl,hb,q2⟩:=h2
        obtain ⟨its2,v2,hl2⟩:=zB9 ok hb
        cases r2
        exact SeqAt.EqAt.of_refs (zU4 ha hb (fun z=>nomatch z)) (SeqAt.RcAt.list_tuple hl1 hl2 hu')
      | lst es =>
        obtain ⟨b,ys,rfl,hb,q2⟩:=h2
        obtain ⟨its2,v2,hl2⟩:=zAW ok hb
        cases r2
        have len1:its.toArray.size = ds.length:=by have:=v1.length; have:=q1.length; simp; omega
        have len2:its2.toArray.size = es.length:=by have:=v2.length; have:=q2.length; simp; omega
        show SeqAt.EqAt A s (.ref a) (.ref b) (Dat.eqL ds es)
        by_cases hne:a = b
        · 
          subst hne
          rw [ha] at hb
          cases hb
          have same:Dat.eqL ds es = true:=by
            rw [RepL.inj q1 q2]; exact Dat.eqL_refl _
          rw [same]
          exact SeqAt.EqAt.same _
        · refine SeqAt.EqAt.of_refs hne ?_
          by_cases hs:ds.length = es.length
          · have:=SeqAt.RcAt.lists (A:=A) (s:=s) hl1 hl2 (by rw [len1,len2,hs]) hu' (pairs hdl q1 q2 v1 v2)
            rw [len1,Dat.eqL_all hs _ (fun j h1 h2=>by rw [qA3,qA3]; simp [h1,h2])] at this
            exact this
          · rw [Dat.eqL_len hs]
            exact SeqAt.RcAt.lists_lengths hl1 hl2 (by rw [len1,len2]; simpa using hs) hu'
    | tup ds =>
      have hdl:Dat.depL ds ≤ n:=by rw [Dat.dep] at hd; omega
      obtain ⟨a,xs,rfl,ha,q1⟩:=h1
      obtain ⟨its,v1,hl1⟩:=zB9 ok ha
      cases r1
      cases e with
      | non=>cases h2; cases r2; exact SeqAt.EqAt.tuple_none hl1 hu'
      | bl b=>cases h2; cases r2; exact SeqAt.EqAt.tuple_bool b hl1 hu'
      | int i=>cases h2; obtain ⟨t,rfl⟩:=r2; exact SeqAt.EqAt.tuple_int i t hl1 hu'
      | str z=>cases h2; obtain ⟨t,rfl⟩:=r2; exact SeqAt.EqAt.tuple_str z t hl1 hu'
      | lst es =>
        obtain ⟨b,ys,rfl,hb,q2⟩:=h2
        obtain ⟨its2,v2,hl2⟩:=zAW ok hb
        cases r2
        exact SeqAt.EqAt.of_refs (zU4 ha hb (fun z=>nomatch z)) (SeqAt.RcAt.tuple_list hl1 hl2 hu')
      | tup es =>
        obtain ⟨b,ys,rfl,hb,q2⟩:=h2
        obtain ⟨its2,v2,hl2⟩:=zB9 ok hb
        cases r2
        have len1:its.toArray.size = ds.length:=by have:=v1.length; have:=q1.length; simp; omega
        have len2:its2.toArray.size = es.length:=by have:=v2.length; have:=q2.length; simp; omega
        show SeqAt.EqAt A s (.ref a) (.ref b) (Dat.eqL ds es)
        by_cases hne:a = b
        · subst hne
          rw [ha] at hb
          cases hb
          have same:Dat.eqL ds es = true:=by
            rw [RepL.inj q1 q2]; exact Dat.eqL_refl _
          rw [same]
          exact SeqAt.EqAt.same _
        · refine SeqAt.EqAt.of_refs hne ?_
          have:=SeqAt.RcAt.tuples (A:=A) (s:=s) hl1 hl2 hu' (pairs hdl q1 q2 v1 v2)
          by_cases hs:ds.length = es.length
          · rw [len1,len2,← hs,qEu,beq_self_eq_true,qDr,Dat.eqL_all hs _ (fun j h1 h2=>by rw [qA3,qA3]; simp [h1,h2])] at this
            exact this
          · rw [len1,len2,show (ds.length == es.length) = false by simpa using hs,qCf] at this
            rw [Dat.eqL_len hs]
            exact this
    | _=>simp [Dat.dep] at hd0
theorem zFH {n:Nat} {A:Around} {s:Shared} (ok:HOk P w H s.heap) {ds es:List Dat} {xs ys:List V} {its its2:List Value} (hdl:Dat.depL ds ≤ n) (hu:A.units + n < cLine) (q1:RepL H ds xs) (q2:RepL H es ys) (v1:Vals xs its) (v2:Vals ys its2) :
    ∀ j (h1:j < its.toArray.size) (h2:j < its2.toArray.size),SeqAt.EqAt A s its.toArray[j] its2.toArray[j] (Dat.eq (ds.getD j .non) (es.getD j .non)):=by
  intro j j1 j2
  have l1:j < xs.length:=by have:=v1.length; simp at j1; omega
  have l2:j < ys.length:=by have:=v2.length; simp at j2; omega
  obtain ⟨d',e1,p1⟩:=q1.get (i:=j) (x:=xs[j]) (by simp [l1])
  obtain ⟨e',e2,p2⟩:=q2.get (i:=j) (x:=ys[j]) (by simp [l2])
  obtain ⟨w1,g1,z1⟩:=v1.get (i:=j) (x:=xs[j]) (by simp [l1])
  obtain ⟨w2,g2,z2⟩:=v2.get (i:=j) (x:=ys[j]) (by simp [l2])
  have k1:its.toArray[j] = w1:=by
    obtain ⟨_,k⟩:=qA2.mp g1
    simpa using k
  have k2:its2.toArray[j] = w2:=by
    obtain ⟨_,k⟩:=qA2.mp g2
    simpa using k
  rw [k1,k2,qA3,qA3,e1,e2]
  exact zQY n (qAo (Dat.depL_mem (qBd e1)) hdl) ok p1 p2 z1 z2 hu
theorem zQ4 (n:Nat) {d e:Dat} {v u:V} {x y:Value} {A:Around} {s:Shared} (hd:d.dep ≤ n) (ok:HOk P w H s.heap) (h1:Rep H d v) (h2:Rep H e u) (r1:RelV v x) (r2:RelV u y) (hu:A.units + n < cLine):SeqAt.RcAt A s x y (Dat.eq d e):=by
  have hu':A.units < cLine:=by omega
  cases d with
  | non =>
    cases h1; cases r1
    cases e with
    | non =>
      cases h2; cases r2
      exact SeqAt.RcAt.none_none
    | bl b =>
      cases h2; cases r2
      exact SeqAt.RcAt.none_bool b
    | int b =>
      cases h2; obtain ⟨t2,rfl⟩:=r2
      exact SeqAt.RcAt.none_int b t2
    | str b =>
      cases h2; obtain ⟨t2,rfl⟩:=r2
      exact SeqAt.RcAt.none_str b t2
    | lst es =>
      obtain ⟨p2,ys,rfl,hb,q2⟩:=h2
      obtain ⟨its2,v2,hl2⟩:=zAW ok hb
      cases r2
      exact SeqAt.RcAt.none_list hl2 hu'
    | tup es =>
      obtain ⟨p2,ys,rfl,hb,q2⟩:=h2
      obtain ⟨its2,v2,hl2⟩:=zB9 ok hb
      cases r2
      exact SeqAt.RcAt.none_tuple hl2 hu'
  | bl a =>
    cases h1; cases r1
    cases e with
    | non =>
      cases h2; cases r2
      exact SeqAt.RcAt.bool_none a
    | bl b =>
      cases h2; cases r2
      exact SeqAt.RcAt.bool_bool a b
    | int b =>
      cases h2; obtain ⟨t2,rfl⟩:=r2
      exact SeqAt.RcAt.bool_int a b t2
    | str b =>
      cases h2; obtain ⟨t2,rfl⟩:=r2
      exact SeqAt.RcAt.bool_str a b t2
    | lst es =>
      obtain ⟨p2,ys,rfl,hb,q2⟩:=h2
      obtain ⟨its2,v2,hl2⟩:=zAW ok hb
      cases r2
      exact SeqAt.RcAt.bool_list a hl2 hu'
    | tup es =>
      obtain ⟨p2,ys,rfl,hb,q2⟩:=h2
      obtain ⟨its2,v2,hl2⟩:=zB9 ok hb
      cases r2
      exact SeqAt.RcAt.bool_tuple a hl2 hu'
  | int a =>
    cases h1; obtain ⟨t1,rfl⟩:=r1
    cases e with
    | non =>
      cases h2; cases r2
      exact SeqAt.RcAt.int_none a t1
    | bl b =>
      cases h2; cases r2
      exact SeqAt.RcAt.int_bool a t1 b
    | int b =>
      cases h2; obtain ⟨t2,rfl⟩:=r2
      exact SeqAt.RcAt.int_int a t1 b t2
    | str b =>
      cases h2; obtain ⟨t2,rfl⟩:=r2
      exact SeqAt.RcAt.int_str a t1 b t2
    | lst es =>
      obtain ⟨p2,ys,rfl,hb,q2⟩:=h2
      obtain ⟨its2,v2,hl2⟩:=zAW ok hb
      cases r2
      exact SeqAt.RcAt.int_list a t1 hl2 hu'
    | tup es =>
      obtain ⟨p2,ys,rfl,hb,q2⟩:=h2
      obtain ⟨its2,v2,hl2⟩:=zB9 ok hb
      cases r2
      exact SeqAt.RcAt.int_tuple a t1 hl2 hu'
  | str a =>
    cases h1; obtain ⟨t1,rfl⟩:=r1
    cases e with
    | non =>
      cases h2; cases r2
      exact SeqAt.RcAt.str_none a t1
    | bl b =>
      cases h2; cases r2
      exact SeqAt.RcAt.str_bool a t1 b
    | int b =>
      cases h2; obtain ⟨t2,rfl⟩:=r2
      exact SeqAt.RcAt.str_int a t1 b t2
    | str b =>
      cases h2; obtain ⟨t2,rfl⟩:=r2
      exact SeqAt.RcAt.str_str a t1 b t2
    | lst es =>
      obtain ⟨p2,ys,rfl,hb,q2⟩:=h2
      obtain ⟨its2,v2,hl2⟩:=zAW ok hb
      cases r2
      exact SeqAt.RcAt.str_list a t1 hl2 hu'
    | tup es =>
      obtain ⟨p2,ys,rfl,hb,q2⟩:=h2
      obtain ⟨its2,v2,hl2⟩:=zB9 ok hb
      cases r2
      exact SeqAt.RcAt.str_tuple a t1 hl2 hu'
  | lst ds =>
    have hdl:Dat.depL ds + 1 ≤ n:=by rw [Dat.dep] at hd; exact hd
    obtain ⟨p,xs,rfl,ha,q1⟩:=h1
    obtain ⟨its,v1,hl1⟩:=zAW ok ha
    cases r1
    cases e with
    | non =>
      cases h2; cases r2
      exact SeqAt.RcAt.list_none hl1 hu'
    | bl b =>
      cases h2; cases r2
      exact SeqAt.RcAt.list_bool b hl1 hu'
    | int b =>
      cases h2; obtain ⟨t2,rfl⟩:=r2
      exact SeqAt.RcAt.list_int b t2 hl1 hu'
    | str b =>
      cases h2; obtain ⟨t2,rfl⟩:=r2
      exact SeqAt.RcAt.list_str b t2 hl1 hu'
    | lst es =>
      obtain ⟨p2,ys,rfl,hb,q2⟩:=h2
      obtain ⟨its2,v2,hl2⟩:=zAW ok hb
      cases r2
      have len1:its.toArray.size = ds.length:=by have:=v1.length; have:=q1.length; simp; omega
      have len2:its2.toArray.size = es.length:=by have:=v2.length; have:=q2.length; simp; omega
      show SeqAt.RcAt A s (.ref p) (.ref p2) (Dat.eqL ds es)
      by_cases hs:ds.length = es.length
      · have:=SeqAt.RcAt.lists (A:=A) (s:=s) hl1 hl2 (by rw [len1,len2,hs]) hu' (zFH ok (by omega) (by rw [zDO]; omega:A.in1.units + (n - 1) < cLine) q1 q2 v1 v2)
        rw [len1,Dat.eqL_all hs _ (fun j h1 h2=>by rw [qA3,qA3]; simp [h1,h2])] at this
        exact this
      · rw [Dat.eqL_len hs]
        exact SeqAt.RcAt.lists_lengths hl1 hl2 (by rw [len1,len2]; simpa using hs) hu'
    | tup es =>
      obtain ⟨p2,ys,rfl,hb,q2⟩:=h2
      obtain ⟨its2,v2,hl2⟩:=zB9 ok hb
      cases r2
      exact SeqAt.RcAt.list_tuple hl1 hl2 hu'
  | tup ds =>
    have hdl:Dat.depL ds + 1 ≤ n:=by rw [Dat.dep] at hd; exact hd
    obtain ⟨p,xs,rfl,ha,q1⟩:=h1
    obtain ⟨its,v1,hl1⟩:=zB9 ok ha
    cases r1
    cases e with
    | non =>
      cases h2; cases r2
      exact SeqAt.RcAt.tuple_none hl1 hu'
    | bl b =>
      cases h2; cases r2
      exact SeqAt.RcAt.tuple_bool b hl1 hu'
    | int b =>
      cases h2; obtain ⟨t2,rfl⟩:=r2
      exact SeqAt.RcAt.tuple_int b t2 hl1 hu'
    | str b =>
      cases h2; obtain ⟨t2,rfl⟩:=r2
      exact SeqAt.RcAt.tuple_str b t2 hl1 hu'
    | lst es =>
      obtain ⟨p2,ys,rfl,hb,q2⟩:=h2
      obtain ⟨its2,v2,hl2⟩:=zAW ok hb
      cases r2
      exact SeqAt.RcAt.tuple_list hl1 hl2 hu'
    | tup es =>
      obtain ⟨p2,ys,rfl,hb,q2⟩:=h2
      obtain ⟨its2,v2,hl2⟩:=zB9 ok hb
      cases r2
      have len1:its.toArray.size = ds.length:=by have:=v1.length; have:=q1.length; simp; omega
      have len2:its2.toArray.size = es.length:=by have:=v2.length; have:=q2.length; simp; omega
      show SeqAt.RcAt A s (.ref p) (.ref p2) (Dat.eqL ds es)
      have:=SeqAt.RcAt.tuples (A:=A) (s:=s) hl1 hl2 hu' (zFH ok (by omega) (by rw [zDO]; omega:A.in1.units + (n - 1) < cLine) q1 q2 v1 v2)
      by_cases hs:ds.length = es.length
      · rw [len1,len2,← hs,qEu,beq_self_eq_true,qDr,Dat.eqL_all hs _ (fun j h1 h2=>by rw [qA3,qA3]; simp [h1,h2])] at this
        exact this
      · rw [len1,len2,show (ds.length == es.length) = false by simpa using hs,qCf] at this
        rw [Dat.eqL_len hs]
        exact this
theorem zML (n:Nat) {d e:Dat} {v u:V} {x y:Value} {A:Around} {s:Shared} (hd:d.dep ≤ n) (ok:HOk P w H s.heap) (h1:Rep H d v) (h2:Rep H e u) (r1:RelV v x) (r2:RelV u y) (hu:A.units + n < cLine):SeqAt.RcNeAt A s x y (!Dat.eq d e):=by
  have hu':A.units < cLine:=by omega
  cases d with
  | non =>
    cases h1; cases r1
    cases e with
    | non =>
      cases h2; cases r2
      exact SeqAt.RcNeAt.none_none
    | bl b =>
      cases h2; cases r2
      exact SeqAt.RcNeAt.none_bool b
    | int b =>
      cases h2; obtain ⟨t2,rfl⟩:=r2
      exact SeqAt.RcNeAt.none_int b t2
    | str b =>
      cases h2; obtain ⟨t2,rfl⟩:=r2
      exact SeqAt.RcNeAt.none_str b t2
    | lst es =>
      obtain ⟨p2,ys,rfl,hb,q2⟩:=h2
      obtain ⟨its2,v2,hl2⟩:=zAW ok hb
      cases r2
      exact SeqAt.RcNeAt.none_list hl2 hu'
    | tup es =>
      obtain ⟨p2,ys,rfl,hb,q2⟩:=h2
      obtain ⟨its2,v2,hl2⟩:=zB9 ok hb
      cases r2
      exact SeqAt.RcNeAt.none_tuple hl2 hu'
  | bl a =>
    cases h1; cases r1
    cases e with
    | non =>
      cases h2; cases r2
      exact SeqAt.RcNeAt.bool_none a
    | bl b =>
      cases h2; cases r2
      exact SeqAt.RcNeAt.bool_bool a b
    | int b =>
      cases h2; obtain ⟨t2,rfl⟩:=r2
      exact SeqAt.RcNeAt.bool_int a b t2
    | str b =>
      cases h2; obtain ⟨t2,rfl⟩:=r2
      exact SeqAt.RcNeAt.bool_str a b t2
    | lst es =>
      obtain ⟨p2,ys,rfl,hb,q2⟩:=h2
      obtain ⟨its2,v2,hl2⟩:=zAW ok hb
      cases r2
      exact SeqAt.RcNeAt.bool_list a hl2 hu'
    | tup es =>
      obtain ⟨p2,ys,rfl,hb,q2⟩:=h2
      obtain ⟨its2,v2,hl2⟩:=zB9 ok hb
      cases r2
      exact SeqAt.RcNeAt.bool_tuple a hl2 hu'
  | int a =>
    cases h1; obtain ⟨t1,rfl⟩:=r1
    cases e with
    | non =>
      cases h2; cases r2
      exact SeqAt.RcNeAt.int_none a t1
    | bl b =>
      cases h2; cases r2
      exact SeqAt.RcNeAt.int_bool a t1 b
    | int b =>
      cases h2; obtain ⟨t2,rfl⟩:=r2
      exact SeqAt.RcNeAt.int_int a t1 b t2
    | str b =>
      cases h2; obtain ⟨t2,rfl⟩:=r2
      exact SeqAt.RcNeAt.int_str a t1 b t2
    | lst es =>
      obtain ⟨p2,ys,rfl,hb,q2⟩:=h2
      obtain ⟨its2,v2,hl2⟩:=zAW ok hb
      cases r2
      exact SeqAt.RcNeAt.int_list a t1 hl2 hu'
    | tup es =>
      obtain ⟨p2,ys,rfl,hb,q2⟩:=h2
      obtain ⟨its2,v2,hl2⟩:=zB9 ok hb
      cases r2
      exact SeqAt.RcNeAt.int_tuple a t1 hl2 hu'
  | str a =>
    cases h1; obtain ⟨t1,rfl⟩:=r1
    cases e with
    | non =>
      cases h2; cases r2
      exact SeqAt.RcNeAt.str_none a t1
    | bl b =>
      cases h2; cases r2
      exact SeqAt.RcNeAt.str_bool a t1 b
    | int b =>
      cases h2; obtain ⟨t2,rfl⟩:=r2
      exact SeqAt.RcNeAt.str_int a t1 b t2
    | str b =>
      cases h2; obtain ⟨t2,rfl⟩:=r2
      exact SeqAt.RcNeAt.str_str a t1 b t2
    | lst es =>
      obtain ⟨p2,ys,rfl,hb,q2⟩:=h2
      obtain ⟨its2,v2,hl2⟩:=zAW ok hb
      cases r2
      exact SeqAt.RcNeAt.str_list a t1 hl2 hu'
    | tup es =>
      obtain ⟨p2,ys,rfl,hb,q2⟩:=h2
      obtain ⟨its2,v2,hl2⟩:=zB9 ok hb
      cases r2
      exact SeqAt.RcNeAt.str_tuple a t1 hl2 hu'
  | lst ds =>
    have hdl:Dat.depL ds + 1 ≤ n:=by rw [Dat.dep] at hd; exact hd
    obtain ⟨p,xs,rfl,ha,q1⟩:=h1
    obtain ⟨its,v1,hl1⟩:=zAW ok ha
    cases r1
    cases e with
    | non =>
      cases h2; cases r2
      exact SeqAt.RcNeAt.list_none hl1 hu'
    | bl b =>
      cases h2; cases r2
      exact SeqAt.RcNeAt.list_bool b hl1 hu'
    | int b =>
      cases h2; obtain ⟨t2,rfl⟩:=r2
      exact SeqAt.RcNeAt.list_int b t2 hl1 hu'
    | str b =>
      cases h2; obtain ⟨t2,rfl⟩:=r2
      exact SeqAt.RcNeAt.list_str b t2 hl1 hu'
    | lst es =>
      obtain ⟨p2,ys,rfl,hb,q2⟩:=h2
      obtain ⟨its2,v2,hl2⟩:=zAW ok hb
      cases r2
      have len1:its.toArray.size = ds.length:=by have:=v1.length; have:=q1.length; simp; omega
      have len2:its2.toArray.size = es.length:=by have:=v2.length; have:=q2.length; simp; omega
      show SeqAt.RcNeAt A s (.ref p) (.ref p2) (!Dat.eqL ds es)
      by_cases hs:ds.length = es.length
      · have:=SeqAt.RcNeAt.lists (A:=A) (s:=s) hl1 hl2 (by rw [len1,len2,hs]) hu' (zFH ok (by omega) (by rw [zDO]; omega:A.in1.units + (n - 1) < cLine) q1 q2 v1 v2)
        rw [len1,Dat.eqL_all hs _ (fun j h1 h2=>by rw [qA3,qA3]; simp [h1,h2])] at this
        exact this
      · rw [Dat.eqL_len hs]
        exact SeqAt.RcNeAt.lists_lengths hl1 hl2 (by rw [len1,len2]; simpa using hs) hu'
    | tup es =>
      obtain ⟨p2,ys,rfl,hb,q2⟩:=h2
      obtain ⟨its2,v2,hl2⟩:=zB9 ok hb
      cases r2
      exact SeqAt.RcNeAt.list_tuple hl1 hl2 hu'
  | tup ds =>
    have hdl:Dat.depL ds + 1 ≤ n:=by rw [Dat.dep] at hd; exact hd
    obtain ⟨p,xs,rfl,ha,q1⟩:=h1
    obtain ⟨its,v1,hl1⟩:=zB9 ok ha
    cases r1
    cases e with
    | non =>
      cases h2; cases r2
      exact SeqAt.RcNeAt.tuple_none hl1 hu'
    | bl b =>
      cases h2; cases r2
      exact SeqAt.RcNeAt.tuple_bool b hl1 hu'
    | int b =>
      cases h2; obtain ⟨t2,rfl⟩:=r2
      exact SeqAt.RcNeAt.tuple_int b t2 hl1 hu'
    | str b =>
      cases h2; obtain ⟨t2,rfl⟩:=r2
      exact SeqAt.RcNeAt.tuple_str b t2 hl1 hu'
    | lst es =>
      obtain ⟨p2,ys,rfl,hb,q2⟩:=h2
      obtain ⟨its2,v2,hl2⟩:=zAW ok hb
      cases r2
      exact SeqAt.RcNeAt.tuple_list hl1 hl2 hu'
    | tup es =>
      obtain ⟨p2,ys,rfl,hb,q2⟩:=h2
      obtain ⟨its2,v2,hl2⟩:=zB9 ok hb
      cases r2
      have len1:its.toArray.size = ds.length:=by have:=v1.length; have:=q1.length; simp; omega
      have len2:its2.toArray.size = es.length:=by have:=v2.length; have:=q2.length; simp; omega
      show SeqAt.RcNeAt A s (.ref p) (.ref p2) (!Dat.eqL ds es)
      have:=SeqAt.RcNeAt.tuples (A:=A) (s:=s) hl1 hl2 hu' (zFH ok (by omega) (by rw [zDO]; omega:A.in1.units + (n - 1) < cLine) q1 q2 v1 v2)
      by_cases hs:ds.length = es.length
      · rw [len1,len2,← hs,qEu,beq_self_eq_true,qDr,Dat.eqL_all hs _ (fun j h1 h2=>by rw [qA3,qA3]; simp [h1,h2])] at this
        exact this
      · rw [len1,len2,show (ds.length == es.length) = false by simpa using hs,qCf] at this
        rw [Dat.eqL_len hs]
        exact this
end
section
variable {X:Cx}
noncomputable def rEqD:R2:=fun x y H Q=>∃ d e,Rep H d x ∧ Rep H e y ∧ d.dep ≤ 40 ∧ Q (.bl (Dat.eq d e)) H
noncomputable def rNeD:R2:=fun x y H Q=>∃ d e,Rep H d x ∧ Rep H e y ∧ d.dep ≤ 40 ∧ Q (.bl (!Dat.eq d e)) H
theorem zWG (hu:X.A.units + 64 < cLine):OpR X (compareOp .Eq) rEqD:=by
  intro pins s σ H x y v u Q I rx ry h
  obtain ⟨d,e,h1,h2,hd,q⟩:=h
  exact zQ4 40 hd I.hok h1 h2 rx ry (by omega) _ _ _ _ ⟨.bl _,H,I,rfl,q⟩
theorem zWE (hu:X.A.units + 64 < cLine):OpR X (compareOp .NotEq) rNeD:=by
  intro pins s σ H x y v u Q I rx ry h
  obtain ⟨d,e,h1,h2,hd,q⟩:=h
  exact zML 40 hd I.hok h1 h2 rx ry (by omega) _ _ _ _ ⟨.bl _,H,I,rfl,q⟩
noncomputable def zFQ (H:Hp):V → Option String
  | .non=>some "NoneType"
  | .bl _=>some "bool"
  | .int _=>some "int"
  | .str _=>some "str"
  | .ref a=>match H a with
    | some (.lst _)=>some "list"
    | some (.tup _)=>some "tuple"
    | some (.dK _)=>some "dict"
    | _=>none
  | _=>none
noncomputable def zUD (T n:String):Bool:=T == n || (T == "bool" && n == "int")
theorem zLF:zCK X (.builtin "isinstance") (fun vs H Q=>∃ x n T,vs = [x,.ty n] ∧ zFQ H x = some T ∧ n ∈ ["int","bool","str","list","tuple","dict"] ∧ Q (.bl (zUD T n)) H):=by
  intro pins s σ H vs us Q I r h
  obtain ⟨x,n,T,rfl,ht,hn,q⟩:=h
  obtain ⟨u,w',rfl,rx,rn⟩:=zT3 r
  cases (show w' = Value.type n from rn)
  have key:∃ t,TyOf X.K H x t ∧ t = .type T:=by
    cases x with
    | non=>cases ht; exact ⟨_,.non,rfl⟩
    | bl b=>cases ht; exact ⟨_,.bl b,rfl⟩
    | int b=>cases ht; exact ⟨_,.int b,rfl⟩
    | str b=>cases ht; exact ⟨_,.str b,rfl⟩
    | ref a =>
      unfold zFQ at ht
      dsimp only at ht
      cases e:H a with
      | none=>rw [e] at ht; cases ht
      | some o =>
        rw [e] at ht
        cases o with
        | lst xs=>cases ht; exact ⟨_,.lst e,rfl⟩
        | tup xs=>cases ht; exact ⟨_,.tup e,rfl⟩
        | dK xs=>cases ht; exact ⟨_,.dK e,rfl⟩
        | _=>cases ht
    | _=>cases ht
  obtain ⟨t,ty,rfl⟩:=key
  have hT:T ∈ ["NoneType","bool","int","str","list","tuple","dict"]:=by
    cases x with
    | non=>cases ht; decide
    | bl b=>cases ht; decide
    | int b=>cases ht; decide
    | str b=>cases ht; decide
    | ref a =>
      unfold zFQ at ht
      dsimp only at ht
      cases e:H a with
      | none=>rw [e] at ht; cases ht
      | some o =>
        rw [e] at ht
        cases o with
        | lst xs=>cases ht; decide
        | tup xs=>cases ht; decide
        | dK xs=>cases ht; decide
        | _=>cases ht
    | _=>cases ht
  have e:qB0 X.K (.type T) (.type n) = some (zUD T n):=by
    simp only [qA9,List.mem_nil_iff,or_false] at hT hn
    rcases hT with rfl | rfl | rfl | rfl | rfl | rfl | rfl <;> rcases hn with rfl | rfl | rfl | rfl | rfl | rfl <;> rfl
  exact zOO I rx ty e fun tk=>⟨.bl _,H,I.tok tk,rfl,q⟩
theorem zKP {prog:Program} {w:World} {A:Around} {bs:List Bool}:TruthOf prog w A (fun i v=>(bs.map Value.bool).toArray[i]? = some v) (fun i=>bs.getD i false):=by
  intro i v s Q E hv hq
  have hv':(bs[i]?).map Value.bool = some v:=by simpa using hv
  cases e:bs[i]? with
  | none=>rw [e] at hv'; cases hv'
  | some b =>
    rw [e] at hv'
    cases hv'
    dsimp only at hq
    rw [qA3,e] at hq
    exact wpAny_truthy_bool hq
theorem zH6:∀ {bs:List Bool} {its:List Value},Vals (bs.map V.bl) its → its = bs.map Value.bool
  | [],_,.nil=>rfl
  | b :: r,_,.cons h t=>by
    have h':_ = Value.bool b:=h
    rw [h',zH6 t]; rfl
theorem zMC:∀ (bs:List Bool),(qA4 bs.length).all (fun i=>bs.getD i false) = bs.all id
  | []=>rfl
  | b :: r=>by
    rw [qAi,qE2,qCq,qCq,← zMC r,qGc]
    rfl
theorem zRA (hc:X.calm = true):zCK X (.builtin "all") (fun vs H Q=>∃ (a:Addr) (bs:List Bool),vs = [.ref a] ∧ H a = some (.lst (bs.map V.bl)) ∧ Q (.bl (bs.all id)) H):=by
  intro pins s σ H vs us Q I r h
  obtain ⟨a,bs,rfl,ha,q⟩:=h
  obtain ⟨u,rfl,rx⟩:=zEF r
  cases rx
  obtain ⟨its,rv,hl⟩:=zAW I.hok ha
  have e:=zH6 rv
  subst e
  refine call_all_walk (wpAny_pyIter_list hl ?_)
  have hlt:a < s.heap.objs.size:=by obtain ⟨o,ho,_⟩:=hl; exact Heap.lt_size ho
  refine ⟨s.heap.objs.size,_,_,_,_,_,fun i=>bs.getD i false,rfl,Walks.list (show X.A.in1.handled = none from I.ok.hd hc) s.heap.objs.size a (qAn hlt) _,
    ⟨⟨_,Heap.get?_push_size _ rfl,rfl,rfl⟩,hl.at fun o e=>Heap.get?_push_of_some _ e⟩,zKP,fun h' tk hk=>?_⟩
  refine ⟨.bl _,H,I.kept (t':=tk) fun b o e=>hk b o ?_ (Heap.get?_push_of_some _ e),rfl,?_⟩
  · have:=Heap.lt_size e
    simp only [qDj]
    exact qAn this
  · have:(bs.map Value.bool).toArray.size = bs.length:=by simp
    rw [this,zMC]
    exact q
noncomputable def zG7 (lo:Int) (n:Nat):List V:=(qA4 n).map fun i=>.int (lo + (i:Nat))
theorem zFN:∀ {xs:List V} {its:List Value},xs.length = its.length → (∀ (j:Nat) (x:V) (v:Value),xs[j]? = some x → its[j]? = some v → RelV x v) → Vals xs its
  | [],[],_,_=>.nil
  | [],_ :: _,h,_=>by simp at h
  | _ :: _,[],h,_=>by simp at h
  | x :: xs,v :: its,h,g=>.cons (g 0 x v rfl rfl) (zFN (by simpa using h) fun j y u e1 e2=>g (j + 1) y u (by simpa using e1) (by simpa using e2))
theorem zNA {lo:Int} {n:Nat} {its:List Value} (hl:its.length = n) (h:∀ (j:Nat) (v:Value),its[j]? = some v → ∃ t,v = Value.int (lo + (j:Int) * 1) t):Vals (zG7 lo n) its:=by
  refine zFN (by simp [zG7,hl]) fun j x v e1 e2=>?_
  unfold zG7 at e1
  rw [qAl] at e1
  cases e:(qA4 n)[j]? with
  | none=>rw [e] at e1; cases e1
  | some i =>
    rw [e] at e1
    cases e1
    have hi:i = j:=by
      obtain ⟨h1,h2⟩:=qA2.mp e
      rw [qDk] at h2
      exact h2.symm
    subst hi
    obtain ⟨t,ht⟩:=h i v e2
    exact ⟨t,by rw [ht,qGd]⟩
theorem zPF:zCK X (.type "range") (fun vs H Q=>∃ j:Int,vs = [.int j] ∧ ∀ p,H p = none → Q (.ref p) (upd H p (.rng 0 j))):=by
  intro pins s σ H vs us Q I r h
  obtain ⟨j,rfl,q⟩:=h
  obtain ⟨u,rfl,rx⟩:=zEF r
  obtain ⟨t,rfl⟩:=rx
  exact call_range_1 ⟨.ref _,_,I.laid (o:=.rng 0 j) (fun b o e=>Heap.get?_push_of_some _ e) (qA7 _) ⟨_,_,_,Heap.get?_push_size _ rfl⟩,rfl,q _ I.fresh⟩
theorem zPE:zCK X (.type "range") (fun vs H Q=>∃ i j:Int,vs = [.int i,.int j] ∧ ∀ p,H p = none → Q (.ref p) (upd H p (.rng i j))):=by
  intro pins s σ H vs us Q I r h
  obtain ⟨i,j,rfl,q⟩:=h
  obtain ⟨u,u',rfl,rx,rx'⟩:=zT3 r
  obtain ⟨t,rfl⟩:=rx
  obtain ⟨t',rfl⟩:=rx'
  exact call_range_2 ⟨.ref _,_,I.laid (o:=.rng i j) (fun b o e=>Heap.get?_push_of_some _ e) (qA7 _) ⟨_,_,_,Heap.get?_push_size _ rfl⟩,rfl,q _ I.fresh⟩
theorem zIU (hc:X.calm = true):zCK X (.type "list") (fun vs H Q=>∃ p lo hi,vs = [.ref p] ∧ H p = some (.rng lo hi) ∧ (-(2 ^ 62) ≤ lo ∧ lo < 2 ^ 62 ∧ -(2 ^ 62) ≤ hi ∧ hi < 2 ^ 62) ∧ hi - lo ≤ 1000000 ∧ ∀ l,H l = none → Q (.ref l) (upd H l (.lst (zG7 lo (hi - lo).toNat)))):=by
  intro pins s σ H vs us Q I r h
  obtain ⟨p,lo,hi,rfl,hp,⟨b1,b2,b3,b4⟩,hz,q⟩:=h
  obtain ⟨u,rfl,rx⟩:=zEF r
  cases rx
  obtain ⟨t,u,v,e⟩:=(show ObjOk X.prog X.w H s.heap p (.rng lo hi) from I.hok p _ hp)
  have hn:Builtin.Range.rangeSize lo hi 1 = (((hi - lo).toNat:Nat):Int):=by rw [rangeSize_one]; split <;> omega
  refine call_list_range (n:=(hi - lo).toNat) (I.ok.hd hc) e (small_one b1 b2 b3 b4) hn (by omega) fun h' tk acc' c' hk hS hacc=>?_
  have rv:Vals (zG7 lo (hi - lo).toNat) acc'.toList:=zNA (by simpa using hacc.1) fun j v hj=>hacc.2 j v (by simpa using hj)
  refine ⟨.ref _,_,I.laid (o:=.lst (zG7 lo (hi - lo).toNat)) hk (qA7 _) ⟨?_,acc'.toList,c',rv,by simpa using hS⟩,rfl,q _ I.fresh⟩
  have hl:(zG7 lo (hi - lo).toNat).length = (hi - lo).toNat:=by simp [zG7]
  rw [hl,sizeLine_eq]
  omega
end
end L2
namespace L2
open PySem PySem.Spec PyProof.Rows
section
variable {X:Cx}
def zW3:R2:=fun x y H Q=>match x,y with
  | .int i,.int j=>Q (.int (i + j)) H
  | .str i,.str j=>i.length + j.length ≤ sizeLine ∧ Q (.str (i ++ j)) H
  | .ref l,.ref b=>∃ xs zs,H l = some (.lst xs) ∧ H b = some (.lst zs) ∧ xs.length + zs.length ≤ sizeLine ∧ ∀ p,H p = none → Q (.ref p) (upd H p (.lst (xs ++ zs)))
  | _,_=>False
theorem zBD:OpR X (binaryOp .Add) zW3:=by
  intro pins s σ H x y v u Q I rx ry h
  cases x <;> cases y <;> first
    | exact zWI pins s σ H _ _ v u Q I rx ry ⟨_,_,rfl,rfl,h⟩
    | exact zMM pins s σ H _ _ v u Q I rx ry ⟨_,_,rfl,rfl,h.1,h.2⟩
    | (obtain ⟨xs,zs,h1,h2,h3,h4⟩:=h; exact zWH pins s σ H _ _ v u Q I rx ry ⟨_,_,xs,zs,rfl,rfl,h1,h2,h3,h4⟩)
    | exact qAf h
noncomputable def rMulU:R2:=fun x y H Q=>match x,y with
  | .int i,.int j=>CMul i j ∧ Q (.int (i * j)) H
  | _,_=>False
noncomputable def zVV:R2:=fun x y H Q=>match x,y with
  | .int i,.int j=>Q (.int (i - j)) H
  | _,_=>False
theorem zV8:OpR X (binaryOp .Sub) zVV:=by
  intro pins s σ H x y v u Q I rx ry h
  cases x <;> cases y <;> first
    | exact zWD pins s σ H _ _ v u Q I rx ry ⟨_,_,rfl,rfl,h⟩
    | exact qAf h
noncomputable def zVY:R2:=fun x y H Q=>match x,y with
  | .int i,.int j=>0 < j ∧ Q (.int (i % j)) H
  | _,_=>False
theorem zCS:OpR X (binaryOp .Mod) zVY:=by
  intro pins s σ H x y v u Q I rx ry h
  cases x <;> cases y <;> first
    | exact zWF pins s σ H _ _ v u Q I rx ry ⟨_,_,rfl,rfl,h.1,h.2⟩
    | exact qAf h
noncomputable def zTO (p:Int → Int → Bool):R2:=fun x y H Q=>match x,y with
  | .int i,.int j=>Q (.bl (p i j)) H
  | _,_=>False
theorem u_lt:OpR X (compareOp .Lt) (zTO fun i j=>decide (i < j)):=by
  intro pins s σ H x y v u Q I rx ry h
  cases x <;> cases y <;> first
    | exact zY2 pins s σ H _ _ v u Q I rx ry ⟨_,_,rfl,rfl,h⟩
    | exact qAf h
theorem u_le:OpR X (compareOp .LtE) (zTO fun i j=>decide (i ≤ j)):=by
  intro pins s σ H x y v u Q I rx ry h
  cases x <;> cases y <;> first
    | exact zY3 pins s σ H _ _ v u Q I rx ry ⟨_,_,rfl,rfl,h⟩
    | exact qAf h
def rEqU:R2:=fun x y H Q=>match x,y with
  | .int i,.int j=>Q (.bl (decide (i = j))) H
  | .str i,.str j=>Q (.bl (decide (i = j))) H
  | .bl i,.bl j=>Q (.bl (decide (i = j))) H
  | x,y=>rEqD x y H Q
def rNeU:R2:=fun x y H Q=>match x,y with
  | .int i,.int j=>Q (.bl (!decide (i = j))) H
  | .str i,.str j=>Q (.bl (!decide (i = j))) H
  | .bl i,.bl j=>Q (.bl (!decide (i = j))) H
  | x,y=>rNeD x y H Q
theorem u_eq (hu:X.A.units + 64 < cLine):OpR X (compareOp .Eq) rEqU:=by
  intro pins s σ H x y v u Q I rx ry h
  cases x <;> cases y <;> first
    | (refine zY4 pins s σ H _ _ v u Q I rx ry ⟨rfl,?_⟩; have h':=h; simp only [rEqU] at h'; simpa using h')
    | exact zWG hu pins s σ H _ _ v u Q I rx ry h
theorem u_ne (hu:X.A.units + 64 < cLine):OpR X (compareOp .NotEq) rNeU:=by
  intro pins s σ H x y v u Q I rx ry h
  cases x <;> cases y <;> first
    | (refine zY1 pins s σ H _ _ v u Q I rx ry ⟨rfl,?_⟩; have h':=h; simp only [rNeU] at h'; simpa using h')
    | exact zWE hu pins s σ H _ _ v u Q I rx ry h
def rIxU (K:qA1):R2:=fun x y H Q=>match x,y with
  | .str z,.int i=>∃ c,z.length ≤ sizeLine ∧ atI z.cps.toList i = some c ∧ Q (.str ⟨#[c]⟩) H
  | .ref p,.int i=>∃ xs v,(SqL K H p xs ∨ SqT K H p xs) ∧ atI xs i = some v ∧ Q v H
  | _,_=>False
theorem u_ix:IxR X (rIxU X.K):=by
  intro value slice pins s σ H x y v u Q I rx ry h hs
  cases x <;> cases y <;> first
    | (obtain ⟨c,h1,h2,h3⟩:=h; exact zWY value slice pins s σ H _ _ v u Q I rx ry ⟨_,_,c,rfl,rfl,h1,h2,h3⟩ hs)
    | (obtain ⟨xs,w,h1 | h1,h2,h3⟩:=h
       · exact zUB value slice pins s σ H _ _ v u Q I rx ry ⟨_,xs,_,w,rfl,rfl,h1,h2,h3⟩ hs
       · exact zWX value slice pins s σ H _ _ v u Q I rx ry ⟨_,xs,_,w,rfl,rfl,h1,h2,h3⟩ hs)
    | exact qAf h
def zTM (K:qA1):List V → Hp → VK → Prop:=fun vs H Q=>match vs with
  | [.str z]=>z.length ≤ sizeLine ∧ Q (.int z.length) H
  | [.ref p]=>∃ xs,(SqL K H p xs ∨ SqT K H p xs) ∧ Q (.int xs.length) H
  | _=>False
theorem zY9:zCK X (.builtin "len") (zTM X.K):=by
  intro pins s σ H vs us Q I r h
  match vs,h with
  | [.str z],h=>exact zKB pins s σ H _ us Q I r ⟨z,rfl,h.1,h.2⟩
  | [.ref p],h =>
    obtain ⟨xs,h1,h2⟩:=h
    exact zKC pins s σ H _ us Q I r ⟨p,xs,rfl,h1,h2⟩
def zHA (K:qA1):List V → Hp → VK → Prop:=fun vs H Q=>match vs with
  | [.ref p]=>(∃ xs,(SqL K H p xs ∨ SqT K H p xs) ∧ ∀ l,H l = none → Q (.ref l) (upd H l (.lst xs))) ∨
      ∃ lo hi,H p = some (.rng lo hi) ∧ (-(2 ^ 62) ≤ lo ∧ lo < 2 ^ 62 ∧ -(2 ^ 62) ≤ hi ∧ hi < 2 ^ 62) ∧ hi - lo ≤ 1000000 ∧ ∀ l,H l = none → Q (.ref l) (upd H l (.lst (zG7 lo (hi - lo).toNat)))
  | _=>False
theorem zWU (hc:X.calm = true):zCK X (.type "list") (zHA X.K):=by
  intro pins s σ H vs us Q I r h
  match vs,h with
  | [.ref p],h =>
    rcases h with ⟨xs,h1,h2⟩ | ⟨lo,hi,h1,h2,h3,h4⟩
    · exact zKA pins s σ H _ us Q I r ⟨p,xs,rfl,h1,h2⟩
    · exact zIU hc pins s σ H _ us Q I r ⟨p,lo,hi,rfl,h1,h2,h3,h4⟩
def zNV:List V → Hp → VK → Prop:=fun vs H Q=>match vs with
  | [.int j]=>∀ p,H p = none → Q (.ref p) (upd H p (.rng 0 j))
  | [.int i,.int j]=>∀ p,H p = none → Q (.ref p) (upd H p (.rng i j))
  | _=>False
theorem zOK:zCK X (.type "range") zNV:=by
  intro pins s σ H vs us Q I r h
  match vs,h with
  | [.int j],h=>exact zPF pins s σ H _ us Q I r ⟨j,rfl,h⟩
  | [.int i,.int j],h=>exact zPE pins s σ H _ us Q I r ⟨i,j,rfl,h⟩
def zW0:List V → Hp → VK → Prop:=fun vs H Q=>match vs with
  | [x,.ty n]=>∃ T,zFQ H x = some T ∧ n ∈ ["int","bool","str","list","tuple","dict"] ∧ Q (.bl (zUD T n)) H
  | _=>False
theorem zDN:zCK X (.builtin "isinstance") zW0:=by
  intro pins s σ H vs us Q I r h
  match vs,h with
  | [x,.ty n],h =>
    obtain ⟨T,h1,h2,h3⟩:=h
    exact zLF pins s σ H _ us Q I r ⟨x,n,T,rfl,h1,h2,h3⟩
def zW2:List V → Hp → VK → Prop:=fun vs H Q=>match vs with
  | [.ref a]=>∃ bs:List Bool,H a = some (.lst (bs.map V.bl)) ∧ Q (.bl (bs.all id)) H
  | _=>False
theorem zYA (hc:X.calm = true):zCK X (.builtin "all") zW2:=by
  intro pins s σ H vs us Q I r h
  match vs,h with
  | [.ref a],h =>
    obtain ⟨bs,h1,h2⟩:=h
    exact zRA hc pins s σ H _ us Q I r ⟨a,bs,rfl,h1,h2⟩
end
noncomputable def zK8 (N N':List Str) (k:Nat) (sc esc:Scope):Bool :=
  (sc.kind == .function) && decide ((sc.names.map (·.1)).Nodup) && (N'.length == N.length + k) &&
  ((qA4 N.length).all fun i=>match N'[i]? with
    | none=>true
    | some x=>(sc.names.lookup x == none) || (sc.names.any (fun p=>p.1 == x && p.2 == .free) && N[i]? == some x)) &&
  (sc.names.all fun p=>p.2 != .free || esc.names.lookup p.1 == some .cell || esc.names.lookup p.1 == some .free)
theorem cn {X:Cx} {sc:Scope} (N':List Str) (k:Nat) (h:zK8 X.N N' k sc X.env.scope = true):CompNames X.N N' k sc X.env:=by
  unfold zK8 at h
  simp only [qBk,decide_eq_true_eq,beq_iff_eq] at h
  obtain ⟨⟨⟨⟨h1,h2⟩,h3⟩,h4⟩,h5⟩:=h
  refine ⟨h1,h2,h3,fun i x e hi=>?_,fun x hx=>?_⟩
  · have q:=qE0.mp h4 i (qAq.mpr hi)
    rw [e] at q
    simp only [qF8,qBk,beq_iff_eq,qF2] at q
    rcases q with q | ⟨⟨p,hp,e1,e2⟩,e3⟩
    · exact .inr q
    · obtain ⟨y,kk⟩:=p
      dsimp only at e1 e2
      subst e1; subst e2
      exact .inl ⟨hp,e3⟩
  · have q:=qE0.mp h5 _ hx
    simp only [qF8,bne_iff_ne,ne_eq,not_true_eq_false,false_or,beq_iff_eq] at q
    exact q
theorem PE.imp {X:Cx} {e:Expr} {t t':TE} (h:PE X e t) (i:∀ σ H Q,t' σ H Q → t σ H Q):PE X e t':=fun pins s σ H Q I q=>h pins s σ H Q I (i σ H Q q)
noncomputable def vM (i:Nat):TE:=fun σ H Q=>match σ[i]? with
  | some (some v)=>Q v H
  | _=>False
theorem pn {X:Cx} (i:Nat) {x:Str} {pos:Pos} (hN:X.N[i]? = some x:=by rfl) (hv:Vis X.env.scope x:=by first | exact qGb rfl | exact qG4 (qGb rfl) | exact qG4 (qG4 rfl)) (hd:(x == ("__debug__":Str)) = false:=by decide)
    (hcd:(x == ("__classdict__":Str)) = false:=by decide):PE X (.Name x pos) (vM i):=(zRY hN hv hd hcd).imp fun σ H Q h=>by
  unfold vM at h
  cases e:σ[i]? with
  | none=>rw [e] at h; exact qAf h
  | some w =>
    rw [e] at h
    cases w with
    | none=>exact qAf h
    | some v=>exact ⟨v,e,h⟩
noncomputable def bM (t:TE):TT:=fun σ H Q=>t σ H fun x H'=>match x with
  | .bl k=>Q k H'
  | .int i=>Q (i != 0) H'
  | .non=>Q false H'
  | _=>False
section
variable {X:Cx} {a b c:Expr} {ta tb tc:TE} {tA tB:TT} {rest:List Expr} {pos:Pos}
theorem zVC {K:qA1} {x:V} {H:Hp} {Q:Bool → Hp → Prop} (h:match x with | .bl k=>Q k H | .int i=>Q (i != 0) H | .non=>Q false H | _=>False):∃ k,TruV K x H k ∧ Q k H:=by
  cases x with
  | bl k=>exact ⟨k,rfl,h⟩
  | int i=>exact ⟨_,rfl,h⟩
  | non=>exact ⟨_,rfl,h⟩
  | _=>exact qAf h
theorem pt_m (ha:PE X a ta) (he:∀ whole,isTrue a X.env whole = (do let v ← whole; standAt a.pos; holding [v] (truthy v)):=by intro _; rfl):PT X a (bM ta):=by
  intro pins s σ H Q I h
  refine isTrue_plain (thn (ha pins s σ H _ I h) fun v s1 ⟨x,H1,I1,r1,q1⟩=>?_) (he _)
  exact thn (zVB pins s1 σ H1 x v Q I1 r1 (zVC q1)) fun _ _ q=>q
theorem zBP {op:CmpOp} {r:R2} (ho:OpR X (compareOp op) r) (ha:PE X a ta) (hb:PE X b tb) (hm:behindInMarks op b = false):PT X (.Compare a [op] [b] pos) (fun σ H Q=>ta σ H fun x H1=>tb σ H1 fun y H2=>r x y H2 fun z H3=>match z with | .bl k=>Q k H3 | _=>False):=by
  intro pins s σ H Q I h
  refine wpAny_isTrue_Compare1 (thn (ha pins s σ H _ I h) fun v s1 ⟨x,H1,I1,r1,q1⟩=>thn (hb pins s1 σ H1 _ I1 q1) fun u s2 ⟨y,H2,I2,r2,q2⟩ =>
    thn (ho pins s2 σ H2 x y v u _ I2 r1 r2 q2) fun d s3 ⟨z,H3,I3,r3,q3⟩=>?_) hm
  cases z with
  | bl k=>cases r3; exact wpAny_truthy_bool ⟨H3,I3,q3⟩
  | _=>exact qAf q3
theorem zWB {op op':CmpOp} {r r':R2} (ho:OpR X (compareOp op) r) (ho':OpR X (compareOp op') r') (ha:PE X a ta) (hb:PE X b tb) (hc:PE X c tc)
    (hm:lastMarks [op,op'] [b,c] = false:=by with_unfolding_all rfl):PE X (.Compare a [op,op'] [b,c] pos) (fun σ H Q=>ta σ H fun x H1=>tb σ H1 fun y H2=>r x y H2 fun z H3=>match z with
      | .bl k=>if k = true then tc σ H3 fun w' H4=>r' y w' H4 Q else Q (.bl false) H3
      | _=>False):=by
  intro pins s σ H Q I h
  refine Compare_chain (thn (ha pins s σ H _ I h) fun v s1 ⟨x,H1,I1,r1,q1⟩=>chain_link (thn (hb pins s1 σ H1 _ I1 q1) fun u s2 ⟨y,H2,I2,r2,q2⟩ =>
    thn (ho pins s2 σ H2 x y v u _ I2 r1 r2 q2) fun d s3 ⟨z,H3,I3,r3,q3⟩=>?_)) hm
  cases z with
  | bl k =>
    cases r3
    refine wpAny_truthy_bool ?_
    cases k with
    | false=>exact ite_ff ⟨.bl false,H3,I3,rfl,by simpa using q3⟩
    | true=>exact ite_tt (chain_last (thn (hc pins s3 σ H3 _ I3 (by simpa using q3)) fun w' s4 ⟨z',H4,I4,r4,q4⟩=>ho' pins s4 σ H4 y z' u w' Q I4 r2 r4 q4))
  | _=>exact qAf q3
theorem zKU (ha:PE X a ta) (hb:PE X (.BoolOp .And (b :: rest) pos) tb):PE X (.BoolOp .And (a :: b :: rest) pos) (fun σ H Q=>ta σ H fun x H1=>match x with | .bl c=>if c = true then tb σ H1 Q else Q (.bl false) H1 | _=>False):=by
  intro pins s σ H Q I h
  refine BoolOp_and (thn (ha pins s σ H _ I h) fun v s1 ⟨x,H1,I1,r1,q1⟩=>?_)
  cases x with
  | bl c =>
    cases r1
    refine wpAny_truthy_bool ?_
    cases c with
    | true=>exact hb pins s1 σ H1 Q I1 (by simpa using q1)
    | false=>exact ⟨.bl false,H1,I1,rfl,by simpa using q1⟩
  | _=>exact qAf q1
theorem zXZ (ha:PE X a ta):PE X (.UnaryOp .Not a pos) (fun σ H Q=>ta σ H fun x H1=>match x with | .bl c=>Q (.bl (!c)) H1 | _=>False):=by
  intro pins s σ H Q I h
  refine UnaryOp_ (thn (ha pins s σ H _ I h) fun v s1 ⟨x,H1,I1,r1,q1⟩=>?_)
  cases x with
  | bl c=>cases r1; exact not_of (wpAny_truthy_bool ⟨.bl (!c),H1,I1,rfl,q1⟩)
  | _=>exact qAf q1
def setM:V → V → V → Hp → (Hp → Prop) → Prop:=fun o i v H Q=>match o,i with
  | .ref p,.int k=>∃ xs j,H p = some (.lst xs) ∧ ixN xs.length k = some j ∧ Q (upd H p (.lst (xs.set j v)))
  | _,_=>False
theorem zV9:PSet X setM:=by
  intro pins s σ H o i v ov iv u Q I ro ri rv h
  cases o <;> cases i <;> first
    | (obtain ⟨xs,j,h1,h2,h3⟩:=h; exact zPX pins s σ H _ _ v ov iv u Q I ro ri rv ⟨_,xs,_,j,rfl,rfl,h1,h2,h3⟩)
    | exact qAf h
def appM:V → List V → Hp → VK → Prop:=fun x vs H Q=>match x,vs with
  | .ref l,[y]=>∃ xs,H l = some (.lst xs) ∧ xs.length < sizeLine ∧ Q .non (upd H l (.lst (xs ++ [y])))
  | _,_=>False
theorem zU6:MtR X "list.append" appM:=by
  intro pins s σ H x vs v us Q I rx rv h
  cases x with
  | ref l =>
    cases vs with
    | nil=>exact qAf h
    | cons y t =>
      cases t with
      | nil =>
        obtain ⟨xs,h1,h2,h3⟩:=h
        exact zOE pins s σ H _ _ v us Q I rx rv ⟨l,xs,y,rfl,rfl,h1,h2,h3⟩
      | cons _ _=>exact qAf h
  | _=>exact qAf h
def popM:V → List V → Hp → VK → Prop:=fun x vs H Q=>match x,vs with
  | .ref l,[.int i]=>∃ xs k y,H l = some (.lst xs) ∧ (-(2 ^ 63) ≤ i ∧ i < 2 ^ 63) ∧ seqIndex? i xs.length = some k ∧ xs[k]? = some y ∧ Q y (upd H l (.lst (xs.eraseIdx k)))
  | .ref l,[]=>∃ xs y,H l = some (.lst xs) ∧ xs[xs.length - 1]? = some y ∧ Q y (upd H l (.lst xs.dropLast))
  | _,_=>False
theorem zKZ:MtR X "list.pop" popM:=by
  intro pins s σ H x vs v us Q I rx rv h
  cases x with
  | ref l =>
    cases vs with
    | nil =>
      obtain ⟨xs,y,h1,h2,h3⟩:=h
      exact zWK pins s σ H _ _ v us Q I rx rv ⟨l,xs,y,rfl,rfl,h1,h2,h3⟩
    | cons y t =>
      cases y with
      | int i =>
        cases t with
        | nil =>
          obtain ⟨xs,k,y,h1,h2,h3,h4,h5⟩:=h
          exact zQG pins s σ H _ _ v us Q I rx rv ⟨l,xs,i,k,y,rfl,rfl,h1,h2.1,h2.2,h3,h4,h5⟩
        | cons _ _=>exact qAf h
      | _=>exact qAf h
  | _=>exact qAf h
end
theorem pt_w {X:Cx} {e:Expr} {t:TT} (h:PW X e t):PT X e t:=h.pt
def Has (P:Program) (w:World) (K:qA1) (mg:Str → Option Value) (base:Heap) (x:Str) (k:Nat) (ps:List Str) (sp:Sp):Prop :=
  ∃ f fd,FnOk P w K mg base CX0 k f fd ps sp ∧ mg x = some (.ref f) ∧ qAv K (.ref f) = true ∧ Binds K fd ps []
def Def (K:qA1) (mg:Str → Option Value) (x:Str) (st:Stmt):Prop:=∃ f fd,Fun K x x st f fd ∧ mg x = some (.ref f)
section
variable {X:Cx} {x:Str} {j k:Nat} {ps:List Str} {sp:Sp} {e:Expr} {es:List Expr} {t:TA} {p pos:Pos}
theorem zBU (h:Has X.prog X.w X.K X.mg X.base x j ps sp) (hjk:j ≤ k) (hr:Room k X.A) (hg:Gl X x) (ha:PA X (e :: es) t) (hdb:(x == ("__debug__":Str)) = false:=by decide)
    (he:starEach (e :: es) X.env = (false,eval e X.env) :: starEach es X.env:=by rfl) (hpl:(backTo pos (starEach es X.env)).any (·.1) = false:=by rfl):PE X (.Call (.Name x p) (e :: es) [] pos) (zGV sp [] E0 t):=by
  obtain ⟨f,fd,G,m,kp,b⟩:=h
  exact zO6 G (hr.mono hjk) hg m kp b .nil zY0 ha hdb he hpl
end
section
variable {P:Program} {w:World} {K:qA1} {mg:Str → Option Value} {base:Heap}
theorem Def.ok {x:Str} {st:Stmt} {N ps:List Str} {k:Nat} {sp:Sp} (D:Def K mg x st) (S:FnScope N ps (zA7 st))
    (hb:∀ (kV doc pm:Value) (an:Option Addr) (cdv ct:Value) (us:List Value),us.length = ps.length → bindArgs (qB7 x x (zC7 st) (zBA st) (zA7 st) .none kV doc pm an cdv ct) ⟨us,[]⟩ = pure (ps.zip us))
    (len:∀ vs H Q E,sp vs H Q E → vs.length = ps.length)
    (hbody:∀ (f:Addr) (cdv:Value) (A:Around) (outer:List Env) (s:Shared) (H:Hp) (vs:List V) (Q:VK) (E:XK),Room k (A.deeper (envOfC x (zA7 st) s.heap.objs.size f cdv)) → sp vs H Q E →
      ∃ t,PSs (cxOf CX0 P w K mg base N x (zA7 st) f cdv A outer s H E).nox (zBA st) t ∧ t { nx:=fun _ H'=>Q .non H',rt:=Q } (start N vs) H):Has P w K mg base x (k + 1) ps sp:=by
  obtain ⟨f,fd,F,m⟩:=D
  exact ⟨f,fd,F.ok S len (fun cdv A outer s H vs Q E hr h=>hbody f cdv A outer s H vs Q E hr h),m,F.kp,F.binds hb⟩
end
end L2
namespace L2
open PySem PySem.Spec PyProof.Rows
section
variable {X:Cx} {pins:List (Addr × Obj)} {σ:St} {H:Hp} {s:Shared}
theorem Inv.turnedNew {h':Heap} {t':Nat} {fp:List Addr} {a:Addr} {o:HO} (I:Inv X pins σ H s) (hf:∀ b ∈ fp,FpOk X pins H b) (k:∀ b u,b ∉ fp → s.heap.get? b = some u → h'.get? b = some u)
    (hp:s.heap.objs.size ≤ a) (new:ObjOk X.prog X.w (upd H a o) h' a o):Inv X pins σ (upd H a o) { s with heap:=h',toks:=t' }:=by
  have hn:H a = none:=I.hok.fresh hp
  have ne:∀ b u,s.heap.get? b = some u → b ≠ a:=fun b u e=>qAn (qAb (Heap.lt_size e) hp)
  have nfp:∀ b u,H b = some u → b ∉ fp:=fun b u e z=>by rw [(hf b z).1] at e; cases e
  refine I.step (g':=s.gens) (d':=s.drawn) (ch:=fp) (fun b hb=>⟨(hf b hb).2.2.2.1,(hf b hb).2.1,(hf b hb).2.2.2.2.1,(hf b hb).2.2.2.2.2⟩) (fun b u _ _ hc e _=>k b u hc e) (fun b u _ _ hc e _=>⟨u.slots,k b u hc e⟩)
    (fun b u _ e n=>by rw [zAG (ne b u e)]; exact n) (fun b u hc e=>⟨u,k b u hc e⟩) (fun b xs e=>by rw [zAG (zAO e hn)]; exact e) (fun b u xs e=>by rw [zAG (zAO e hn)]; exact e)
    (fun b ps e=>⟨#[],by rw [zAG (zAO e hn),e]; simp⟩) (fun m hm=>?_) (fun b u e=>?_) I.bare
  · obtain ⟨u,es,ep,ho,r⟩:=hm
    exact ⟨u,es,ep,k _ u (fun z=>(hf _ z).2.1 rfl) ho,r⟩
  · by_cases hb:b = a
    · subst hb; rw [zAH] at e; cases e; exact new
    · rw [zAG hb] at e
      refine (I.hok b u e).stay (fun c v hc q=>k c v ?_ q) (fun c q=>by rw [zAG (zAO q hn)]; exact q) fun c xs q=>by rw [zAG (zAO q hn)]; exact q
      rcases hc with z | z
      · rw [z]; exact nfp b u e
      · exact nfp c _ z
theorem Inv.turnedL {h':Heap} {t':Nat} {fp:List Addr} (I:Inv X pins σ H s) (hf:∀ b ∈ fp,FpOk X pins H b) (k:∀ b u,b ∉ fp → s.heap.get? b = some u → h'.get? b = some u):Inv X pins σ H { s with heap:=h',toks:=t' }:=by
  have nfp:∀ b u,H b = some u → b ∉ fp:=fun b u e z=>by rw [(hf b z).1] at e; cases e
  refine I.step (g':=s.gens) (d':=s.drawn) (ch:=fp) (fun b hb=>⟨(hf b hb).2.2.2.1,(hf b hb).2.1,(hf b hb).2.2.2.2.1,(hf b hb).2.2.2.2.2⟩) (fun b u _ _ hc e _=>k b u hc e) (fun b u _ _ hc e _=>⟨u.slots,k b u hc e⟩)
    (fun b u _ e n=>n) (fun b u hc e=>⟨u,k b u hc e⟩) (fun b xs e=>e) (fun b u xs e=>e)
    (fun b ps e=>⟨#[],by rw [e]; simp⟩) (fun m hm=>?_) (fun b u e=>?_) I.bare
  · obtain ⟨u,es,ep,ho,r⟩:=hm
    exact ⟨u,es,ep,k _ u (fun z=>(hf _ z).2.1 rfl) ho,r⟩
  · refine (I.hok b u e).stay (fun c v hc q=>k c v ?_ q) (fun c q=>q) fun c xs q=>q
    rcases hc with z | z
    · rw [z]; exact nfp b u e
    · exact nfp c _ z
def Ite (K:qA1) (a:Addr):It :=
  ⟨fun i H=>∃ xs x,SqL K H a xs ∧ xs[i]? = some x,fun i H x H'=>∃ T y,x = .ref T ∧ H T = none ∧ H' = upd H T (.tup [.int i,y]) ∧ ∀ xs,SqL K H a xs → xs[i]? = some y,fun i H=>∃ xs,SqL K H a xs ∧ xs.length ≤ i⟩
theorem zNE {P:Program} {w:World} {K:qA1} {ts:List Expr} {kk:Nat} {tp:Pos} (a e it:Addr) (hei:e ≠ it) :
    Turn P w K (.Tuple ts kk tp) (Ite K a) [e,it] e (fun i h=>(∃ old,IsEnum h e it i old) ∧ h.IsListIter it a i) where
  mem:=by simp
  obj:=fun i h st b hb=>by
    rcases qA9.mp hb with z | z
    · subst z
      obtain ⟨⟨old,he⟩,_⟩:=st
      exact ⟨_,he,fun v z=>by cases z⟩
    · have z':b = it:=by simpa using z
      subst z'
      obtain ⟨_,o,e,c,d⟩:=st
      exact ⟨o,e,fun v z=>by rw [d] at z; cases z⟩
  keep:=fun i h h' st k=>⟨by obtain ⟨⟨old,he⟩,_⟩:=st; exact ⟨old,k e (by simp) _ he⟩,st.2.at fun o x=>k it (by simp) o x⟩
  item:=by
    intro X hP hw hK hc i pins s σ H E I hf st hg
    subst hP hw hK
    obtain ⟨xs,x,hq,hx⟩:=hg
    obtain ⟨its,rv,p,hz⟩:=I.list hq
    obtain ⟨u,hu,ru⟩:=rv.get hx
    obtain ⟨⟨old,he⟩,hit⟩:=st
    refine wpAny_pyNext_enum_item he hit p.isList (x:=u) (by simpa using hu) hei fun h' ho hit' hT hsz hk=>?_
    refine ⟨_,rfl,wpAny_letOwnedTupleGo_enum ho fun h'' he'' hs''=>?_⟩
    have hTe:s.heap.objs.size ≠ e:=qBo (Heap.lt_size he)
    have hTi:s.heap.objs.size ≠ it:=by obtain ⟨o,ho',_⟩:=hit; exact qBo (Heap.lt_size ho')
    have kk:∀ b u,b ∉ [e,it] → s.heap.get? b = some u → h''.get? b = some u:=fun b u hb q=>by
      have b1:b ≠ e:=fun z=>hb (by simp [z])
      have b2:b ≠ it:=fun z=>hb (by simp [z])
      exact (hs''.2 b b1).trans (hk b u b1 b2 q)
    have hT'':=(hs''.2 _ hTe).trans hT
    refine ⟨.ref s.heap.objs.size,_,I.turnedNew (t':=s.toks + 1) (o:=.tup [.int i,x]) hf kk (qA7 _) ⟨by show 2 ≤ sizeLine; decide,[.int i s.toks,u],.cons ⟨_,rfl⟩ (.cons ru .nil),⟨_,hT'',rfl,_,rfl⟩⟩,rfl,
      ⟨_,x,rfl,I.fresh,rfl,fun ys hy=>by rw [I.list_inj hy hq]; exact hx⟩,⟨⟨_,by simpa using he''⟩,hit'.at fun o x=>(hs''.2 it hei.symm).trans x⟩,fun b hb=>?_⟩
    have hbs:b < s.heap.objs.size:=by
      rcases qA9.mp hb with z | z
      · rw [z]; exact Heap.lt_size he
      · have z':b = it:=by simpa using z
        rw [z']
        obtain ⟨o,ho',_⟩:=hit
        exact Heap.lt_size ho'
    rw [zAG (qAn hbs)]
    exact (hf b hb).1
  done:=by
    intro X hP hw hK hc i pins s σ H E I hf st hg
    subst hP hw hK
    obtain ⟨xs,hq,hx⟩:=hg
    obtain ⟨its,rv,p,hz⟩:=I.list hq
    have hl:=rv.length
    obtain ⟨⟨old,he⟩,hit⟩:=st
    exact wpAny_pyNext_enum_end (I.ok.hd hc) he hit p.isList (by simp; omega) fun h' eb=>⟨rfl,I.turnedL (t':=s.toks) hf fun b u hb q=>eb b u (fun z=>hb (by simp [z])) q⟩
  self:=fun _ _ _ _ _ st h=>by obtain ⟨⟨old,he⟩,_⟩:=st; exact wpAny_pyIter_enum he h
def zUG (K:qA1) (tl:TA):TI:=fun σ H R=>tl σ H fun vs H1=>match vs with
  | [.ref a]=>(∃ xs,SqL K H1 a xs) ∧ R (Ite K a) H1
  | _=>False
theorem zTS {ts:List Expr} {kk:Nat} {tp p pos:Pos} {a:Expr} {ta:TA} (hg:Gl X "enumerate") (hm:X.mg "enumerate" = none) (ha:PA X [a] ta) (hs:starEach [a] X.env = [(false,eval a X.env)]:=by rfl) :
    PI X (.Tuple ts kk tp) (.Call (.Name "enumerate" p) [a] [] pos) (zUG X.K ta):=by
  intro pins s σ H R I h
  refine Call_ (zHJ I hg hm boot_enumerate (qC7 (thn (ha pos pins s σ H _ I h) fun us s1 ⟨vs,H1,I1,r1,q1⟩=>?_) hs rfl))
  match vs,r1,q1 with
  | [.ref l],r1,q1 =>
    obtain ⟨⟨xs,hq⟩,q⟩:=q1
    obtain ⟨u,rfl,rx⟩:=zEF r1
    cases rx
    obtain ⟨its,rv,pl,hz⟩:=I1.list hq
    refine call_enumerate_list pl.isList fun h' he hit hsz hk=>?_
    refine wpAny_pyIter_enum he ?_
    have hne:s1.heap.objs.size + 1 ≠ s1.heap.objs.size:=by omega
    refine ⟨s1.heap.objs.size + 1,[s1.heap.objs.size + 1,s1.heap.objs.size],_,_,H1,rfl,I1.kept (t':=s1.toks) hk,zNE l _ _ hne,⟨⟨_,he⟩,hit⟩,fun b hb=>?_,q⟩
    have hb':s1.heap.objs.size ≤ b:=by
      rcases qA9.mp hb with z | z
      · rw [z]; exact qDa _
      · have z':b = s1.heap.objs.size:=by simpa using z
        rw [z']; exact qA7 _
    exact I1.fpOk hb' (I1.hok.fresh hb')
end
section
variable {X:Cx} {K:qA1}
theorem zCG (hK:X.K = K:=by rfl):zCK X (.builtin "len") (zTM K):=hK ▸ zY9
theorem zL4 (hc:X.calm = true) (hK:X.K = K:=by rfl):zCK X (.type "list") (zHA K):=hK ▸ zWU hc
theorem zCL (hK:X.K = K:=by rfl):IxR X (rIxU K):=hK ▸ u_ix
theorem zI9 {ts:List Expr} {kk:Nat} {tp p pos:Pos} {a:Expr} {ta:TA} (hg:Gl X "enumerate") (hm:X.mg "enumerate" = none) (ha:PA X [a] ta) (hs:starEach [a] X.env = [(false,eval a X.env)]:=by rfl) (hK:X.K = K:=by rfl) :
    PI X (.Tuple ts kk tp) (.Call (.Name "enumerate" p) [a] [] pos) (zUG K ta):=hK ▸ zTS hg hm ha hs
theorem zG1 {es:List Expr} {k:Nat} {t:TGs} {n:Nat} {pos:Pos} (hc:X.calm = true) (h:PGs X es t)
    (hn:(assignEach es X.env).length = n:=by rfl) (hst:(assignEach es X.env).findIdx? (·.1) = none:=by rfl) (hK:X.K = K:=by rfl):PG X (.Tuple es k pos) (gTup K n t):=hK ▸ zW8 hc h hn hst
noncomputable def tML (r:V → List V → Hp → VK → Prop) (to:TE) (t:TA):TE:=fun σ H Q=>to σ H fun x H1=>match x with
  | .ref p=>∃ xs,H1 p = some (.lst xs) ∧ t σ H1 fun vs H2=>r x vs H2 Q
  | _=>False
variable {o e:Expr} {es:List Expr} {to:TE} {t:TA} {name:Str} {apos cpos:Pos} {T id:String} {r:V → List V → Hp → VK → Prop}
theorem zQB (pa:PlainAttrs "list") (slot:Slot "list" name id) (hty:typeOf (.builtin id) = pure (.type "method_descriptor")) (hm:MtR X id r) (ho:PE X o to) (ha:PA X (e :: es) t)
    (hbase:attributeBase o name X.env (eval o X.env) = eval o X.env:=by rfl)
    (hfew:((backTo cpos (starEach (e :: es) X.env)).all (fun x=>!x.1) && (backToKw cpos (keywordEach [] X.env)).all (fun x=>x.1.isSome)
      && decide ((e :: es).length + ([]:List Keyword).length + (if ([]:List Keyword).isEmpty then 0 else 1) < 30)) = true:=by rfl)
    (hline:(apos.endLine == cpos.line) = true:=by rfl) (hs:starEach (e :: es) X.env = (false,eval e X.env) :: starEach es X.env:=by rfl) (hplain:(backTo cpos (starEach es X.env)).any (·.1) = false:=by rfl) :
    PE X (.Call (.Attribute o name apos) (e :: es) [] cpos) (tML r to t):=by
  intro pins s σ H Q I h
  refine wpAny_Call_method_late hbase hfew hline rfl (thn (ho pins s σ H _ I h) fun v s1 ⟨x,H1,I1,r1,q1⟩=>?_)
  cases x with
  | ref p=>?_
  | _=>exact qAf q1
  obtain ⟨xs,hx,q1⟩:=q1
  obtain ⟨h1,h2⟩:=zRJ (T:="list") I1 r1 (.inl ⟨rfl,xs,SqL.of hx⟩)
  refine ⟨"list",id,pa,slot,hty,h1,h2,?_⟩
  have hA:=ha cpos pins s1 σ H1 _ I1 q1
  rw [hs] at hA ⊢
  refine Calls.callWith_builtin (by show (false || (backTo cpos (starEach es X.env)).any (·.1)) = false; rw [hplain] <;> rfl) (Calls.evalArgs_plain ?_)
  exact thn hA fun us s2 ⟨vs,H2,I2,r2,q2⟩=>hm pins s2 σ H2 (.ref p) vs v us Q I2 r1 r2 q2
end
end L2
namespace L2
open PySem PySem.Spec PyProof.Rows
theorem same_new {H:Hp} {p:Addr} (h:H p = none) (o:HO):Same H (upd H p o):=fun b u q=>by rw [zAG (zAO q h)]; exact q
theorem Same.upd {H H':Hp} {p:Addr} (s:Same H H') (h:H p = none) (o:HO):Same H (upd H' p o):=fun b u q=>by rw [zAG (zAO q h)]; exact s b u q
theorem zCD {H:Hp}:∀ (ns:List Int),RepL H (ns.map Dat.int) (ns.map V.int)
  | []=>rfl
  | n :: r=>⟨.int n,r.map V.int,rfl,rfl,zCD r⟩
theorem zGL:∀ (ns:List Int),Dat.depL (ns.map Dat.int) = 0
  | []=>rfl
  | n :: r=>by
    rw [qAp,Dat.depL,zGL r]
    rfl
theorem zFI:∀ (ns ms:List Int),Dat.eqL (ns.map Dat.int) (ms.map Dat.int) = decide (ns = ms)
  | [],[]=>by simp [Dat.eqL]
  | [],_ :: _=>by simp [Dat.eqL]
  | _ :: _,[]=>by simp [Dat.eqL]
  | n :: r,m :: q=>by
    rw [qAp,qAp,Dat.eqL,zFI r q,Dat.eq]
    by_cases h:n = m
    · subst h; simp
    · simp [h]
theorem zLP {ns:List Int} {i:Nat} {x:Int}:(ns.map V.int).set i (.int x) = (ns.set i x).map V.int:=by
  rw [qEv]
theorem big {n:Nat} (h:n ≤ 100000):n < sizeLine:=by rw [sizeLine_eq]; omega
theorem zJX:∀ {ns:List Int} {vs:List Value},Vals (ns.map V.int) vs → IntsAre vs ns
  | [],_,.nil=>.nil
  | n :: r,_,.cons h t=>by
    obtain ⟨tk,rfl⟩:=h
    exact .cons n tk (zJX t)
section
variable {X:Cx}
def rInU (K:qA1) (neg:Bool):R2:=fun x y H Q=>match y with
  | .ref p=>∃ xs,(SqL K H p xs ∨ SqT K H p xs) ∧ zEZ x = true ∧ xs.all zEZ = true ∧ Q (.bl (if neg then !inV x xs else inV x xs)) H
  | .str j=>match x with
    | .str i=>Q (.bl (if neg then !(!(Builtin.Str.occurrences j i 0 j.length 1).isEmpty) else !(Builtin.Str.occurrences j i 0 j.length 1).isEmpty)) H
    | _=>False
  | _=>False
theorem u_in {K:qA1} (hK:X.K = K:=by rfl):OpR X (compareOp .In) (rInU K false):=by
  subst hK
  intro pins s σ H x y v u Q I rx ry h
  cases y with
  | ref p =>
    obtain ⟨xs,h1,h2,h3,h4⟩:=h
    exact zOC pins s σ H _ _ v u Q I rx ry ⟨p,xs,rfl,h1,h2,h3,h4⟩
  | str j =>
    cases x with
    | str i=>exact zOB pins s σ H _ _ v u Q I rx ry ⟨i,j,rfl,rfl,h⟩
    | _=>exact qAf h
  | _=>exact qAf h
theorem zNC {K:qA1} (hK:X.K = K:=by rfl):OpR X (compareOp .NotIn) (rInU K true):=by
  subst hK
  intro pins s σ H x y v u Q I rx ry h
  cases y with
  | ref p =>
    obtain ⟨xs,h1,h2,h3,h4⟩:=h
    exact zJK pins s σ H _ _ v u Q I rx ry ⟨p,xs,rfl,h1,h2,h3,h4⟩
  | str j =>
    cases x with
    | str i=>exact zJJ pins s σ H _ _ v u Q I rx ry ⟨i,j,rfl,rfl,h⟩
    | _=>exact qAf h
  | _=>exact qAf h
end
end L2
namespace Mi
open PySem
noncomputable section
inductive Sv where
  | i (n:Int) | s (x:Str)
inductive Sw where
  | non | bl (b:Bool) | int (i:Int) | str (x:Str)
inductive Dt where
  | non | bl (b:Bool) | int (i:Int) | str (x:Str) | lst (xs:List Dt) | tup (xs:List Dt) | scr (ns:List Int) | exc (c f:Str) (d:Dt) | ins (c:Str) (fs:List (Str × Sv)) | dct (kvs:List (Sum Int Str × Sw))
mutual
def Dt.dep:Dt → Nat
  | .lst xs=>Dt.depL xs + 1
  | .tup xs=>Dt.depL xs + 1
  | .scr _=>1000
  | .exc _ _ _=>1000
  | .ins _ _=>1000
  | .dct _=>1000
  | _=>0
def Dt.depL:List Dt → Nat
  | []=>0
  | x :: r=>max x.dep (Dt.depL r)
end
mutual
def Dt.eq:Dt → Dt → Bool
  | .non,.non=>true
  | .bl a,.bl b=>a == b
  | .bl a,.int b=>(if a then 1 else 0) == b
  | .int a,.bl b=>a == (if b then 1 else 0)
  | .int a,.int b=>a == b
  | .str a,.str b=>a == b
  | .lst xs,.lst ys=>Dt.eqL xs ys
  | .tup xs,.tup ys=>Dt.eqL xs ys
  | _,_=>false
def Dt.eqL:List Dt → List Dt → Bool
  | [],[]=>true
  | x :: r,y :: q=>Dt.eq x y && Dt.eqL r q
  | _,_=>false
end
structure Xn where
  cls:Str
  f:Str
  d:Dt
abbrev R (α:Type):=Option (Except Xn α)
noncomputable def okR {α:Type} (a:α):R α:=some (.ok a)
noncomputable def zA2 {α β:Type} (x:R α) (f:α → R β):R β:=match x with
  | none=>none
  | some (.error e)=>some (.error e)
  | some (.ok a)=>f a
def optR {α:Type} (o:Option α):R α:=match o with
  | none=>none
  | some a=>okR a
@[simp] theorem bindR_ok {α β:Type} (a:α) (f:α → R β):zA2 (okR a) f = f a:=rfl
@[simp] theorem zAA {α β:Type} (f:α → R β):zA2 none f = none:=rfl
@[simp] theorem zAD {α β:Type} (e:Xn) (f:α → R β):zA2 (some (.error e)) f = some (.error e):=rfl
@[simp] theorem zAB {α:Type} (a:α):optR (some a) = okR a:=rfl
@[simp] theorem zAC {α:Type}:optR (none:Option α) = none:=rfl
abbrev Rh:=List (Option Dt)
abbrev Sl:=Dt × Nat
abbrev Ro:=List (Option Sl)
abbrev EM:=Rh → R Dt
abbrev TM:=Rh → R Bool
abbrev AM:=Rh → R (List Dt)
abbrev FM:=List Dt → R Dt
noncomputable def ixA (n:Nat) (i:Int):Option Nat:=if 0 ≤ i then (if i < n then some i.toNat else none) else if -(n:Int) ≤ i then some (i + n).toNat else none
def itA {α:Type} (xs:List α) (i:Int):Option α:=(ixA xs.length i).bind fun j=>xs[j]?
noncomputable def addD:Dt → Dt → Option Dt
  | .int i,.int j=>some (.int (i + j))
  | .str i,.str j=>@ite _ (i.length + j.length ≤ 100000) (qA0 _) (some (.str (i ++ j))) none
  | .lst xs,.lst ys=>@ite _ (xs.length + ys.length ≤ 100000) (qA0 _) (some (.lst (xs ++ ys))) none
  | _,_=>none
noncomputable def subD:Dt → Dt → Option Dt
  | .int i,.int j=>some (.int (i - j))
  | _,_=>none
noncomputable def mulD:Dt → Dt → Option Dt
  | .int i,.int j=>@ite _ (((-18446744073709551616 < i ∧ i < 18446744073709551616) ∨ (-18446744073709551616 < j ∧ j < 18446744073709551616)) ∨ i.natAbs.log2 + j.natAbs.log2 ≤ 67108864) (qA0 _) (some (.int (i * j))) none
  | _,_=>none
noncomputable def divD:Dt → Dt → Option Dt
  | .int i,.int j=>@ite _ (0 < j ∧ j < 1000000000000000000000000) (qA0 _) (some (.int (i / j))) none
  | _,_=>none
noncomputable def modD:Dt → Dt → Option Dt
  | .int i,.int j=>if 0 < j then some (.int (i % j)) else none
  | _,_=>none
noncomputable def powD:Dt → Dt → Option Dt
  | .int i,.int j=>@ite _ (0 ≤ j ∧ j ≤ 1000000 ∧ i.natAbs < 18446744073709551616) (qA0 _) (some (.int (i ^ j.toNat))) none
  | _,_=>none
noncomputable def negD:Dt → Option Dt
  | .int i=>some (.int (-i))
  | _=>none
noncomputable def cmpD (p:Int → Int → Bool):Dt → Dt → Option Dt
  | .int i,.int j=>some (.bl (p i j))
  | _,_=>none
noncomputable def eqD (x y:Dt):Option Dt:=if x.dep ≤ 40 ∧ y.dep ≤ 40 then some (.bl (Dt.eq x y)) else none
noncomputable def neD (x y:Dt):Option Dt:=if x.dep ≤ 40 ∧ y.dep ≤ 40 then some (.bl (!Dt.eq x y)) else none
noncomputable def isNonD:Dt → Bool
  | .non=>true
  | _=>false
def isD (x y:Dt):Option Dt:=match y with
  | .non=>some (.bl (isNonD x))
  | _=>none
noncomputable def isntD (x y:Dt):Option Dt:=match y with
  | .non=>some (.bl (!isNonD x))
  | _=>none
def ixD:Dt → Dt → Option Dt
  | .lst xs,.int i=>itA xs i
  | .tup xs,.int i=>itA xs i
  | .scr ns,.int i=>(itA ns i).map .int
  | .str z,.int i=>@ite _ (z.length ≤ 100000) (qA0 _) ((itA z.cps.toList i).map fun c=>.str ⟨#[c]⟩) none
  | _,_=>none
noncomputable def lenD:List Dt → Option Dt
  | [.lst xs]=>some (.int xs.length)
  | [.tup xs]=>some (.int xs.length)
  | [.scr ns]=>some (.int ns.length)
  | [.str z]=>@ite _ (z.length ≤ 100000) (qA0 _) (some (.int z.length)) none
  | _=>none
noncomputable def listD:List Dt → Option Dt
  | [.lst xs]=>some (.lst xs)
  | [.tup xs]=>some (.lst xs)
  | [.scr ns]=>some (.lst (ns.map .int))
  | _=>none
noncomputable def nums (lo:Int) (n:Nat):List Dt:=(qA4 n).map fun i:Nat=>.int (lo + (i:Int))
def rangeD:List Dt → Option Dt
  | [.int j]=>@ite _ ((-4611686018427387904 ≤ j ∧ j < 4611686018427387904) ∧ j ≤ 100000) (qA0 _) (some (.lst (nums 0 j.toNat))) none
  | [.int i,.int j]=>@ite _ ((-4611686018427387904 ≤ i ∧ i < 4611686018427387904 ∧ -4611686018427387904 ≤ j ∧ j < 4611686018427387904) ∧ j - i ≤ 100000) (qA0 _) (some (.lst (nums i (j - i).toNat))) none
  | _=>none
noncomputable def tyD:Dt → String
  | .non=>"NoneType"
  | .bl _=>"bool"
  | .int _=>"int"
  | .str _=>"str"
  | .lst _=>"list"
  | .tup _=>"tuple"
  | .scr _=>""
  | .exc _ _ _=>""
  | .ins _ _=>""
  | .dct _=>""
def isiD (n:String) (x:Dt):Option Dt:=if tyD x = "" then none else some (.bl (tyD x == n || (tyD x == "bool" && n == "int")))
noncomputable def boolsD:List Dt → Option (List Bool)
  | []=>some []
  | .bl b :: r=>(boolsD r).map (b :: ·)
  | _ :: _=>none
def allD:List Dt → Option Dt
  | [.lst xs]=>(boolsD xs).map fun bs=>.bl (bs.all id)
  | _=>none
noncomputable def absD:List Dt → Option Dt
  | [.int i]=>some (.int (if i < 0 then -i else i))
  | _=>none
noncomputable def hasD (x:Dt) (ys:List Dt):Option Bool:=if x.dep = 0 ∧ Dt.depL ys = 0 then some (ys.any fun y=>Dt.eq y x) else none
def inD (ng:Bool) (x y:Dt):Option Dt:=match y with
  | .lst ys=>(hasD x ys).map fun b=>.bl (if ng = true then !b else b)
  | .tup ys=>(hasD x ys).map fun b=>.bl (if ng = true then !b else b)
  | .str z=>match x with
    | .str y=>match y.cps.toList with
      | [c]=>some (.bl (if ng = true then !decide (c ∈ z.cps.toList) else decide (c ∈ z.cps.toList)))
      | _=>none
    | _=>none
  | _=>none
noncomputable def cutIx (n d:Nat):Option Int → Nat
  | none=>d
  | some v=>if v < 0 then (v + (n:Int)).toNat else min v.toNat n
def cutA {α:Type} (xs:List α) (lo hi:Option Int):List α:=(xs.drop (cutIx xs.length 0 lo)).take (cutIx xs.length xs.length hi - cutIx xs.length 0 lo)
def slD:Dt → Option Int → Option Int → Option Dt
  | .lst xs,lo,hi=>some (.lst (cutA xs lo hi))
  | .str z,lo,hi=>@ite _ (z.length ≤ 100000) (qA0 _) (some (.str ⟨(cutA z.cps.toList lo hi).toArray⟩)) none
  | _,_,_=>none
abbrev OM:=Rh → R (Option Int)
def oNo:OM:=fun _=>okR none
def oE (e:Rh → R Dt):OM:=fun ρ=>zA2 (e ρ) fun d=>match d with
  | .int i=>okR (some i)
  | _=>none
def eSl (a:Rh → R Dt) (lo hi:OM):Rh → R Dt:=fun ρ=>zA2 (a ρ) fun x=>zA2 (lo ρ) fun l=>zA2 (hi ρ) fun h=>optR (slD x l h)
noncomputable def posC (c:Nat):List Nat → Option Nat
  | []=>none
  | x :: r=>if x = c then some 0 else (posC c r).map (· + 1)
def findD (x:Dt) (ys:List Dt):Option Dt:=match x,ys with
  | .str z,[.str y]=>match y.cps.toList with
    | [c]=>some (.int (match posC c z.cps.toList with | some i=>(i:Int) | none=>-1))
    | _=>none
  | _,_=>none
noncomputable def zXF (x:Dt) (ys:List Dt):Option Dt:=match x,ys with
  | .str z,[.str y]=>match y.cps.toList with
    | [c]=>some (.int (z.cps.toList.count c:Nat))
    | _=>none
  | _,_=>none
noncomputable def strsD:List Dt → Option (List Str)
  | []=>some []
  | .str z :: r=>(strsD r).map (z :: ·)
  | _ :: _=>none
def joinD (x:Dt) (ys:List Dt):Option Dt:=match x,ys with
  | .str z,[.lst ds]=>match strsD ds with
    | some zs=>@ite _ ((zs.map (·.length)).sum + zs.length * z.length ≤ 100000) (qA0 _) (some (.str (Str.join z zs))) none
    | none=>none
  | _,_=>none
noncomputable def zCP:Dt → Bool
  | .str _=>true
  | _=>false
def eMt (f:Dt → List Dt → Option Dt) (a:Rh → R Dt) (am:Rh → R (List Dt)):Rh → R Dt:=fun ρ=>zA2 (a ρ) fun x=>if zCP x = true then zA2 (am ρ) fun xs=>optR (f x xs) else none
noncomputable def signsD (z:Str):List Dt:=z.cps.toList.map fun c=>.str ⟨#[c]⟩
def eC (d:Dt):EM:=fun _=>okR d
def eV (i:Nat):EM:=fun ρ=>match ρ[i]? with
  | some (some d)=>okR d
  | _=>none
def eB (f:Dt → Dt → Option Dt) (a b:EM):EM:=fun ρ=>zA2 (a ρ) fun x=>zA2 (b ρ) fun y=>optR (f x y)
def eU (f:Dt → Option Dt) (a:EM):EM:=fun ρ=>zA2 (a ρ) fun x=>optR (f x)
def eAnd (a b:EM):EM:=fun ρ=>zA2 (a ρ) fun x=>match x with
  | .bl k=>if k = true then b ρ else okR (.bl false)
  | _=>none
def eOr (a b:EM):EM:=fun ρ=>zA2 (a ρ) fun x=>match x with
  | .bl k=>if k = true then okR (.bl true) else b ρ
  | _=>none
def eNot (a:EM):EM:=fun ρ=>zA2 (a ρ) fun x=>match x with
  | .bl k=>okR (.bl (!k))
  | _=>none
def eChain (p q:Dt → Dt → Option Dt) (a b c:EM):EM:=fun ρ=>zA2 (a ρ) fun x=>zA2 (b ρ) fun y=>zA2 (optR (p x y)) fun z=>match z with
  | .bl k=>if k = true then zA2 (c ρ) fun w=>optR (q y w) else okR (.bl false)
  | _=>none
def eIf (c:TM) (a b:EM):EM:=fun ρ=>zA2 (c ρ) fun k=>if k = true then a ρ else b ρ
def aNil:AM:=fun _=>okR []
def aCons (e:EM) (r:AM):AM:=fun ρ=>zA2 (e ρ) fun x=>zA2 (r ρ) fun xs=>okR (x :: xs)
def eLst (a:AM):EM:=fun ρ=>zA2 (a ρ) fun xs=>@ite _ (xs.length ≤ 100000) (qA0 _) (okR (.lst xs)) none
def eTup (a:AM):EM:=fun ρ=>zA2 (a ρ) fun xs=>@ite _ (xs.length ≤ 100000) (qA0 _) (okR (.tup xs)) none
def eCall (f:FM) (a:AM):EM:=fun ρ=>zA2 (a ρ) f
def eBi (f:List Dt → Option Dt) (a:AM):EM:=fun ρ=>zA2 (a ρ) fun xs=>optR (f xs)
def eIsi (n:String) (a:EM):EM:=fun ρ=>zA2 (a ρ) fun x=>optR (isiD n x)
def tB (a:EM):TM:=fun ρ=>zA2 (a ρ) fun x=>match x with
  | .bl k=>okR k
  | _=>none
def tM (a:EM):TM:=fun ρ=>zA2 (a ρ) fun x=>match x with
  | .bl k=>okR k
  | .int i=>okR (i != 0)
  | .non=>okR false
  | _=>none
def tAn (a b:TM):TM:=fun ρ=>zA2 (a ρ) fun k=>if k = true then b ρ else okR false
def tOr (a b:TM):TM:=fun ρ=>zA2 (a ρ) fun k=>if k = true then okR true else b ρ
def tNo (a:TM):TM:=fun ρ=>zA2 (a ρ) fun k=>okR (!k)
def tYes:TM:=fun _=>okR true
abbrev IM:=Rh → R (List Dt)
def iSq (e:EM):IM:=fun ρ=>zA2 (e ρ) fun d=>match d with
  | .lst xs=>okR xs
  | .tup xs=>okR xs
  | .scr ns=>okR (ns.map .int)
  | .str z=>okR (signsD z)
  | _=>none
def iR1 (e:AM):IM:=fun ρ=>zA2 (e ρ) fun vs=>match vs with
  | [.int j]=>@ite _ (-4611686018427387904 ≤ j ∧ j < 4611686018427387904) (qA0 _) (okR (nums 0 j.toNat)) none
  | _=>none
noncomputable def enumD (n:Nat):List Dt → List Dt
  | []=>[]
  | x :: r=>.tup [.int n,x] :: enumD (n + 1) r
def iEn (e:AM):IM:=fun ρ=>zA2 (e ρ) fun vs=>match vs with
  | [.lst xs]=>okR (enumD 0 xs)
  | _=>none
noncomputable def zipD:List Dt → List Dt → List Dt
  | x :: r,y :: q=>.tup [x,y] :: zipD r q
  | _,_=>[]
def iZi (e:AM):IM:=fun ρ=>zA2 (e ρ) fun vs=>match vs with
  | [.lst xs,.lst ys]=>okR (zipD xs ys)
  | _=>none
inductive Tg where
  | one (i:Nat)
  | tup (is:List Nat)
noncomputable def zAZ:Tg → Dt → Option (List (Nat × Dt))
  | .one i,d=>some [(i,d)]
  | .tup is,.tup ds=>if ds.length = is.length then some (is.zip ds) else none
  | .tup _,_=>none
noncomputable def Tg.idx:Tg → List Nat
  | .one i=>[i]
  | .tup is=>is
noncomputable def zAR:Rh → List (Nat × Dt) → Rh
  | ρ,[]=>ρ
  | ρ,(i,d) :: r=>zAR (ρ.set i (some d)) r
noncomputable def zB4:Ro → List (Nat × Dt) → Ro
  | ρ,[]=>ρ
  | ρ,(i,d) :: r=>zB4 (ρ.set i (some (d,0))) r
def compGo (ρ:Rh) (k:Nat) (tg:Tg) (c:TM) (e:EM):List Dt → List Dt → R (List Dt)
  | [],acc=>okR acc
  | d :: ds,acc=>match zAZ tg d with
    | none=>none
    | some bs=>zA2 (c (zAR (ρ ++ qA6 k none) bs)) fun b=>if b = true then zA2 (e (zAR (ρ ++ qA6 k none) bs)) fun x=>compGo ρ k tg c e ds (acc ++ [x]) else compGo ρ k tg c e ds acc
def eComp (it:IM) (k:Nat) (tg:Tg) (c:TM) (e:EM):EM:=fun ρ=>zA2 (it ρ) fun ds=>@ite _ (ds.length ≤ 100000 ∧ (tg.idx.all fun i=>decide (ρ.length ≤ i)) = true) (qA0 _) (zA2 (compGo ρ k tg c e ds []) fun es=>okR (.lst es)) none
inductive Out where
  | nx (ρ:Ro) | rt (d:Dt) | bk (ρ:Ro) | ct (ρ:Ro)
abbrev SM:=Ro → R Out
noncomputable def full (ρ:Ro):Rh:=ρ.map fun o=>o.map qGe
noncomputable def frz (ρ:Ro):Rh:=ρ.map fun o=>match o with
  | some (d,n)=>if n = 0 ∨ d.dep = 0 then some d else none
  | none=>none
noncomputable def frz1 (i:Nat) (ρ:Ro):Ro:=match ρ[i]? with
  | some (some (d,_))=>ρ.set i (some (d,0))
  | _=>ρ
def frzAt:List Nat → Ro → Ro
  | [],ρ=>ρ
  | i :: r,ρ=>frzAt r (frz1 i ρ)
def sNil:SM:=fun ρ=>okR (.nx ρ)
def sSeq (a b:SM):SM:=fun ρ=>zA2 (a ρ) fun o=>match o with
  | .nx ρ'=>b ρ'
  | o=>okR o
noncomputable def zVI:SM:=fun _=>none
def zVK:SM:=fun ρ=>okR (.bk ρ)
def zXW:SM:=fun ρ=>okR (.ct ρ)
def sIf (c:TM) (a b:SM):SM:=fun ρ=>zA2 (c (full ρ)) fun k=>if k = true then a ρ else b ρ
def zXV (e:EM):SM:=fun ρ=>zA2 (e (full ρ)) fun _=>okR (.nx ρ)
def sSet (i n:Nat) (vs:List Nat) (e:EM):SM:=fun ρ=>zA2 (e (full ρ)) fun d =>
  if d.dep ≤ n then okR (.nx (ρ.set i (some (d,n)))) else zA2 (e (frz (frzAt vs ρ))) fun d'=>okR (.nx ((frzAt vs ρ).set i (some (d',n))))
def sUnp (is:List Nat) (vs:List Nat) (e:EM):SM:=fun ρ=>zA2 (e (frz (frzAt vs ρ))) fun d=>match zAZ (.tup is) d with
  | none=>none
  | some bs=>okR (.nx (zB4 (frzAt vs ρ) bs))
def sRet (L n:Nat) (vs:List Nat) (e:EM):SM:=fun ρ=>zA2 (e (full ρ)) fun d =>
  if d.dep ≤ n ∧ d.dep ≤ L then okR (.rt d) else if n = L then zA2 (e (frz (frzAt vs ρ))) fun d'=>okR (.rt d') else none
def zXT:SM:=fun _=>okR (.rt .non)
def sRetV (L i:Nat):SM:=fun ρ=>match ρ[i]? with
  | some (some (d,k))=>if k = L ∨ L = 0 ∨ (d.dep ≤ k ∧ d.dep ≤ L ∧ k < 1000) then okR (.rt d) else none
  | _=>none
def sApp (i n:Nat) (e:EM):SM:=fun ρ=>match ρ[i]? with
  | some (some (.lst ds,k + 1))=>zA2 (e (full ρ)) fun d=>@ite _ (ds.length ≤ 100000 ∧ d.dep ≤ n ∧ d.dep ≤ k) (qA0 _) (okR (.nx (ρ.set i (some (.lst (ds ++ [d]),k + 1))))) none
  | _=>none
def sPop (j i:Nat) (e:EM):SM:=fun ρ=>match ρ[i]? with
  | some (some (.lst ds,k + 1))=>zA2 (e (full ρ)) fun d=>match d with
    | .int z=>match ixA ds.length z with
      | some q=>match ds[q]? with
        | some c=>@ite _ (i ≠ j ∧ ds.length ≤ 1000000) (qA0 _) (okR (.nx ((ρ.set i (some (.lst (ds.eraseIdx q),k + 1))).set j (some (c,k))))) none
        | none=>none
      | none=>none
    | _=>none
  | _=>none
def sAppPop (j i:Nat) (e:EM):SM:=fun ρ=>match ρ[j]?,ρ[i]? with
  | some (some (.lst es,l + 1)),some (some (.lst ds,k + 1))=>zA2 (e (full ρ)) fun d=>match d with
    | .int z=>match ixA ds.length z with
      | some q=>match ds[q]? with
        | some c=>@ite _ (i ≠ j ∧ ds.length ≤ 1000000 ∧ es.length ≤ 100000 ∧ (k = l ∨ (c.dep ≤ k ∧ c.dep ≤ l ∧ k < 1000))) (qA0 _) (okR (.nx ((ρ.set i (some (.lst (ds.eraseIdx q),k + 1))).set j (some (.lst (es ++ [c]),l + 1))))) none
        | none=>none
      | none=>none
    | _=>none
  | _,_=>none
def sItem (i n:Nat) (e1 e2:EM):SM:=fun ρ=>zA2 (e2 (full ρ)) fun d=>match ρ[i]? with
  | some (some (.lst ds,k + 1))=>zA2 (e1 (full ρ)) fun z=>match z with
    | .int z=>match ixA ds.length z with
      | some q=>if d.dep ≤ n ∧ d.dep ≤ k then okR (.nx (ρ.set i (some (.lst (ds.set q d),k + 1)))) else none
      | none=>none
    | _=>none
  | _=>none
def forGo (tg:Tg) (b:SM):List Dt → SM
  | [],ρ=>okR (.nx ρ)
  | d :: ds,ρ=>match zAZ tg d with
    | none=>none
    | some bs=>zA2 (b (zB4 ρ bs)) fun o=>match o with
      | .nx ρ'=>forGo tg b ds ρ'
      | .ct ρ'=>forGo tg b ds ρ'
      | .bk ρ'=>okR (.nx ρ')
      | .rt d=>okR (.rt d)
def sFor (vs:List Nat) (it:IM) (tg:Tg) (b:SM):SM:=fun ρ=>zA2 (it (frz (frzAt vs ρ))) fun ds=>forGo tg b ds (frzAt vs ρ)
def sForR (it:IM) (i:Nat) (b:SM):SM:=fun ρ=>zA2 (it (full ρ)) fun ds=>forGo (.one i) b ds ρ
def whGo (c:TM) (b:SM):Nat → SM
  | 0,_=>none
  | m + 1,ρ=>zA2 (c (full ρ)) fun k=>if k = true then zA2 (b ρ) fun o=>match o with
      | .nx ρ'=>whGo c b m ρ'
      | .ct ρ'=>whGo c b m ρ'
      | .bk ρ'=>okR (.nx ρ')
      | .rt d=>okR (.rt d)
    else okR (.nx ρ)
noncomputable def WNs:{ n:Nat // n = 1000000 }:=Classical.choice ⟨⟨1000000,rfl⟩⟩
noncomputable def WN:Nat:=WNs.val
theorem zYF:WN = 1000000:=WNs.property
def sWhile (c:TM) (b:SM):SM:=fun ρ=>whGo c b WN ρ
noncomputable def startO (n:Nat) (ds:List Dt):Ro:=ds.map (fun d=>some (d,0)) ++ qA6 (n - ds.length) none
def endF:Out → R Dt
  | .nx _=>okR .non
  | .rt d=>okR d
  | _=>none
def runF (P n:Nat) (b:SM):FM:=fun ds=>if ds.length = P then zA2 (b (startO n ds)) endF else none
end
end Mi
namespace L2
open PySem PySem.Spec PyProof.Rows
theorem zSR (n d:Nat) (o:Option Int) (hd:d ≤ n):HT.sIx n d o ≤ n:=by
  cases o with
  | none=>exact hd
  | some v =>
    show (if v < 0 then (v + (n:Int)).toNat else min v.toNat n) ≤ n
    split <;> omega
theorem zMU (lo hi:Option Int) (n:Nat):Builtin.Str.strSliceIndices lo hi 1 n = (qA4 (HT.sIx n n hi - HT.sIx n 0 lo)).map fun k=>HT.sIx n 0 lo + k:=by
  unfold Builtin.Str.strSliceIndices sliceRange
  have c1:∀ (o:Option Int) (d:Nat),(match o with | none=>(d:Int) | some i=>(if (1:Int) > 0 then max 0 (min (if i < 0 then i + (n:Int) else i) n) else max (-1) (min (if i < 0 then i + (n:Int) else i) (n - 1)))) = ((HT.sIx n d o:Nat):Int):=by
    intro o d
    cases o with
    | none=>rfl
    | some v =>
      show _ = (((if v < 0 then (v + (n:Int)).toNat else min v.toNat n:Nat)):Int)
      dsimp only
      rw [if_pos (by decide)]
      split <;> omega
  dsimp only
  rw [if_pos (show (1:Int) > 0 by decide),if_pos (show (1:Int) > 0 by decide),if_pos (show (1:Int) > 0 by decide)]
  have e1:=c1 lo 0
  have e2:=c1 hi n
  rw [show ((0:Nat):Int) = 0 by rfl] at e1
  have h1:∀ a b:Int,a = ((HT.sIx n 0 lo:Nat):Int) → b = ((HT.sIx n n hi:Nat):Int) → (qA4 ((if a < b then (b - a + 1 - 1) / 1 else 0).toNat)).map (fun k:Nat=>(a + 1 * (k:Int)).toNat) = (qA4 (HT.sIx n n hi - HT.sIx n 0 lo)).map fun k=>HT.sIx n 0 lo + k:=by
    intro a b ha hb
    subst ha hb
    have e:(if ((HT.sIx n 0 lo:Nat):Int) < ((HT.sIx n n hi:Nat):Int) then (((HT.sIx n n hi:Nat):Int) - ((HT.sIx n 0 lo:Nat):Int) + 1 - 1) / 1 else 0).toNat = HT.sIx n n hi - HT.sIx n 0 lo:=by
      split
      · rw [Int.ediv_one]; omega
      · omega
    rw [e]
    refine qB2 fun k _=>?_
    omega
  exact h1 _ _ e1 e2
theorem zO2:∀ (xs:List Nat) (a k:Nat),a + k ≤ xs.length → ((qA4 k).map fun j=>a + j).filterMap (xs[·]?) = (xs.drop a).take k:=by
  intro xs a k h
  induction k with
  | zero=>simp
  | succ k ih =>
    rw [List.range_succ,qEa,List.filterMap_append,ih (by omega),List.take_add_one]
    congr 1
    have:a + k < xs.length:=by omega
    simp [List.getElem?_drop,this]
theorem zPW (z:Str) (lo hi:Option Int):Txt.slice z lo hi = ⟨(Mi.cutA z.cps.toList lo hi).toArray⟩:=by
  obtain ⟨⟨xs⟩⟩:=z
  have hl:(⟨⟨xs⟩⟩:Str).length = xs.length:=rfl
  unfold Txt.slice
  rw [zMU,hl]
  have e0:∀ o d,Mi.cutIx xs.length d o = HT.sIx xs.length d o:=fun o d=>by cases o <;> rfl
  have hb:=zSR xs.length xs.length hi (qA7 _)
  have ha:=zSR xs.length 0 lo (qAy _)
  have hc:Mi.cutA xs lo hi = (xs.drop (HT.sIx xs.length 0 lo)).take (HT.sIx xs.length xs.length hi - HT.sIx xs.length 0 lo):=by
    unfold Mi.cutA; rw [e0,e0]
  show _ = (⟨(Mi.cutA xs lo hi).toArray⟩:Str)
  rw [hc]
  split
  · rename_i h
    have h':HT.sIx xs.length xs.length hi - HT.sIx xs.length 0 lo = xs.length:=by simpa using h
    have a0:HT.sIx xs.length 0 lo = 0:=by omega
    rw [h',a0,qCx,qF3]
  · by_cases hle:HT.sIx xs.length 0 lo ≤ HT.sIx xs.length xs.length hi
    · have:=zO2 xs (HT.sIx xs.length 0 lo) (HT.sIx xs.length xs.length hi - HT.sIx xs.length 0 lo) (by omega)
      rw [← this]
      simp
    · rw [show HT.sIx xs.length xs.length hi - HT.sIx xs.length 0 lo = 0 by omega]
      simp
section
variable {X:Cx}
def rSlU (K:qA1):V → Option Int → Option Int → Hp → VK → Prop:=fun x lo hi H Q=>match x with
  | .str z=>z.length ≤ sizeLine ∧ Q (.str ⟨(Mi.cutA z.cps.toList lo hi).toArray⟩) H
  | .ref a=>∃ xs,SqL K H a xs ∧ ∀ p,H p = none → Q (.ref p) (upd H p (.lst (cutV xs lo hi)))
  | _=>False
theorem zO7 {v:Value} {o:Option Int} (h:IsPart v o):∃ l:Option (Int × Tok),v = partValue l ∧ l.map (·.1) = o:=by
  cases h with
  | none=>exact ⟨none,rfl,rfl⟩
  | int i t=>exact ⟨some (i,t),rfl,rfl⟩
theorem u_sl {K:qA1} (hK:X.K = K:=by rfl):SlR X (rSlU K):=by
  subst hK
  intro pins s σ H x v vl vu lo hi sl Q I rx hs pl pu h
  cases x with
  | ref a =>
    obtain ⟨xs,h1,h2⟩:=h
    exact zTB pins s σ H _ v vl vu lo hi sl Q I rx hs pl pu ⟨a,xs,rfl,h1,h2⟩
  | str z =>
    obtain ⟨hz,q⟩:=h
    obtain ⟨t,rfl⟩:=rx
    obtain ⟨l,rfl,el⟩:=zO7 pl
    obtain ⟨u,rfl,eu⟩:=zO7 pu
    obtain ⟨o,g1,g2,g3⟩:=hs
    refine ⟨"str",_,F.slot_str_getitem.lookup,typeIs_str _ _ _,wpAny_getItem_str_slice (l:=l) (u:=u) (st:=none) ⟨o,g1,g2,g3⟩ rfl ?_⟩
    have hp:(if ((1:Int) == 1 && (Builtin.Str.strSliceIndices lo hi 1 z.length).length == z.length) = true then Made.val (.str z t) else Made.str ⟨((Builtin.Str.strSliceIndices lo hi 1 z.length).filterMap (z.cps[·]?)).toArray⟩).post (EP X pins σ Q) s:=by
      refine post_val_or_str ⟨qAo (Txt.slice_le z lo hi) hz,fun t' k=>?_⟩
      refine ⟨.str (Txt.slice z lo hi),H,I.tok _,⟨_,rfl⟩,?_⟩
      rw [zPW]; exact q
    unfold sliceMade slicePicked
    rw [el,eu]
    exact hp
  | _=>exact qAf h
end
noncomputable def Its (z:Str):It:=⟨fun i _=>i < z.cps.size,fun i H x H'=>H' = H ∧ ∃ c,z.cps[i]? = some c ∧ x = .str ⟨#[c]⟩,fun i _=>z.cps.size ≤ i⟩
theorem zPS {P:Program} {w:World} {K:qA1} {tg:Expr} (z:Str) (t:Tok) (it:Addr) (ty:String) (hty:ty = strIterType z):Turn P w K tg (Its z) [it] it (fun i h=>h.IsStrIter it ty z t i) where
  mem:=by simp
  obj:=fun i h st b hb=>by
    have e:b = it:=by simpa using hb
    subst e
    obtain ⟨o,e,c,d⟩:=st
    exact ⟨o,e,fun v z=>by rw [d] at z; cases z⟩
  keep:=fun i h h' st k=>by obtain ⟨o,ho,r⟩:=st; exact ⟨o,k it (by simp) o ho,r⟩
  item:=by
    intro X hP hw hK hc i pins s σ H E I hf st hg
    subst hP hw hK
    have hi:i < z.cps.size:=hg
    have hx:z.cps[i]? = some z.cps[i]:=Array.getElem?_eq_getElem hi
    obtain ⟨f0,f1,f2,f3,f4,f5⟩:=hf it (by simp)
    have fin:∀ h',h'.IsStrIter it ty z t (i + 1) → Heap.SameBut it s.heap h' → ∃ u,some (Value.str ⟨#[z.cps[i]]⟩ s.toks) = some u ∧ wpAny (model X.prog X.w) X.A (letOwnedTupleGo tg (.ref it) u) (fun _ s2=>∃ x H',Inv X pins σ H' s2 ∧ RelV x u ∧ (Its z).yld i H x H' ∧ s2.heap.IsStrIter it ty z t (i + 1) ∧ ∀ b ∈ [it],H' b = none) E { s with heap:=h',toks:=s.toks + 1 }:=by
      intro h' st' sb
      have I1:Inv X pins σ H { s with heap:=h',toks:=s.toks + 1 }:=I.turned (t':=s.toks + 1) (fun b o hb e=>(sb.2 b hb).trans e) f0 f1 f3 f4 f5
      obtain ⟨o,e,c,d⟩:=id st'
      refine ⟨_,rfl,zQU (s:={ s with heap:=h',toks:=s.toks + 1 }) e c d ?_ ⟨.str ⟨#[z.cps[i]]⟩,H,I1,⟨_,rfl⟩,⟨rfl,_,hx,rfl⟩,st',fun b hb=>(hf b hb).1⟩⟩
      rw [hty]; unfold strIterType; split <;> decide
    cases ha:z.cps.all (· < 128)
    · have e:ty = "str_iterator":=by rw [hty]; unfold strIterType; rw [ha]; rfl
      subst e
      exact wpAny_pyNext_wide_item st hx fun h' a b=>fin h' a b
    · have e:ty = "str_ascii_iterator":=by rw [hty]; unfold strIterType; rw [ha]; rfl
      subst e
      exact wpAny_pyNext_ascii_item st hx fun h' a b=>fin h' a b
  done:=by
    intro X hP hw hK hc i pins s σ H E I hf st hg
    subst hP hw hK
    have hx:z.cps[i]? = none:=Array.getElem?_eq_none hg
    obtain ⟨f0,f1,f2,f3,f4,f5⟩:=hf it (by simp)
    have fin:∀ h',Heap.ExtBut it s.heap h' → (none:Option Value) = none ∧ Inv X pins σ H { s with heap:=h' }:=fun h' eb=>⟨rfl,I.turned (t':=s.toks) (fun b o hb e=>eb b o hb e) f0 f1 f3 f4 f5⟩
    cases ha:z.cps.all (· < 128)
    · have e:ty = "str_iterator":=by rw [hty]; unfold strIterType; rw [ha]; rfl
      subst e
      exact wpAny_pyNext_wide_end (I.ok.hd hc) st hx fun h' a=>fin h' a
    · have e:ty = "str_ascii_iterator":=by rw [hty]; unfold strIterType; rw [ha]; rfl
      subst e
      exact wpAny_pyNext_ascii_end (I.ok.hd hc) st hx fun h' a=>fin h' a
  self:=fun A i s Q E st h=>by
    cases ha:z.cps.all (· < 128)
    · have e:ty = "str_iterator":=by rw [hty]; unfold strIterType; rw [ha]; rfl
      subst e
      exact wpAny_pyIter_striter_wide st h
    · have e:ty = "str_ascii_iterator":=by rw [hty]; unfold strIterType; rw [ha]; rfl
      subst e
      exact wpAny_pyIter_striter_ascii st h
section
variable {X:Cx}
def iAny (K:qA1) (tl:TE):TI:=fun σ H R=>tl σ H fun x H1=>match x with
  | .ref a=>(∃ xs,SqL K H1 a xs) ∧ R (Itl K a) H1 ∨ (∃ xs,SqT K H1 a xs) ∧ R (Itt K a) H1
  | .str z=>R (Its z) H1
  | _=>False
theorem zHD {K:qA1} {tg l:Expr} {tl:TE} (hl:PE X l tl) (hK:X.K = K:=by rfl):PI X tg l (iAny K tl):=by
  subst hK
  intro pins s σ H R I h
  refine thn (hl pins s σ H _ I h) fun v s1 ⟨x,H1,I1,r1,q1⟩=>?_
  cases x with
  | ref a =>
    cases r1
    rcases q1 with ⟨⟨xs,hq⟩,q⟩ | ⟨⟨xs,hq⟩,q⟩
    · obtain ⟨its,rv,p,hz⟩:=I1.list hq
      refine wpAny_pyIter_list p.isList ?_
      refine ⟨s1.heap.objs.size,[s1.heap.objs.size],_,_,H1,rfl,I1.kept (t':=s1.toks) fun b o e=>Heap.get?_push_of_some _ e,zND a _,⟨_,Heap.get?_push_size _ rfl,rfl,rfl⟩,fun b hb=>?_,q⟩
      have e:b = s1.heap.objs.size:=by simpa using hb
      subst e
      exact I1.fpOk (qA7 _) (I1.hok.fresh (qA7 _))
    · obtain ⟨its,rv,p,hz⟩:=I1.tuple hq
      refine wpAny_pyIter_tuple (show s1.heap.IsTuple a its.toArray from p) ?_
      refine ⟨s1.heap.objs.size,[s1.heap.objs.size],_,_,H1,rfl,I1.kept (t':=s1.toks) fun b o e=>Heap.get?_push_of_some _ e,zMF a _,⟨_,Heap.get?_push_size _ rfl,rfl,rfl⟩,fun b hb=>?_,q⟩
      have e:b = s1.heap.objs.size:=by simpa using hb
      subst e
      exact I1.fpOk (qA7 _) (I1.hok.fresh (qA7 _))
  | str z =>
    obtain ⟨t,rfl⟩:=r1
    refine wpAny_pyIter_strU ?_
    refine ⟨s1.heap.objs.size,[s1.heap.objs.size],_,_,H1,rfl,I1.kept (t':=s1.toks) fun b o e=>Heap.get?_push_of_some _ e,zPS z t _ _ rfl,⟨_,Heap.get?_push_size _ rfl,rfl,rfl⟩,fun b hb=>?_,q1⟩
    have e:b = s1.heap.objs.size:=by simpa using hb
    subst e
    exact I1.fpOk (qA7 _) (I1.hok.fresh (qA7 _))
  | _=>exact qAf q1
def zX6:V → List V → Hp → VK → Prop:=fun x vs H Q=>match x,vs with
  | .str z,[.str y]=>Q (.int (Txt.find z y)) H
  | _,_=>False
theorem zFE:MtR X "str.find" zX6:=by
  intro pins s σ H x vs v us Q I rx rv h
  cases x with
  | str z =>
    cases vs with
    | nil=>exact qAf h
    | cons y t =>
      cases y with
      | str y =>
        cases t with
        | nil =>
          obtain ⟨t,rfl⟩:=rx
          obtain ⟨u,rfl,ru⟩:=zEF rv
          obtain ⟨t2,rfl⟩:=ru
          exact SC.find ⟨.int _,H,I.tok _,⟨_,rfl⟩,h⟩
        | cons _ _=>exact qAf h
      | _=>exact qAf h
  | _=>exact qAf h
theorem zJ6:∀ {ys:List Str} {us:List Value},Vals (ys.map V.str) us → StrsAre us ys
  | [],_,.nil=>.nil
  | y :: ys,_,.cons r t=>by obtain ⟨k,rfl⟩:=r; exact .cons y k (zJ6 t)
def zWV:V → List V → Hp → VK → Prop:=fun x vs H Q=>match x,vs with
  | .str z,[.ref a]=>∃ ys:List Str,H a = some (.lst (ys.map V.str)) ∧ (ys.map (·.length)).sum + ys.length * z.length ≤ 16777216 ∧ Q (.str (Str.join z ys)) H
  | _,_=>False
theorem zEL:MtR X "str.join" zWV:=by
  intro pins s σ H x vs v us Q I rx rv h
  match x,vs,rx,rv,h with
  | .str z,[.ref a],rx,rv,h =>
    obtain ⟨t,rfl⟩:=rx
    obtain ⟨u,rfl,ru⟩:=zEF rv
    cases ru
    obtain ⟨ys,h1,h2,h3⟩:=h
    obtain ⟨its,rv,hl⟩:=zAW I.hok h1
    exact join_list hl (by simpa using zJ6 rv) h2 fun t' k=>⟨.str (Str.join z ys),H,I.tok _,⟨t',by rw [eq_of_beq (join_closes (ys:=ys) (rfl:z = z))]⟩,h3⟩
end
theorem zKQ (z:Str) (c i:Nat):(i + 1 ≤ z.length ∧ Builtin.Str.subAt z ⟨#[c]⟩ i = true) ↔ z.cps.toList[i]? = some c:=by
  obtain ⟨⟨xs⟩⟩:=z
  unfold Builtin.Str.subAt
  show (i + 1 ≤ xs.length ∧ ((⟨xs⟩:Array Nat).extract i (i + 1) == #[c]) = true) ↔ xs[i]? = some c
  constructor
  · rintro ⟨h1,h2⟩
    have h3:=congrArg qEt (eq_of_beq h2)
    simp at h3
    have hlt:i < xs.length:=by omega
    rw [qAa hlt]
    have h4:(List.take 1 (List.drop i xs)) = [c]:=by
      have:=h3
      simpa [qDm] using this
    rw [qBh hlt,List.take_succ_cons] at h4
    exact congrArg some (List.cons.inj h4).1
  · intro h
    have hlt:i < xs.length:=(qA2.mp h).1
    have he:xs[i] = c:=(qA2.mp h).2
    refine ⟨by omega,?_⟩
    have:(⟨xs⟩:Array Nat).extract i (i + 1) = #[c]:=by
      apply Array.toList_inj.mp
      simp [qDm]
      rw [qBh hlt]
      simp [he]
    rw [this]; simp
theorem zI7 (c:Nat):∀ (xs:List Nat),(Mi.posC c xs = none ∧ ∀ i:Nat,xs[i]? ≠ some c) ∨ ∃ i:Nat,Mi.posC c xs = some i ∧ xs[i]? = some c ∧ ∀ j:Nat,j < i → xs[j]? ≠ some c
  | []=>.inl ⟨rfl,fun i=>by simp⟩
  | x :: r=>by
    rw [Mi.posC]
    by_cases h:x = c
    · rw [if_pos h]; exact .inr ⟨0,rfl,by simp [h],fun j hj=>by omega⟩
    · rw [if_neg h]
      rcases zI7 c r with ⟨h1,h2⟩ | ⟨i,h1,h2,h3⟩
      · rw [h1]
        refine .inl ⟨rfl,fun i=>?_⟩
        cases i with
        | zero=>simpa using h
        | succ i=>simpa using h2 i
      · rw [h1]
        refine .inr ⟨i + 1,rfl,by simpa using h2,fun j hj=>?_⟩
        cases j with
        | zero=>simpa using h
        | succ j=>simpa using h3 j (by omega)
theorem zJM (z y:Str) (hi:Nat):∀ (l:List Nat) (free:Nat),(∀ i ∈ l,free ≤ i) → l.Pairwise (· < ·) →
    ((forIn l ((#[]:Array Nat),free) (StrLaws.occBody z y hi 1)).run.fst.toList = [] ∧ ∀ i ∈ l,¬ (i + y.length ≤ hi ∧ Builtin.Str.subAt z y i = true)) ∨
    ∃ i,i ∈ l ∧ (forIn l ((#[]:Array Nat),free) (StrLaws.occBody z y hi 1)).run.fst.toList = [i] ∧ (i + y.length ≤ hi ∧ Builtin.Str.subAt z y i = true) ∧ ∀ j ∈ l,j < i → ¬ (j + y.length ≤ hi ∧ Builtin.Str.subAt z y j = true)
  | [],free,_,_=>.inl ⟨by simp,fun i h=>by simp at h⟩
  | a :: l,free,hf,hp=>by
    rw [qE9]
    unfold StrLaws.occBody
    have ha:free ≤ a:=hf a qB3
    have hp':=qC4.mp hp
    by_cases hc:a + y.length ≤ hi ∧ Builtin.Str.subAt z y a = true
    · have c1:(((#[]:Array Nat),free).fst.size < 1 ∧ ((#[]:Array Nat),free).snd ≤ a) ∧ a + y.length ≤ hi:=⟨⟨by simp,ha⟩,hc.1⟩
      rw [if_pos ⟨c1,hc.2⟩]
      refine .inr ⟨a,qB3,?_,hc,fun j hj hlt=>?_⟩
      · have stay:∀ (l:List Nat) (st:Array Nat × Nat),st.fst.size = 1 → (forIn l st (StrLaws.occBody z y hi 1)).run.fst = st.fst:=by
          intro l
          induction l with
          | nil=>intro st _; rfl
          | cons b l ih =>
            intro st hs
            rw [qE9]
            unfold StrLaws.occBody
            rw [if_neg (by rw [hs]; intro h; omega)]
            exact ih (st.fst,st.snd) hs
        have:=stay l (#[a],a + y.length) rfl
        show (forIn l (#[a],a + y.length) (StrLaws.occBody z y hi 1)).run.fst.toList = [a]
        rw [this]
      · rcases qA9.mp hj with rfl | hm
        · omega
        · have:=hp'.1 j hm; omega
    · have c2:¬ (((((#[]:Array Nat),free).fst.size < 1 ∧ ((#[]:Array Nat),free).snd ≤ a) ∧ a + y.length ≤ hi) ∧ Builtin.Str.subAt z y a = true):=fun h=>hc ⟨h.1.2,h.2⟩
      rw [if_neg c2]
      rcases zJM z y hi l free (fun i hi'=>hf i (qAh _ hi')) hp'.2 with ⟨h1,h2⟩ | ⟨i,h1,h2,h3,h4⟩
      · refine .inl ⟨h1,fun i hi'=>?_⟩
        rcases qA9.mp hi' with rfl | hm
        · exact hc
        · exact h2 i hm
      · refine .inr ⟨i,qAh _ h1,h2,h3,fun j hj hlt=>?_⟩
        rcases qA9.mp hj with rfl | hm
        · exact hc
        · exact h4 j hm hlt
theorem zU1 (z:Str) (c:Nat):Builtin.Str.occurrences z ⟨#[c]⟩ 0 z.length 1 = (match Mi.posC c z.cps.toList with | some i=>[i] | none=>[]):=by
  rw [StrLaws.occ_eq]
  have hlen:(⟨#[c]⟩:Str).length = 1:=rfl
  have hzl:z.length = z.cps.toList.length:=by simp [Str.length]
  have hm:∀ i,i < z.length → i ∈ qF9 0 (z.length + 1 - 0):=fun i hi=>by simp [List.mem_range']; omega
  rcases zJM z ⟨#[c]⟩ z.length (qF9 0 (z.length + 1 - 0)) 0 (fun _ _=>qAy _) (List.pairwise_lt_range' (s:=0) (n:=z.length + 1 - 0) (step:=1) (by decide)) with ⟨h1,h2⟩ | ⟨i,h1,h2,h3,h4⟩
  · rw [h1]
    rcases zI7 c z.cps.toList with ⟨g1,_⟩ | ⟨j,g1,g2,_⟩
    · rw [g1]
    · exact absurd ((zKQ z c j).mpr g2) (h2 j (hm j (by rw [hzl]; exact (qA2.mp g2).1)))
  · rw [h2]
    have hi:=(zKQ z c i).mp h3
    rcases zI7 c z.cps.toList with ⟨_,g2⟩ | ⟨j,g1,g2,g3⟩
    · exact absurd hi (g2 i)
    · rw [g1]
      have hj:j < z.length:=by rw [hzl]; exact (qA2.mp g2).1
      rcases Nat.lt_trichotomy i j with q | q | q
      · exact absurd hi (g3 i q)
      · rw [q]
      · exact absurd ((zKQ z c j).mpr g2) (h4 j (hm j hj) q)
theorem zQX (z:Str) (c:Nat):Txt.find z ⟨#[c]⟩ = (match Mi.posC c z.cps.toList with | some i=>(i:Int) | none=>-1):=by
  unfold Txt.find
  rw [zU1]
  cases Mi.posC c z.cps.toList <;> rfl
end L2
namespace L2
open PySem PySem.Spec PyProof.Rows
section
variable {X:Cx} {K:qA1}
end
end L2
namespace L2
open PySem PySem.Spec PyProof.Rows
def XO (e:Addr) (C:Value) (d:Option Addr) (h:Heap):Prop:=∃ oe vs,h.get? e = some oe ∧ oe.cls = C ∧ oe.dict = d ∧ oe.data = .fields vs ∧ 1 < vs.size
abbrev xo (e:Addr) (C:Value) (d:Option Addr):HO:=.ext (XO e C d)
def Fl (n:Nat) (e:Addr) (C:Value) (d:Option Addr) (mk:Value) (H:Hp) (h:Heap):Prop :=
  ∃ oe vs T oT ts,h.get? e = some oe ∧ oe.cls = C ∧ oe.dict = d ∧ oe.data = .fields vs ∧ vs[1]? = some (.ref T) ∧ n ≤ T ∧ T ≠ e ∧ H T = none ∧ h.get? T = some oT ∧ oT.data = .fields ts ∧ ts[3]? = some mk
def Fly (n:Nat) (e:Addr) (C:Value) (d:Option Addr) (H:Hp) (h:Heap):Prop :=
  H e = some (xo e C d) ∧ ((∃ oe vs,h.get? e = some oe ∧ oe.cls = C ∧ oe.dict = d ∧ oe.data = .fields vs ∧ vs[1]? = some .none) ∨ Fl n e C d .none H h)
def Held (n:Nat) (e:Addr) (C:Value) (d:Option Addr) (L:Addr) (H:Hp) (h:Heap):Prop:=H e = some (xo e C d) ∧ Fl n e C d (rawInt L) H h
theorem Fly.mono {n n':Nat} {e:Addr} {C:Value} {d:Option Addr} {H:Hp} {h:Heap} (x:Fly n e C d H h) (hn:n' ≤ n):Fly n' e C d H h:=by
  obtain ⟨a,b | ⟨oe,vs,T,oT,ts,h1,h2,h3,h4,h5,h6,h7⟩⟩:=x
  · exact ⟨a,.inl b⟩
  · exact ⟨a,.inr ⟨oe,vs,T,oT,ts,h1,h2,h3,h4,h5,qAo hn h6,h7⟩⟩
structure Nt (n:Nat) (fs ch:List Addr) (e:Addr) (H:Hp) (h h':Heap):Prop where
  keep:∀ b o,h.get? b = some o → b ≠ e → b ∉ fs → b ∉ ch → h'.get? b = some o
  slot:∀ b o,h.get? b = some o → b ≠ e → b ∉ ch → ∃ sl,h'.get? b = some { o with slots:=sl }
  there:∀ b o,h.get? b = some o → ∃ o',h'.get? b = some o'
  old:∀ b ∈ ch,n ≤ b ∧ H b = none ∧ ∃ o vs,h.get? b = some o ∧ o.data = .fields vs
section
variable {M:Model} {A:Around} {E:Value → Shared → Prop} {s:Shared} {n:Nat} {e L:Addr} {C:Value} {d:Option Addr} {H:Hp} {base:Heap} {env:Env} {outer:List Env}
theorem zSJ {oe:Obj} {vs:Array Value} {head:Value} {hadNext:Bool} {Q:Unit → Shared → Prop}
    (hfr:A.frames = some (env :: outer)) (hl:s.heap.FunFrames base (env :: outer)) (hf:env.frame = some L)
    (he:s.heap.get? e = some oe) (hc:oe.cls = C) (hdi:oe.dict = d) (hd:oe.data = .fields vs) (hsz:1 < vs.size) (hn:n ≤ s.heap.objs.size) (hH:∀ b,s.heap.objs.size ≤ b → H b = none)
    (h:∀ h',(∀ b o,s.heap.get? b = some o → b ≠ e → b ∉ frs (env :: outer) → h'.get? b = some o) → (∀ b o,s.heap.get? b = some o → b ≠ e → ∃ sl,h'.get? b = some { o with slots:=sl }) →
      (∃ o',h'.get? e = some o') → Fl n e C d (rawInt L) H h' → Q () { s with heap:=h' }) :
    wpAny M A (do let a ← frameOf env; let pl ← entryPlaceOf L hadNext; let b ← EntryCells.newEntry head a .none (rawInt L) .none pl; setField (.ref e) 1 b) Q E s:=by
  have hene:e ∉ (env :: outer).filterMap (·.frame):=fun hm=>by
    obtain ⟨_,o,ho,hnf⟩:=hl.mem hm
    rw [he] at ho; injection ho with ho; subst ho; exact hnf vs hd
  refine wpAny_bind (wpAny_frameOf_fun hfr hl hf fun h₁ hs₁=>?_)
  refine wpAny_bind (wpAny_entryPlaceOf fun pl hpl=>?_)
  unfold EntryCells.newEntry newFields
  refine wpAny_bind (wpAny_newObj_type ?_ (hpl.sizeOk5 _ _ _ _ _))
  have he₁:h₁.get? e = some oe:=(hs₁.2.1 e hene).trans he
  have he₂:=Heap.get?_push_of_some (h:=h₁) { cls:=.type "traceback",dict:=none,data:=.fields ([head,.ref L,.none,rawInt L,.none] ++ (if pl.isEmpty then qA6 6 Value.none else pl)).toArray } he₁
  have hTe:h₁.objs.size ≠ e:=qBo (Heap.lt_size he₁)
  have hd₃:=Obj.data_mapFields hd (·.setIfInBounds 1 (Value.ref h₁.objs.size))
  have he₃:=Heap.get?_update_self (Obj.mapFields (·.setIfInBounds 1 (Value.ref h₁.objs.size))) he₂ (Obj.isFreed_of_fields hd₃)
  have hT₃:=(Heap.get?_update_other (h₁.push { cls:=.type "traceback",dict:=none,data:=.fields ([head,.ref L,.none,rawInt L,.none] ++ (if pl.isEmpty then qA6 6 Value.none else pl)).toArray })
    (Obj.mapFields (·.setIfInBounds 1 (Value.ref h₁.objs.size))) (qCn hTe)).trans (Heap.get?_push_size h₁ rfl)
  have keep:∀ b o,b ≠ e → h₁.get? b = some o →
      ((h₁.push { cls:=.type "traceback",dict:=none,data:=.fields ([head,.ref L,.none,rawInt L,.none] ++ (if pl.isEmpty then qA6 6 Value.none else pl)).toArray }).update e (Obj.mapFields (·.setIfInBounds 1 (Value.ref h₁.objs.size)))).get? b = some o :=
    fun b o hbe hb=>by
      rw [Heap.get?_update_other _ _ (qCn hbe)]
      exact Heap.get?_push_of_some _ hb
  have hsz1:h₁.objs.size = s.heap.objs.size:=hs₁.1
  refine wpAny_setField he₂ hd hsz (h _ (fun b o hb hbe hbf=>keep b o hbe ((hs₁.2.1 b hbf).trans hb)) (fun b o hb hbe=>?_) ⟨_,he₃⟩ ?_)
  · obtain ⟨sl,e1⟩:=hs₁.2.2 b o hb
    exact ⟨sl,keep b _ hbe e1⟩
  · have hdo:∀ (o:Obj) f,(Obj.mapFields f o).dict = o.dict:=fun o f=>by unfold Obj.mapFields; split <;> rfl
    exact ⟨_,_,h₁.objs.size,_,_,he₃,(Obj.cls_mapFields _ _).trans hc,(hdo _ _).trans hdi,hd₃,by simp [hsz],by rw [hsz1]; exact hn,hTe,hH _ (by rw [hsz1]; exact qA7 _),hT₃,rfl,
      by first | (simp; done) | (rcases hpl with rfl | ⟨_,_,_,_,_,_,_,rfl⟩ <;> simp)⟩
theorem zU2 {Q:Unit → Shared → Prop} (hfr:A.frames = some (env :: outer)) (hl:s.heap.FunFrames base (env :: outer)) (hf:env.frame = some L) (x:Fly n e C d H s.heap) (hn:n ≤ s.heap.objs.size) (hH:∀ b,s.heap.objs.size ≤ b → H b = none)
    (h:∀ h' ch,Nt n (frs (env :: outer)) ch e H s.heap h' → Held n e C d L H h' → Q () { s with heap:=h' }):wpAny M A (noteFrame (.ref e) env) Q E s:=by
  obtain ⟨hx,⟨oe,vs,he,hc,hdi,hd,h1⟩ | ⟨oe,vs,T,oT,ts,he,hc,hdi,hd,h1,hnT,hTe,hHT,hT,hdT,h3⟩⟩:=x
  · unfold noteFrame
    simp only [hf]
    refine wpAny_bind (wpAny_field he hd h1 ?_)
    rw [if_neg (by decide)]
    refine zSJ hfr hl hf he hc hdi hd (qBf.mp h1).1 hn hH fun h' k1 k2 k3 k4=>?_
    refine h h' [] ⟨fun b o hb hbe hbf _=>k1 b o hb hbe hbf,fun b o hb hbe _=>k2 b o hb hbe,fun b o hb=>?_,fun b hb=>nomatch hb⟩ ⟨hx,k4⟩
    by_cases z:b = e
    · rw [z]; exact k3
    · obtain ⟨sl,q⟩:=k2 b o hb z; exact ⟨_,q⟩
  · unfold noteFrame
    simp only [hf]
    refine wpAny_bind (wpAny_field he hd h1 ?_)
    rw [if_pos (show (Value.ref T != Value.none) = true from by simp)]
    refine wpAny_bind (wpAny_field hT hdT h3 ?_)
    rw [if_neg (show ¬ ((Value.none == rawInt L) = true) from by simp [rawInt])]
    refine wpAny_bind (wpAny_setField hT hdT (qBf.mp h3).1 ?_)
    have other:∀ b,b ≠ T → (s.heap.update T (Obj.mapFields (·.setIfInBounds 3 Value.none))).get? b = s.heap.get? b:=fun b hb=>Heap.get?_update_other _ _ (qCn hb)
    have noRecord:∀ b o,s.heap.get? b = some o → (∀ vs,o.data ≠ .fields vs) → b ≠ T:=fun b o hb hnf q=>by
      rw [q,hT] at hb; injection hb with hb; subst hb; exact hnf ts hdT
    have hl1:=hl.of_keeps (h':=s.heap.update T (Obj.mapFields (·.setIfInBounds 3 Value.none))) fun b o hb hnf=>⟨o,(other b (noRecord b o hb hnf)).trans hb,rfl⟩
    have hself:=Heap.get?_update_self (Obj.mapFields (·.setIfInBounds 3 Value.none)) hT (Obj.isFreed_of_fields (Obj.data_mapFields hdT _))
    have hsz:(s.heap.update T (Obj.mapFields (·.setIfInBounds 3 Value.none))).objs.size = s.heap.objs.size:=by simp
    refine zSJ (s:={ s with heap:=s.heap.update T (Obj.mapFields (·.setIfInBounds 3 Value.none)) }) hfr hl1 hf ((other e (qCn hTe)).trans he) hc hdi hd (qBf.mp h1).1 (by rw [hsz]; exact hn) (by rw [hsz]; exact hH) fun h' k1 k2 k3 k4=>?_
    have nT:∀ b,b ∉ [T] → b ≠ T:=fun b hb z=>hb (by simp [z])
    refine h h' [T] ⟨fun b o hb hbe hbf hc=>k1 b o ((other b (nT b hc)).trans hb) hbe hbf,fun b o hb hbe hc=>k2 b o ((other b (nT b hc)).trans hb) hbe,fun b o hb=>?_,fun b hb=>?_⟩ ⟨hx,k4⟩
    · by_cases z:b = e
      · rw [z]; exact k3
      · by_cases z':b = T
        · rw [z']
          obtain ⟨sl,q⟩:=k2 T _ hself hTe
          exact ⟨_,q⟩
        · obtain ⟨sl,q⟩:=k2 b o ((other b z').trans hb) z
          exact ⟨_,q⟩
    · obtain rfl:b = T:=by simpa using hb
      exact ⟨hnT,hHT,oT,ts,hT,hdT⟩
theorem zU8 {Q:Unit → Shared → Prop} {fs:List Addr} {mk:Value} (x:Fl n e C d mk H s.heap)
    (h:∀ h' ch,Nt n fs ch e H s.heap h' → Fl n e C d .none H h' → Q () { s with heap:=h' }):wpAny M A (setFlight (.ref e) none) Q E s:=by
  obtain ⟨oe,vs,T,oT,ts,he,hc,hdi,hd,h1,hnT,hTe,hHT,hT,hdT,h3⟩:=x
  have hsz3:3 < ts.size:=(qBf.mp h3).1
  have other:∀ b,b ≠ T → (s.heap.update T (Obj.mapFields (·.setIfInBounds 3 ((none:Option Addr).elim Value.none fun f=>rawInt f)))).get? b = s.heap.get? b :=
    fun b hb=>Heap.get?_update_other _ _ (qCn hb)
  have hself:=Heap.get?_update_self (Obj.mapFields (·.setIfInBounds 3 ((none:Option Addr).elim Value.none fun f=>rawInt f))) hT (Obj.isFreed_of_fields (Obj.data_mapFields hdT _))
  have nT:∀ b,b ∉ [T] → b ≠ T:=fun b hb z=>hb (by simp [z])
  unfold setFlight
  refine wpAny_bind (wpAny_field he hd h1 ?_)
  rw [if_pos (show (Value.ref T != Value.none) = true from by simp)]
  refine wpAny_setField hT hdT hsz3 (h _ [T] ⟨fun b o hb _ _ hc=>(other b (nT b hc)).trans hb,fun b o hb _ hc=>⟨o.slots,(other b (nT b hc)).trans hb⟩,fun b o hb=>?_,fun b hb=>?_⟩ ?_)
  · by_cases z:b = T
    · rw [z]; exact ⟨_,hself⟩
    · exact ⟨o,(other b z).trans hb⟩
  · obtain rfl:b = T:=by simpa using hb
    exact ⟨hnT,hHT,oT,ts,hT,hdT⟩
  · exact ⟨oe,vs,T,_,_,(other e (qCn hTe)).trans he,hc,hdi,hd,h1,hnT,hTe,hHT,hself,Obj.data_mapFields hdT _,by simp [hsz3]⟩
end
section
variable {X:Cx} {pins:List (Addr × Obj)} {σ:St} {H:Hp} {s:Shared} {n:Nat} {e:Addr} {C:Value} {d:Option Addr} {A:Around} {E:Value → Shared → Prop} {fs ch:List Addr} {h h':Heap}
theorem Nt.hok {P:Program} {w:World} (t:Nt n fs ch e H h h') (k:HOk P w H h) (he:H e = some (xo e C d)) (hfs:∀ b ∈ fs,H b = none) (f:XO e C d h'):HOk P w H h':=fun a o ha=>by
  by_cases z:a = e
  · subst z
    rw [he] at ha
    cases ha
    obtain ⟨oe,vs,h1,r⟩:=id f
    exact ⟨f,⟨oe,h1⟩,(k a _ he).2.2⟩
  · refine (k a o ha).stay (fun b u hb q=>?_) (fun _ q=>q) fun _ _ q=>q
    have hb':H b ≠ none:=by
      rcases hb with rfl | hb
      · rw [ha]; exact fun z=>by cases z
      · rw [hb]; exact fun z=>by cases z
    have hbe:b ≠ e:=by
      rcases hb with rfl | hb
      · exact z
      · intro y; rw [y,he] at hb; cases hb
    exact t.keep b u q hbe (fun y=>hb' (hfs b y)) fun y=>hb' (t.old b y).2.1
theorem Fl.xo {mk:Value} (f:Fl n e C d mk H h):XO e C d h:=by
  obtain ⟨oe,vs,T,oT,ts,h1,h2,h3,h4,h5,_⟩:=f
  exact ⟨oe,vs,h1,h2,h3,h4,(qBf.mp h5).1⟩
theorem Nt.un (t:Nt n fs ch e H h h') (he:H e = some (xo e C d)):Un fs ch H H h h' :=
  ⟨fun b o q hn hf hc=>t.keep b o q (fun z=>by rw [z,he] at hn; cases hn) hf hc,fun b o q hn _ hc=>t.slot b o q (fun z=>by rw [z,he] at hn; cases hn) hc,fun _ _ _ hn _=>hn,fun b o q _=>t.there b o q,fun _ _ q=>q,fun _ _ _ q=>q,fun b ps q=>⟨#[],by simpa using q⟩⟩
theorem Inv.noted (I:Inv X pins σ H s) (t:Nt n (frs X.stack) ch e H s.heap h') (he:H e = some (xo e C d)) (f:XO e C d h') (hn:X.s₀.heap.objs.size ≤ n) (hp:∀ p ∈ X.pn ++ pins,p.1 < n):Inv X pins σ H { s with heap:=h' }:=by
  refine I.call' rfl (t.un he) (t.hok I.hok he I.stkFree f) I.bare fun b hb=>?_
  obtain ⟨h1,h2,o,vs,h3,h4⟩:=t.old b hb
  refine ⟨.inr (qAo hn h1),?_,?_,fun p hp' z=>?_⟩
  · intro z
    obtain ⟨m,⟨o',es,ep,ho',hd',_⟩,_⟩:=I.loc
    rw [z,ho'] at h3; cases h3; rw [hd'] at h4; cases h4
  · intro x c hx z
    obtain ⟨v,o',ho',hd'⟩:=I.cell x c hx
    rw [← z,ho'] at h3; cases h3; rw [hd'] at h4; cases h4
  · have:=hp p hp'
    rw [z] at this
    exact absurd h1 (Nat.not_le_of_lt this)
theorem zLY {Q:Unit → Shared → Prop} {M:Model} (I:Inv X pins σ H s) (hA:A.frames = some X.stack) (hs:X.stack = X.env :: X.outer ∧ X.env.frame = some X.env.locals) (x:Fly n e C d H s.heap) (hn:X.s₀.heap.objs.size ≤ n) (hn':n ≤ s.heap.objs.size)
    (hp:∀ p ∈ X.pn ++ pins,p.1 < n) (h:∀ s',Inv X pins σ H s' → Held n e C d X.env.locals H s'.heap → Q () s'):wpAny M A (noteFrame (.ref e) X.env) Q E s:=by
  have hst:=I.stack
  rw [hs.1] at hA hst
  refine zU2 hA hst hs.2 x hn' (fun b hb=>I.hok.fresh hb) fun h' ch t y=>h _ (I.noted (ch:=ch) (by rw [hs.1]; exact t) x.1 y.2.xo hn hp) y
theorem zIG {Q:Unit → Shared → Prop} {M:Model} {mk:Value} (I:Inv X pins σ H s) (hx:H e = some (xo e C d)) (x:Fl n e C d mk H s.heap) (hn:X.s₀.heap.objs.size ≤ n)
    (hp:∀ p ∈ X.pn ++ pins,p.1 < n) (h:∀ s',Inv X pins σ H s' → Fl n e C d .none H s'.heap → Q () s'):wpAny M A (setFlight (.ref e) none) Q E s :=
  zU8 (fs:=frs X.stack) x fun h' ch t y=>h _ (I.noted t hx y.xo hn hp) y
theorem zOG {Q:Unit → Shared → Prop} {M:Model} (I:Inv X pins σ H s) (hA:A.frames = some X.stack) (hs:X.stack = X.env :: X.outer ∧ X.env.frame = some X.env.locals) (x:Fly n e C d H s.heap) (hn:X.s₀.heap.objs.size ≤ n) (hn':n ≤ s.heap.objs.size)
    (hp:∀ p ∈ X.pn ++ pins,p.1 < n) (h:∀ s',Inv X pins σ H s' → Fly n e C d H s'.heap → Q () s'):wpAny M A (leaving X.env (.ref e)) Q E s:=by
  unfold leaving
  exact wpAny_bind (zLY I hA hs x hn hn' hp fun s1 I1 y=>zIG I1 y.1 y.2 hn hp fun s2 I2 z=>h s2 I2 ⟨y.1,.inr z⟩)
end
def CXe (P:Program) (w:World):CXT:=fun outer H s E x s'=>∃ e C d H',x = .ref e ∧ s'.os = s.os ∧ AllBare s'.gens ∧ Un (frs outer) [] H H' s.heap s'.heap ∧ HOk P w H' s'.heap ∧ Fly s.heap.objs.size e C d H' s'.heap ∧ s.heap.objs.size ≤ s'.heap.objs.size ∧ E x d H'
section
variable {X:Cx} {pins:List (Addr × Obj)} {σ:St} {H:Hp} {s s':Shared} {E E':XK}
theorem Inv.pinlt (I:Inv X pins σ H s):∀ p ∈ X.pn ++ pins,p.1 < s.heap.objs.size:=fun p hp=>Heap.lt_size (I.pin p hp).1
def XP (X:Cx) (pins:List (Addr × Obj)) (σ:St) (E:XK) (x:Value) (s':Shared):Prop:=∃ n e C d H',x = .ref e ∧ Inv X pins σ H' s' ∧ Fly n e C d H' s'.heap ∧ X.s₀.heap.objs.size ≤ n ∧ n ≤ s'.heap.objs.size ∧ (∀ p ∈ X.pn ++ pins,p.1 < n) ∧ E x d H'
theorem Inv.flown {x:Value} (I:Inv X pins σ H s) (h:CXe X.prog X.w X.stack H s E x s'):XP X pins σ E x s':=by
  obtain ⟨e,C,d,H',rfl,ho,hb,u,hk,f,hz,q⟩:=h
  exact ⟨_,e,C,d,H',rfl,I.call' ho u hk hb (fun b z=>absurd z (by simp)),f,I.sz,hz,I.pinlt,q⟩
end
section
variable {P:Program} {w:World} {K:qA1} {mg:Str → Option Value} {base:Heap} {N:List Str} {qual:Str} {scope:Scope} {f:Addr} {cd:Value} {A:Around} {outer:List Env} {s:Shared} {H:Hp} {E E':XK}
theorem zUZ {pins:List (Addr × Obj)} {σ:St} {x:Value} {s':Shared} (hE:∀ C d H',E' C d H' → E C d H')
    (h:XP (cxOf (CXe P w) P w K mg base N qual scope f cd A outer s H E) pins σ E' x s'):(cxOf (CXe P w) P w K mg base N qual scope f cd A outer s H E).xe x s':=by
  obtain ⟨n,e,C,d,H',rfl,I,fl,hn,hz,hp,q⟩:=h
  refine zOG I I.ok.frames ⟨rfl,rfl⟩ fl hn hz hp fun s2 I2 f2=>?_
  exact ⟨e,C,d,H',rfl,I2.os,I2.bare,I2.base,I2.hok,f2.mono hn,I2.sz,hE _ _ _ q⟩
end
end L2
namespace L2
open PySem PySem.Spec PyProof.Rows
abbrev TEX:=St → Hp → VK → XK → Prop
abbrev TSX:=Ends → (St → XK) → St → Hp → Prop
def PEx (X:Cx) (e:Expr) (t:TEX):Prop:=∀ (pins:List (Addr × Obj)) (s:Shared) (σ:St) (H:Hp) (Q:VK) (E:XK),Inv X pins σ H s → t σ H Q E → wpAny (model X.prog X.w) X.A (eval e X.env) (EP X pins σ Q) (XP X pins σ E) s
def PSx (X:Cx) (st:Stmt) (t:TSX):Prop:=∀ (pins:List (Addr × Obj)) (s:Shared) (σ:St) (H:Hp) (D:Ends) (E:St → XK),Inv X pins σ H s → t D E σ H → wpAny (model X.prog X.w) X.A (exec st X.env) (SP X pins D) (fun x s'=>∃ σ',XP X pins σ' (E σ') x s') s
def PSxs (X:Cx) (st:List Stmt) (t:TSX):Prop:=∀ (pins:List (Addr × Obj)) (s:Shared) (σ:St) (H:Hp) (D:Ends) (E:St → XK),Inv X pins σ H s → t D E σ H → wpAny (model X.prog X.w) X.A (execs st X.env) (SP X pins D) (fun x s'=>∃ σ',XP X pins σ' (E σ') x s') s
section
variable {X:Cx} {k:Nat} {f:Addr} {fd:FuncData} {ps:List Str} {sp:Sp} {dvs:List V} {ds:List Value} {x:Str} {p pos:Pos} {e:Expr} {es:List Expr} {t:TA} {te:TE} {tx:TEX} {st:Stmt} {rest:List Stmt} {u u':TSX}
theorem zTD {pins:List (Addr × Obj)} {σ:St} {H:Hp} {s:Shared} {Q:VK} {E:XK} {us:List Value} {vs:List V} (F:FnOk X.prog X.w X.K X.mg X.base (CXe X.prog X.w) k f fd ps sp) (hr:Room k X.A) (hb:Binds X.K fd ps ds) (hd:Vals dvs ds)
    (I:Inv X pins σ H s) (r:Vals vs us) (h:sp (vs ++ dvs) H Q E):wpAny (model X.prog X.w) X.A (call (.ref f) us) (EP X pins σ Q) (XP X pins σ E) s:=by
  have r2:Vals (vs ++ dvs) (us ++ ds):=r.append hd
  have hl:(us ++ ds).length = ps.length:=by rw [← r2.length]; exact F.len _ _ _ _ h
  refine wpAny_call (codeAny_mono (F.run X.A X.stack s H ⟨us,[]⟩ (us ++ ds) (vs ++ dvs) Q E hr I.env0 (hb s us I.kIn hl) r2 h) fun r s' hq=>?_)
  cases r with
  | error e=>exact I.flown hq
  | ok fl =>
    cases fl with
    | ret u=>exact I.after hq
    | next=>exact qAf hq
    | brk=>exact qAf hq
    | cont=>exact qAf hq
theorem PA.nox {es:List Expr} {t:TA} {E:Value → Shared → Prop} {M:Model} (h:PA X.nox es t) (pos:Pos) {pins:List (Addr × Obj)} {s:Shared} {σ:St} {H:Hp} {Q:List V → Hp → Prop} (I:Inv X pins σ H s) (q:t σ H Q) :
    wpAny (model X.prog X.w) X.A (spliced (backTo pos (starEach es X.env))) (AP X pins σ Q) E s :=
  wpAny_mono (h pos pins s σ H Q (I.wish _) q) (fun _ _ ⟨vs,H',I',r,q⟩=>⟨vs,H',I'.unwish,r,q⟩) fun _ _ z=>qAf z
theorem zQA (F:FnOk X.prog X.w X.K X.mg X.base (CXe X.prog X.w) k f fd ps sp) (hr:Room k X.A) (hg:Gl X x) (hm:X.mg x = some (.ref f)) (hk:qAv X.K (.ref f) = true) (hb:Binds X.K fd ps ds) (hd:Vals dvs ds)
    (ha:PA X.nox (e :: es) t) (hdb:(x == ("__debug__":Str)) = false:=by decide) (he:starEach (e :: es) X.env = (false,eval e X.env) :: starEach es X.env:=by rfl) (hpl:(backTo pos (starEach es X.env)).any (·.1) = false:=by rfl) :
    PEx X (.Call (.Name x p) (e :: es) [] pos) (fun σ H Q E=>zGV sp dvs E t σ H Q):=by
  intro pins s σ H Q E I h
  refine wpAny_Call_Name_kw (zEC I hg hm ?_ hdb)
  refine qDg (h₀:=X.base) I.ok.mod.kin hk (thn (PA.nox (M:=model X.prog X.w) ha pos I h) fun us s1 ⟨vs,H1,I1,r,q⟩=>⟨I1.kIn,?_⟩) he hpl
  exact zTD F hr hb hd I1 r q
theorem zQ7 (he:PEx X e tx) (hs:swapsWith e none pos.line X.env = pure false:=by rfl):PSx X (.Expr e pos) (fun D E σ H=>tx σ H (fun _ H1=>D.nx σ H1) (E σ)):=by
  intro pins s σ H D E I h
  exact wpAny_Expr_any (wpAny_mono (he pins s σ H _ _ I h) (fun v s1 ⟨x,H1,I1,r1,q1⟩=>⟨σ,H1,I1,q1⟩) fun x s1 q=>⟨σ,q⟩) I.quiet hs
theorem zQ6 (h1:PSx X st u):PSxs X [st] u:=by
  intro pins s σ H D E I h
  refine wpAny_execs_cons (thn (h1 pins s σ H D E I h) fun f s1 q=>?_)
  cases f with
  | next=>exact wpAny_execs_nil q
  | ret v=>exact q
  | brk=>exact q
  | cont=>exact q
abbrev Cx.hd (X:Cx) (e:Addr):Cx:={ X with A:=X.A.mark (some (.ref e)),calm:=false,xe:=fun _ _=>False }
theorem Cx.Ok.hd' {X:Cx} {e:Addr} (ok:X.Ok):(X.hd e).Ok :=
  ⟨ok.mod,ok.kind,ok.glob,ok.blt,ok.above,ok.inj,ok.has,ok.cab,fun z=>Bool.noConfusion z,ok.frames,ok.stk,ok.exf,ok.bs,ok.bsz,ok.noex,ok.exfs,ok.funs,ok.frf⟩
variable {pins:List (Addr × Obj)} {σ:St} {H:Hp} {s:Shared} {a:Addr}
theorem Inv.hd (I:Inv X pins σ H s) (a:Addr):Inv (X.hd a) pins σ H s:=⟨I.ok.hd',I.os,I.bare,I.base,I.loc,I.cell,I.free,I.freeC,I.pin,I.hok,I.len⟩
theorem Inv.unhd (ok:X.Ok) (I:Inv (X.hd a) pins σ H s):Inv X pins σ H s:=⟨ok,I.os,I.bare,I.base,I.loc,I.cell,I.free,I.freeC,I.pin,I.hok,I.len⟩
theorem Inv.gone {i:Nat} {x:Str} {h':Heap} {m:Str → Option Value} {v:Option Value} {t':Nat} (I:Inv X pins σ H s) (hN:X.N.Nodup) (hi:X.N[i]? = some x) (hk:X.env.scope.names.lookup x = some .local)
    (hm:∀ (j:Nat) (y:Str) (w:V),X.N[j]? = some y → σ[j]? = some (some w) → Vis X.env.scope y → ∃ u,RelV w u ∧ Look X.env s.heap m y u) (hn:h'.Ns X.env.locals fun y=>if y = x then v else m y) (hs:Heap.SameBut X.env.locals s.heap h'):Inv X pins (σ.set i none) H { s with heap:=h',toks:=t' }:=by
  have hiσ:i < σ.length:=by rw [I.len]; exact (qA2.mp hi).1
  have cne:=I.cne
  have oth:∀ b,b ≠ X.env.locals → h'.get? b = s.heap.get? b:=fun b hb=>hs.2 b hb
  refine ⟨I.ok,I.os,I.bare,⟨fun b o e n hb hx=>?_,fun b o e n hb hx=>?_,I.base.free,fun b o e hx=>?_,I.base.tups,I.base.frzs,I.base.tbls⟩,⟨_,hn,fun j y w e1 e2 e3=>?_⟩,fun y c e=>?_,I.free,I.freeC,fun p hp=>?_,fun b ob e=>?_,by simp [I.len]⟩
  · exact (oth b (qAn (qAb (Heap.lt_size e) I.ok.above))).trans (I.base.keep b o e n hb hx)
  · obtain ⟨sl,e1⟩:=I.base.slot b o e n hb hx
    exact ⟨sl,(oth b (qAn (qAb (Heap.lt_size e) I.ok.above))).trans e1⟩
  · obtain ⟨o',e1⟩:=I.base.there b o e hx
    exact ⟨o',(oth b (qAn (qAb (Heap.lt_size e) I.ok.above))).trans e1⟩
  · by_cases hj:j = i
    · subst hj
      rw [qAj hiσ] at e2
      cases e2
    · rw [qAk (qCn hj)] at e2
      obtain ⟨u',r',q⟩:=hm j y w e1 e2 e3
      refine ⟨u',r',?_⟩
      have hy:y ≠ x:=fun e=>hj (zIF hN e1 (e ▸ hi))
      rcases q with ⟨k,e⟩ | ⟨k,c,e,z⟩
      · exact .inl ⟨k,by simp [hy,e]⟩
      · exact .inr ⟨k,c,e,z.sameBut hs (cne y c e)⟩
  · obtain ⟨w',z⟩:=I.cell y c e
    exact ⟨w',z.sameBut hs (cne y c e)⟩
  · obtain ⟨e,n,ne,nf,d⟩:=I.pin p hp
    exact ⟨(oth p.1 ne).trans e,n,ne,nf,d⟩
  · refine (I.hok b ob e).stay (fun c w' hc q=>(oth c ?_).trans q) (fun _ q=>q) fun _ _ q=>q
    rintro rfl
    rcases hc with rfl | hc
    · rw [I.free] at e; cases e
    · rw [I.free] at hc; cases hc
theorem zIM {M:Model} {A:Around} {E:Value → Shared → Prop} {Q:Unit → Shared → Prop} {i:Nat} {x:Str} {pos:Pos} (I:Inv X pins σ H s) (hN:X.N.Nodup) (hi:X.N[i]? = some x) (hk:X.env.scope.names.lookup x = some .local)
    (h:∀ s',Inv X pins (σ.set i none) H s' → Q () s'):wpAny M A (do bindName X.env x .none; unbindBehindTheSuite X.env x pos) Q E s:=by
  obtain ⟨m,hn,hl⟩:=id I.loc
  refine wpAny_nameGoes_keeps hk hn (by rw [I.ok.kind]; rfl) fun h' v hn' hs=>h _ (I.gone hN hi hk hl hn' hs)
noncomputable def zQT (i:Nat) (D:Ends):Ends:={ nx:=fun σ H=>D.nx (σ.set i none) H,rt:=D.rt,bk:=fun σ H=>D.bk (σ.set i none) H,ct:=fun σ H=>D.ct (σ.set i none) H }
def zRL (K:qA1) (c:Value) (i:Nat) (tb:TSX) (ts:TS):TS:=fun D σ H=>tb D (fun σ1 x d H1=>∃ e C,x = .ref e ∧ H1 e = some (xo e C d) ∧ qCg K C c = some true ∧ ts (zQT i D) (σ1.set i (some (.ref e))) H1) σ H
theorem zQ8 {body:List Stmt} {tb:TSX} {ts:TS} {c:Value} {cn x:Str} {i:Nat} {b₀:Stmt} {suite:List Stmt} {cp hp':Pos} (hb:PSxs X body tb) (hst:X.stack = X.env :: X.outer ∧ X.env.frame = some X.env.locals)
    (hc:X.mg cn = some c ∨ (X.mg cn = none ∧ bootBuiltins cn = some c ∧ cn ≠ "__name__")) (hg:Gl X cn) (hN:X.N.Nodup) (hi:X.N[i]? = some x) (hk:X.env.scope.names.lookup x = some .local) (hsu:∀ e,PSs (X.hd e) (b₀ :: suite) ts) (hdb:(cn == ("__debug__":Str)) = false:=by decide) :
    PS X (.Try body [.ExceptHandler (some (.Name cn cp)) (some x) (b₀ :: suite) hp'] [] [] pos) (zRL X.K c i tb ts):=by
  intro pins s σ H D I h
  refine wpAny_Try_except (wpAny_mono (hb pins s σ H _ _ I h) (fun f s1 q=>?_) fun y s1 ⟨σ1,n,e,C,d,H1,ey,I1,fl,hn,hn',hp,q0⟩=>?_)
  · cases f with
    | next=>exact wpAny_execs_nil q
    | ret v=>exact q
    | brk=>exact q
    | cont=>exact q
  · subst ey
    obtain ⟨e',C',ee,hC',hm,q⟩:=q0
    cases ee
    refine zLY I1 I1.ok.frames hst fl hn hn' hp fun s2 I2 hh=>?_
    refine zIG I2 hh.1 hh.2 hn hp fun s3 I3 f3=>?_
    have I3h:=I3.hd e
    have LT:qEn (model X.prog X.w) s3.heap (typeOf (.ref e)) C':=by
      obtain ⟨oe,vs,he,hcl,_⟩:=(I3.hok e _ hC').1
      subst hcl
      exact (qGi he).andThen .now
    have ex:=PySem.W.exm_one (M:=model X.prog X.w) I3.kIn LT hm
    have load:∀ {Q:Value → Shared → Prop} {E:Value → Shared → Prop},Q c s3 → wpAny (model X.prog X.w) (X.A.mark (some (.ref e))) (eval (.Name cn cp) X.env) Q E s3:=fun {Q E} hq=>by
      rcases hc with z | ⟨z,z1,z2⟩
      · exact zEC (X:=X.hd e) I3h hg z hq hdb
      · exact zHJ (X:=X.hd e) I3h hg z z1 hq z2 hdb
    refine wpAny_handleBy_cons (codeAny_handlers_test (load (ex.here ?_))) (by intro z; cases z)
    refine codeAny_handlers_suite_as (zIG I3h hh.1 f3 hn hp fun s4 I4 f4=>?_)
    refine zI1 (X:=X.hd e) (v:=.ref e) I4 hN hi (.inl hk) rfl (fun s5 I5=>?_) (.inr hk)
    refine wpAny_mono (hsu e pins s5 _ H1 (zQT i D) I5 q) (fun f s6 q6=>?_) fun _ _ z=>qAf z
    cases f with
    | next=>obtain ⟨σ',H',I',q'⟩:=q6; exact zIM (I'.unhd I1.ok) hN hi hk fun s7 I7=>⟨_,H',I7,q'⟩
    | brk=>obtain ⟨σ',H',I',q'⟩:=q6; exact zIM (I'.unhd I1.ok) hN hi hk fun s7 I7=>⟨_,H',I7,q'⟩
    | cont=>obtain ⟨σ',H',I',q'⟩:=q6; exact zIM (I'.unhd I1.ok) hN hi hk fun s7 I7=>⟨_,H',I7,q'⟩
    | ret u=>obtain ⟨v,σ',H',I',r,q'⟩:=q6; exact zIM (I'.unhd I1.ok) hN hi hk fun s7 I7=>⟨v,_,H',I7,r,q'⟩
end
end L2
namespace PySem.W
open PySem PySem.Calls PyProof.Rows Builtin Builtin.ObjectAttr
noncomputable def excTail:List Value → Bool
  | .ref _ :: r=>excTail r
  | [.type a,.type b,.type c,.type d]=>a == "ValueError" && b == "Exception" && c == "BaseException" && d == "object"
  | _=>false
theorem zL7 {a b c d:String} (e:excTail [.type a,.type b,.type c,.type d] = true):a = "ValueError" ∧ b = "Exception" ∧ c = "BaseException" ∧ d = "object":=by
  simp only [excTail,qBk,beq_iff_eq] at e
  exact ⟨e.1.1.1,e.1.1.2,e.1.2,e.2⟩
theorem zC9:∀ {l:List Value},excTail l = true → ∃ as:List Addr,l = as.map Value.ref ++ [.type "ValueError",.type "Exception",.type "BaseException",.type "object"]
  | .ref a :: r,e=>by
    obtain ⟨as,rfl⟩:=zC9 (l:=r) e
    exact ⟨a :: as,rfl⟩
  | [.type a,.type b,.type c,.type d],e=>by
    obtain ⟨rfl,rfl,rfl,rfl⟩:=zL7 e
    exact ⟨[],rfl⟩
theorem zMK (self:Value) {l:List Value} (e:excTail l = true):refuseLoop self "__setattr__" l = pure ():=by
  obtain ⟨as,rfl⟩:=zC9 e
  induction as with
  | nil=>exact PySem.F.store_ValueError.passes self
  | cons a r ih =>
    rw [qAp,qD4,refuseLoop_ref]
    exact ih (by simpa [excTail] using e)
theorem zUJ {l:List Value} (e:excTail l = true):l.contains (.type "object") = true:=by
  obtain ⟨as,rfl⟩:=zC9 e
  rw [List.contains_iff_exists_mem_beq]
  exact ⟨.type "object",by simp,by simp⟩
def excOver (K:Frag) (C:Addr):Bool:=(clsIn K C).any fun cd=>excTail cd.mro
section
variable {prog:Program} {w:World} {A:Around} {s:Shared} {K:Frag} {x C:Addr} {R:Result → Shared → Prop}
theorem zO9 {ox:Obj} {od:Option Obj} {name:Str} {tk:Tok} {v:Value} {r:Option Value} (X:K.In s.heap) (I:InstAt s.heap x ox C od) (hp:excOver K C = true) (ht:takerIn K C name = some r)
    (h:∀ b,wpAny (model prog w) A.in1 (match r with | some a=>setByDescriptor a (.ref x) v | none=>storeInOwnDict (.ref x) (.ref C) (.str name tk) name v b)
      (fun fin s'=>match fin with | .done f=>R (.ok f) s' | .again c'=>c'.quiet = true ∧ codeAny (model prog w) A c' R s') (fun e s'=>R (.error e) s') s) :
    codeAny (model prog w) A (.call (.builtin "object.__setattr__") ⟨[.ref x,.str name tk,v],[]⟩) R s:=by
  have SF:=PySem.F.store_object
  obtain ⟨cd,hc,ho⟩:=any_some hp
  have ne:cd.mro.isEmpty = false:=by cases q:cd.mro with | nil=>rw [q] at ho; cases ho | cons _ _=>rfl
  have sub:Looks (model prog w) s.heap (isInstance (.ref x) (.type "object")) true:=I.type.andThen (looks_mroIn X (by unfold mroIn; rw [hc,qD5,if_neg (by rw [ne]; decide),zUJ ho]))
  refine codeAny_call_builtin SF.slot.plain SF.entry (@check_slot (model prog w) _ _ s "object.__setattr__" "object" "__setattr__" (.ref x) [.str name tk,v] [] _ SF.kind SF.split sub (SF.args (.ref x) (.str name tk) v) ?_)
  obtain ⟨attr,ha,hr⟩:=Option.bind_eq_some_iff.mp ht
  have hm:Looks (model prog w) s.heap (mroOf (.ref C)) cd.mro:=(looks_clsIn X hc).andThen .now
  have L3:Looks (model prog w) s.heap (storeTaker? attr) r:=by
    cases attr with
    | none=>cases hr; exact .now
    | some a =>
      obtain ⟨b,hb,rfl⟩:=qBg.mp hr
      refine (looks_takesIn X hb).andThen ?_
      cases b <;> exact .now
  rw [osa_eq,refuse_eq]
  refine wpAny_bind (wpAny_bind (I.type.here (wpAny_bind (hm.here ?_))))
  rw [zMK _ ho]
  refine wpAny_pure (wpAny_bind (I.type.here (wpAny_bind ((looks_findIn X ha).here (wpAny_bind (L3.here ?_))))))
  exact h _
theorem set_exc {E:Value → Shared → Prop} {name:Str} {v:Value} {Q:Unit → Shared → Prop} {vs:Array Value} {sl:Array (Option Value)} (X:K.In s.heap) (hx:s.heap.get? x = some ⟨.ref C,none,.fields vs,sl⟩)
    (hs:findIn K (.ref C) "__setattr__" = some (some (.builtin "object.__setattr__"))) (hp:excOver K C = true) (ht:takerIn K C name = some none) (hh:(clsIn K C).any (·.hasDict) = true)
    (h:∀ h' tk',h'.Ns1 s.heap.objs.size (fun y=>if y = name then some v else none) → h'.get? x = some ⟨.ref C,some s.heap.objs.size,.fields vs,sl⟩ → (∀ b o,b ≠ x → s.heap.get? b = some o → h'.get? b = some o) → Q () { s with heap:=h',toks:=tk' }) :
    wpAny (model prog w) A (setAttr (.ref x) name v) Q E s:=by
  have I:InstAt s.heap x ⟨.ref C,none,.fields vs,sl⟩ C none:=⟨hx,rfl,rfl,trivial⟩
  refine set_plain X I hs (zO9 (s:={ s with toks:=s.toks + 1 }) (r:=none) X I hp ht fun b=>?_)
  obtain ⟨cd,hc,hd'⟩:=any_some hh
  obtain ⟨h0,g,d,t,os⟩:=s
  dsimp only at hx X I h ⊢
  refine wpAny_bind (wpAny_pure (wpAny_bind (wpAny_bind (wpAny_loadPart hx (wpAny_bind (Looks.here (s:=⟨h0,g,d,t + 1,os⟩) (looks_clsIn X hc) ?_))))))
  rw [hd']
  have hx₁:(h0.push { cls:=.type "dict",data:=.dict #[] }).get? x = some ⟨.ref C,none,.fields vs,sl⟩:=Heap.get?_push_of_some _ hx
  have hxs:x ≠ h0.objs.size:=qAn (Heap.lt_size hx)
  refine wpAny_bind (wpAny_alloc' ?_)
  refine wpAny_bind (wpAny_update' hx₁ ?_)
  refine wpAny_pure ?_
  have hx₂:((h0.push { cls:=.type "dict",data:=.dict #[] }).update x fun o=>{ cls:=o.cls,dict:=some h0.objs.size,data:=o.data,slots:=o.slots }).get? x = some ⟨.ref C,some h0.objs.size,.fields vs,sl⟩:=Heap.get?_update_self _ hx₁ rfl
  have hgd:((h0.push { cls:=.type "dict",data:=.dict #[] }).update x fun o=>{ cls:=o.cls,dict:=some h0.objs.size,data:=o.data,slots:=o.slots }).get? h0.objs.size
      = some { cls:=.type "dict",data:=.dict #[] }:=(Heap.get?_update_ne _ _ _ _ hxs.symm).trans (Heap.get?_push_at rfl rfl)
  have hnd:((h0.push { cls:=.type "dict",data:=.dict #[] }).update x fun o=>{ cls:=o.cls,dict:=some h0.objs.size,data:=o.data,slots:=o.slots }).Ns h0.objs.size (fun _=>none) :=
    ⟨_,#[],_,hgd,rfl,fun e he=>absurd he (by simp),fun _=>rfl⟩
  show wpAny _ _ (storeInDict h0.objs.size (.str name t) name v) _ _ _
  unfold storeInDict newKeyGuard
  refine wpAny_bind (wpAny_pure (wpAny_bind (wpAny_nsSet1 (Heap.Ns1.of_empty hnd) fun h' hn' hs'=>?_)))
  obtain ⟨oD,esD,epD,hoD,hdD,hcD⟩:=hn'.count (Within.cons name v Within.nil)
  refine wpAny_bind (wpAny_lookBehind hoD (by rw [hdD]; exact pastItsLine_dict (qAo hcD (by rw [qAi,qCr,sizeLine_eq]; omega))) ?_)
  exact wpAny_pure (h h' _ hn' ((hs'.2 x hxs).trans hx₂) fun b ob hbx hb=>(hs'.2 b (qAn (Heap.lt_size hb))).trans ((Heap.get?_update_ne _ _ _ _ hbx).trans (Heap.get?_push_of_some _ hb)))
end
end PySem.W
namespace PySem.Xc
open PySem
section
variable {M:Model} {prog:Program} {w:World} {A:Around} {E:Value → Shared → Prop} {h:Heap} {g:Array GenState} {d:Drawn} {t:Nat} {os:OsState} {R:Result → Shared → Prop}
variable {nm q:Str} {C N:Addr} {bs bm bmB:List Value} {hdct:Bool} {sn:List Str} {sub:List Value} {ab:Bool} {col:Option Bool} {dd:Option Addr} {k0 k1 k2 k3 k5:Option Value} {B newId initId:String}
theorem zN3 (F:ExcBaseFacts B newId initId bmB) (hB:bm.contains (.type B) = true) {rest:List Value} {Q:Unit → Shared → Prop} (hC:h.get? C = some (excClassObj nm q C N bs bm hdct sn sub ab col dd k0 k1 k2 k3 k5 newId))
    (hq:Q () ⟨h,g,d,t,os⟩):wpAny M A (checkBuiltinCall newId ⟨.ref C :: rest,[]⟩) Q E ⟨h,g,d,t,os⟩:=by
  have hcont:(Value.ref C :: bm).contains (.type B) = true:=by rw [qBb,hB,qEb]
  have hstar:=F.noStar
  simp only [checkBuiltinCall,F.newKind,F.newSplit,F.newRow]
  repeat (first | refine wpAny_loadPart_at hC ?_ | (refine wpAny_isSubtype_exc hC ?_; rw [hcont]) | refine wpAny_staticBase_exc hC ?_ | refine wpAny_madeBy_exc hC ?_ | simp only [bne_self_eq_false,Bool.false_eq_true,if_false] | wp_step)
  exact hq
theorem zPD (F:ExcBaseFacts B newId initId bmB) (hB:bm.contains (.type B) = true) (hA:bm.contains (.type "AttributeError") = false) (hN:bm.contains (.type "NameError") = false) {rest:List Value} (hC:h.get? C = some (excClassObj nm q C N bs bm hdct sn sub ab col dd k0 k1 k2 k3 k5 newId))
    (hq:R (.ok (.ret (.ref (h.objs.size + 1)))) ⟨(h.push { cls:=.type "tuple",data:=.seq rest.toArray }).push
      { cls:=.ref C,data:=.fields #[.ref h.objs.size,.none,.none,.none,.bool false,.none] },g,d,t,os⟩) (hrest:rest.length ≤ sizeLine) :
    codeAny (model prog w) A (.builtin newId ⟨.ref C :: rest,[]⟩) R ⟨h,g,d,t,os⟩:=by
  have hends:=F.ends
  have hcB:(Value.ref C :: bm).contains (.type B) = true:=by rw [qBb,hB,qEb]
  have hcA:(Value.ref C :: bm).contains (.type "AttributeError") = false:=by rw [qBb,hA]; rfl
  have hcN:(Value.ref C :: bm).contains (.type "NameError") = false:=by rw [qBb,hN]; rfl
  refine codeAny_builtinAt F.entry ?_
  unfold Builtin.«BaseException.__new__»
  refine wpAt_bind ?_
  show wpAt _ _ _ (stack >>= _) _ _ _
  refine wpAt_bind (wpAt_stack fun p below=>wpAt_of_wpAny ?_)
  wp_walk
  refine wpAt_of_wpAny ?_
  rw [F.owner]
  repeat (first | with_reducible refine wpAny_madeHere_exc F.canon hC ?_ | with_reducible refine wpAny_loadPart_at hC ?_ | (with_reducible refine wpAny_isSubtype_exc hC ?_; first | rw [hcB] | rw [hcA] | rw [hcN]) | wp_step)
  show R _ _
  rw [Heap.size_push]
  exact hq
theorem zLE (F:ExcBaseFacts B newId initId bmB) (hB:bm.contains (.type B) = true) {e:Addr} {oe:Obj} {rest:List Value} {Q:Unit → Shared → Prop} {newId':String}
    (hC:h.get? C = some (excClassObj nm q C N bs bm hdct sn sub ab col dd k0 k1 k2 k3 k5 newId')) (he:h.get? e = some oe) (hcls:oe.cls = .ref C) (hq:Q () ⟨h,g,d,t,os⟩) :
    wpAny M A (checkBuiltinCall initId ⟨.ref e :: rest,[]⟩) Q E ⟨h,g,d,t,os⟩:=by
  have hcB:(Value.ref C :: bm).contains (.type B) = true:=by rw [qBb,hB,qEb]
  have hshort:=F.noStar
  simp only [checkBuiltinCall,F.initKind,F.initSplit,F.initRow]
  repeat (first | (with_reducible refine wpAny_loadPart_at he ?_; rw [hcls]) | with_reducible refine wpAny_loadPart_at hC ?_ | (with_reducible refine wpAny_isSubtype_exc hC ?_; rw [hcB]) | wp_step)
  refine wpAny_onRaise ?_
  rw [show ∀ (a b:String) (n:Nat),Bind.check ⟨.positional,"*",B,.self,[⟨"args",.varPos,false⟩]⟩ a b n (List.map (fun x=>x.fst) ({ pos:=Value.ref e :: rest }:Args).kw) = pure () from
    fun a b n=>check_star_args _ _ _ _ _ _]
  exact wpAny_pure hq
theorem zFP (F:ExcBaseFacts B newId initId bmB) (hB:bm.contains (.type B) = true) (hA:bm.contains (.type "AttributeError") = false) (hN:bm.contains (.type "NameError") = false) {rest:List Value} {fI:Addr} {oI:Obj} {Q:Fin → Shared → Prop}
    (hC:h.get? C = some (excClassObj nm q C N bs bm hdct sn sub ab col dd k0 k1 k2 k3 k5 newId)) (hi:qEn (model prog w) h (typeLookup (.ref C) "__init__") (some (.ref fI)))
    (hfI:h.get? fI = some oI) (hfc:oI.cls = .type "function")
    (hq:∀ h' e,Heap.MadeExcOf h h' e (.ref C) rest → h.objs.size ≤ e →
      wpAny (model prog w) A (call (.ref fI) (.ref e :: rest)) (fun r s'=>r = .none ∧ Q (.done (.ret (.ref e))) s') E ⟨h',g,d,t,os⟩) (hrest:rest.length ≤ sizeLine) :
    wpAny (model prog w) A (Builtin.«type.__call__» ⟨.ref C :: rest,[]⟩) Q E ⟨h,g,d,t,os⟩:=by
  repeat (first | with_reducible refine wpAny_loadPart_at hC ?_ | with_reducible refine wpAny_madeBy_exc hC ?_ | wp_step)
  refine codeAny_call_builtin_code (Code.quiet_builtin _ F.quiet) (zN3 F hB hC ?_)
  refine zPD F hB hA hN hC ?_ hrest
  show wpAny _ _ _ _ _ _
  have hC₁:=Heap.get?_push_of_some { cls:=.ref C,data:=.fields #[.ref h.objs.size,.none,.none,.none,.bool false,.none] }
    (Heap.get?_push_of_some { cls:=.type "tuple",data:=.seq rest.toArray } hC)
  have hfI₁:=Heap.get?_push_of_some { cls:=.ref C,data:=.fields #[.ref h.objs.size,.none,.none,.none,.bool false,.none] }
    (Heap.get?_push_of_some { cls:=.type "tuple",data:=.seq rest.toArray } hfI)
  have hi₁:=hi.keeps (h':=(h.push { cls:=.type "tuple",data:=.seq rest.toArray }).push { cls:=.ref C,data:=.fields #[.ref h.objs.size,.none,.none,.none,.bool false,.none] }) fun b o e=>Heap.get?_push_of_some _ (Heap.get?_push_of_some _ e)
  have hget:((h.push { cls:=.type "tuple",data:=.seq rest.toArray }).push
      { cls:=.ref C,data:=.fields #[.ref h.objs.size,.none,.none,.none,.bool false,.none] }).get? (h.objs.size + 1) = some
      { cls:=.ref C,data:=.fields #[.ref h.objs.size,.none,.none,.none,.bool false,.none] }:=by heap_get
  have hcC:(Value.ref C :: bm).contains (.ref C) = true:=by simp
  unfold isInstance
  repeat (first | with_reducible refine wpAny_loadPart_at hget ?_ | (with_reducible refine wpAny_isSubtype_exc hC₁ ?_; rw [hcC]) | wp_step)
  show wpAny _ _ (typeLookup (.ref C) _) _ _ _
  refine hi₁.here ?_
  refine wpAny_holding (wpAny_bind ?_)
  unfold bindSpecial
  refine wpAny_bind (wpAny_typeOf (T:="function") ⟨_,hfI₁,hfc⟩ ?_)
  rw [if_pos (by decide)]
  refine wpAny_pure (wpAny_bind (wpAny_mono (hq _ (h.objs.size + 1) ⟨fun b o hb=>Heap.get?_push_of_some _ (Heap.get?_push_of_some _ hb),Heap.get?_none_of_le (qDa _),h.objs.size,hget,Heap.get?_none_of_le (qA7 _),?_⟩ (qDa _)) (fun r s' hr=>?_) fun _ _ x=>x))
  · exact Heap.get?_push_of_some _ (Heap.get?_push_at rfl rfl)
  · obtain ⟨rfl,hQ⟩:=hr
    wp_walk
    exact hQ
theorem call_initX (F:ExcBaseFacts B newId initId bmB) (hB:bm.contains (.type B) = true) (hA:bm.contains (.type "AttributeError") = false) (hN:bm.contains (.type "NameError") = false) {rest:List Value} {fI:Addr} {oI:Obj} {Q:Value → Shared → Prop}
    (hC:h.get? C = some (excClassObj nm q C N bs bm hdct sn sub ab col dd k0 k1 k2 k3 k5 newId)) (hi:qEn (model prog w) h (typeLookup (.ref C) "__init__") (some (.ref fI)))
    (hfI:h.get? fI = some oI) (hfc:oI.cls = .type "function")
    (hq:∀ h' e,Heap.MadeExcOf h h' e (.ref C) rest → h.objs.size ≤ e →
      wpAny (model prog w) (A.under (.builtin "type.__call__" ⟨.ref C :: rest,[]⟩)) (call (.ref fI) (.ref e :: rest)) (fun r s'=>r = .none ∧ Q (.ref e) s') E ⟨h',g,d,t,os⟩) (hrest:rest.length ≤ sizeLine) :
    wpAny (model prog w) A (call (.ref C) rest) Q E ⟨h,g,d,t,os⟩:=by
  have f1:=tc_lookup
  have f2:=tc_bind (.ref C)
  have hT:(⟨h,g,d,t,os⟩:Shared).TypeIs (.ref C) "type":=⟨_,hC,rfl⟩
  refine wpAny_call (codeAny_of_tree ?_)
  show wpAny _ _ (callAny (.ref C) _) _ _ _
  repeat (any_goals (first | assumption | with_reducible refine wpAny_loadPart_at hC ?_ | wp_step))
  refine ⟨rfl,?_⟩
  refine codeAny_call_builtin_at (Code.quiet_builtin _ (by decide +kernel)) entry_typeCall (wpAny_check_type_call_sub hC (zFP (hrest:=hrest) F hB hA hN hC hi hfI hfc fun h' e hm hz=>?_))
  exact hq h' e hm hz
theorem call_baseX (F:ExcBaseFacts B newId initId bmB) (hB:bm.contains (.type B) = true) {e t1:Addr} {di:Option Addr} {rest:List Value} {Q:Value → Shared → Prop} {newId':String}
    (hC:h.get? C = some (excClassObj nm q C N bs bm hdct sn sub ab col dd k0 k1 k2 k3 k5 newId')) (he:h.get? e = some { cls:=.ref C,dict:=di,data:=.fields #[.ref t1,.none,.none,.none,.bool false,.none] })
    (hq:∀ h' t0,(∀ b o,b ≠ e → h.get? b = some o → h'.get? b = some o) → h'.get? e = some { cls:=.ref C,dict:=di,data:=.fields #[.ref t0,.none,.none,.none,.bool false,.none] } → Q .none ⟨h',g,d,t,os⟩) (hrest:rest.length ≤ sizeLine) :
    wpAny (model prog w) A (call (.builtin initId) (.ref e :: rest)) Q E ⟨h,g,d,t,os⟩:=by
  refine wpAny_call (codeAny_call_builtin F.init.plain F.initEntry (zLE F hB hC he rfl ?_))
  wp_walk
  refine hq _ h.objs.size (fun b o hbe hb=>?_) ?_
  · rw [Heap.get?_update_other _ _ (qCn hbe)]
    exact Heap.get?_push_of_some _ hb
  · rw [Heap.get?_update_self _ (Heap.get?_push_of_some _ he) rfl]
    rfl
end
end PySem.Xc
namespace PySem.W
open PySem
def xcIn (K:Frag) (C:Addr):Bool:=match K.lookup C with
  | some ⟨.type "type",_,.cls cd,sl⟩=>(match cd.mro,sl.toList with
    | .ref C' :: bm,[_,_,_,_,some (.builtin n),_]=>C' == C && !cd.hasDel && excTail bm && n == "ValueError.__new__" && cd.hasDict
    | _,_=>false)
  | _=>false
theorem xc_cls {K:Frag} {h:Heap} {C:Addr} (X:K.In h) (q:xcIn K C = true):∃ nm qn N bs bm hdct sn sub ab col dd k0 k1 k2 k3 k5,
    h.get? C = some (excClassObj nm qn C N bs bm hdct sn sub ab col dd k0 k1 k2 k3 k5 "ValueError.__new__") ∧ excTail bm = true:=by
  unfold xcIn at q
  split at q
  · rename_i dd cd sl ho
    split at q
    · rename_i C' bm k0 k1 k2 k3 n k5 hm hs
      simp only [qBk,beq_iff_eq,Bool.not_eq_true'] at q
      obtain ⟨⟨⟨⟨rfl,hdel⟩,hb⟩,hn⟩,hd⟩:=q
      subst hn
      obtain ⟨nm,bs,mro,ns,qn,hd',sn,sub,ab,col,del⟩:=cd
      dsimp only at hm hdel
      subst hm hdel
      have hsl:sl = #[k0,k1,k2,k3,some (.builtin "ValueError.__new__"),k5]:=by
        obtain ⟨l⟩:=sl
        simp only at hs
        rw [hs]
      subst hsl
      exact ⟨nm,qn,ns,bs,bm,hd',sn,sub,ab,col,dd,k0,k1,k2,k3,k5,X _ _ ho,hb⟩
    · cases q
  · cases q
theorem exc_con {l:List Value} {T:String} {b:Bool} (e:excTail l = true) (hb:List.contains [Value.type "ValueError",.type "Exception",.type "BaseException",.type "object"] (.type T) = b):l.contains (.type T) = b:=by
  obtain ⟨as,rfl⟩:=zC9 e
  clear e
  induction as with
  | nil=>exact hb
  | cons a r ih=>rw [qAp,qD4,qBb,ih]; rfl
end PySem.W
namespace PySem.Xc
open PySem
section
variable {M:Model} {A:Around} {E:Value → Shared → Prop} {s:Shared} {env:Env}
variable {nm q:Str} {C N:Addr} {bs bm:List Value} {hdct:Bool} {sn:List Str} {sub:List Value} {ab:Bool} {col:Option Bool} {dd:Option Addr} {k0 k1 k2 k3 k5:Option Value} {newId:String}
theorem raiseX {x:Sem Value} {Q:Flow → Shared → Prop} (hh:A.handled = none)
    (h:wpAny M A x (fun v s₁=>∃ e t di nm q C N bs bm hdct sn sub ab col dd k0 k1 k2 k3 k5 newId,v = .ref e ∧ s₁.heap.get? C = some (excClassObj nm q C N bs bm hdct sn sub ab col dd k0 k1 k2 k3 k5 newId) ∧ bm.contains (.type "BaseException") = true ∧
      s₁.heap.get? e = some { cls:=.ref C,dict:=di,data:=.fields #[.ref t,.none,.none,.none,.bool false,.none] } ∧ E (.ref e) s₁) E s) :
    wpAny M A (raiseStmt env (some x) none) Q E s:=by
  unfold raiseStmt
  refine wpAny_bind (wpAny_mono h (fun v s₁ h₁=>?_) fun _ _ x=>x)
  obtain ⟨e,t,di,nm,q,C,N,bs,bm,hdct,sn,sub,ab,col,dd,k0,k1,k2,k3,k5,newId,rfl,hC,hbase,he,hE⟩:=h₁
  have hcB:(Value.ref C :: bm).contains (.type "BaseException") = true:=by rw [qBb,hbase,qEb]
  obtain ⟨hp,g,d,tk,os⟩:=s₁
  repeat (first | with_reducible refine wpAny_loadPart_at he ?_ | with_reducible refine wpAny_loadPart_at hC ?_ | (with_reducible refine wpAny_isSubtype_exc hC ?_; rw [hcB]) | wp_step)
  exact wpAny_raiseNew_none hh hE
theorem RaiseX {x:Expr} {pos:Pos} {Q:Flow → Shared → Prop} (hh:A.handled = none)
    (h:wpAny M A (eval x env) (fun v s₁=>∃ e t di nm q C N bs bm hdct sn sub ab col dd k0 k1 k2 k3 k5 newId,v = .ref e ∧ s₁.heap.get? C = some (excClassObj nm q C N bs bm hdct sn sub ab col dd k0 k1 k2 k3 k5 newId) ∧ bm.contains (.type "BaseException") = true ∧
      s₁.heap.get? e = some { cls:=.ref C,dict:=di,data:=.fields #[.ref t,.none,.none,.none,.bool false,.none] } ∧ E (.ref e) s₁) E s) :
    wpAny M A (exec (.Raise (some x) none pos) env) Q E s:=by
  rw [arm_exec_Raise]
  first
    | exact wpAny_bind (wpAny_standAt (raiseX hh (wpAny_bind (wpAny_mono h (fun v s₁ h₁=>wpAny_bind (wpAny_standAt (wpAny_pure h₁))) fun _ _ x=>x))))
    | (simp only [evalOpt,Option.map]; exact wpAny_bind (wpAny_standAt (raiseX hh (wpAny_bind (wpAny_mono h (fun v s₁ h₁=>wpAny_bind (wpAny_standAt (wpAny_pure h₁))) fun _ _ x=>x)))))
    | (show wpAny M A (do standAt pos; raiseStmt env (some (do let v ← eval x env; standAt pos; pure v)) none) Q E s; exact wpAny_bind (wpAny_standAt (raiseX hh (wpAny_bind (wpAny_mono h (fun v s₁ h₁=>wpAny_bind (wpAny_standAt (wpAny_pure h₁))) fun _ _ x=>x)))))
end
section
open PySem.W
variable {prog:Program} {w:World} {A:Around} {E:Value → Shared → Prop} {K:Frag} {x C:Addr} {ox:Obj} {od:Option Obj} {name:Str} {expr fill:Bool} {h:Heap} {g:Array GenState} {d:Drawn} {t:Nat} {os:OsState}
theorem zMV {tk:Tok} {v:Value} {Q:Fin → Shared → Prop} (X:K.In h) (I:InstAt h x ox C od) (hf:findObj K C od name = some (.value v)) (hq:Q (.done (.ret v)) ⟨h,g,d,t,os⟩) :
    wpAny (model prog w) A (Builtin.«object.__getattribute__» ⟨[.ref x,.str name tk],[]⟩) Q E ⟨h,g,d,t,os⟩:=by
  have L0:=I.type (M:=model prog w)
  have L1:=looks_find (M:=model prog w) X I hf
  unfold Builtin.«object.__getattribute__»
  refine wpAny_bind (wpAny_pure (wpAny_bind (wpAny_pure (wpAny_bind (L0.at (wpAny_bind (L1.at ?_)))))))
  exact wpAny_pure hq
theorem zK9 {M:Model} {nameV:Value} {Q:Unit → Shared → Prop} (X:K.In h) (hc:xcIn K C = true) (I:InstAt h x ox C od) (hq:Q () ⟨h,g,d,t,os⟩):wpAny M A (checkBuiltinCall "BaseException.__getattribute__" ⟨[.ref x,nameV],[]⟩) Q E ⟨h,g,d,t,os⟩:=by
  obtain ⟨nm,qn,N,bs,bm,hdct,sn,sub,ab,col,dd,k0,k1,k2,k3,k5,hC,ht⟩:=xc_cls X hc
  have hk:builtinKind "BaseException.__getattribute__" = some .slot:=by decide +kernel
  have hsplit:splitId "BaseException.__getattribute__" = some ("BaseException","__getattribute__"):=by decide +kernel
  have hcB:(Value.ref C :: bm).contains (.type "BaseException") = true:=by rw [qBb,exc_con ht (T:="BaseException") (b:=true) (by decide)]; rfl
  have ha:=F.args_bexc_ga (.ref x) nameV
  simp only [checkBuiltinCall,hk,hsplit]
  refine wpAny_bind ?_
  · unfold isInstance
    have hx:=I.at_
    have hcl:=I.cls
    repeat (first | (with_reducible refine wpAny_loadPart_at hx ?_; rw [hcl]) | (with_reducible refine wpAny_isSubtype_exc hC ?_; rw [hcB]) | wp_step)
    exact hq
theorem get_excX {v:Value} {Q:Value → Shared → Prop} (X:K.In h) (I:InstAt h x ox C od) (hc:xcIn K C = true) (hga:findIn K (.ref C) "__getattribute__" = some (some (.builtin "BaseException.__getattribute__"))) (hgg:findIn K (.ref C) "__getattr__" = some none)
    (hf:findObj K C od name = some (.value v)) (hh:handedIn v = true) (hq:Q v ⟨h,g,d,t + 1,os⟩):wpAny (model prog w) A (getAttr (.ref x) name expr) Q E ⟨h,g,d,t,os⟩:=by
  have f3:=F.excAttr_ValueError.ga.bind (.ref x)
  have hx0:(expr && onTheHeap (Value.builtin "BaseException.__getattribute__")) = false:=by cases expr <;> rfl
  have hx2:(Value.builtin "BaseException.__getattribute__" == Value.builtin "object.__getattribute__") = false:=by decide +kernel
  have hx1:(onTheHeap (Value.ref C) && Value.builtin "BaseException.__getattribute__" == Value.builtin "object.__getattribute__") = false:=by rw [hx2]; rfl
  have L0:=I.type (M:=model prog w)
  have L1:=looks_findIn (M:=model prog w) X hga
  have L2:=looks_findIn (M:=model prog w) X hgg
  have hx:=I.at_
  have hcl:=I.cls
  unfold getAttr
  repeat (any_goals (first | assumption | (with_reducible refine wpAny_loadPart_at hx ?_; rw [hcl]) | with_reducible refine L1.at ?_ | with_reducible refine L2.at ?_ | wp_step))
  refine codeAny_call_builtin F.excAttr_ValueError.ga.plain F.entry_bexc_ga (zK9 (h:=h) X hc I (zMV (h:=h) X I hf ?_))
  show wpAny _ _ (handedOut v) _ _ _
  rw [handedOut_of hh]
  exact wpAny_pure hq
end
end PySem.Xc
namespace L2
open PySem PySem.Spec PyProof.Rows
def XN (e:Addr) (C:Value) (d:Option Addr) (h:Heap):Prop:=∃ t1,h.get? e = some { cls:=C,dict:=d,data:=.fields #[.ref t1,.none,.none,.none,.bool false,.none] }
abbrev xn (e:Addr) (C:Value) (d:Option Addr):HO:=.ext (XN e C d)
theorem zSW {e:Addr} {C:Value} {d:Option Addr} (h1 h2:Heap) (x:XN e C d h1) (k:∀ o,h1.get? e = some o → h2.get? e = some o):XN e C d h2:=let ⟨t1,a⟩:=x; ⟨t1,k _ a⟩
theorem zSV {e:Addr} {C:Value} {d:Option Addr} (h1 h2:Heap) (x:XO e C d h1) (k:∀ o,h1.get? e = some o → h2.get? e = some o):XO e C d h2:=let ⟨oe,vs,a,r⟩:=x; ⟨oe,vs,k _ a,r⟩
theorem zTZ {P:Program} {w:World} {H:Hp} {h:Heap} {e:Addr} {C:Value} {d:Option Addr} (x:XN e C d h):ObjOk P w H h e (xn e C d):=⟨x,let ⟨t1,a⟩:=x; ⟨_,a⟩,zSW⟩
theorem zY5 {P:Program} {w:World} {H:Hp} {h:Heap} {e:Addr} {C:Value} {d:Option Addr} (x:XO e C d h):ObjOk P w H h e (xo e C d):=⟨x,let ⟨oe,vs,a,_⟩:=x; ⟨_,a⟩,zSV⟩
section
variable {X:Cx} {pins:List (Addr × Obj)} {σ:St} {H:Hp} {s:Shared} {k:Nat} {f C:Addr} {fd:FuncData} {ps:List Str} {sp:Sp} {x:Str} {p pos:Pos} {e:Expr} {es:List Expr} {t:TA} {te:TE}
def zLN (C:Addr) (sp:Sp) (E:XK) (t:TA):TE:=fun σ H Q=>t σ H fun vs H1=>vs.length ≤ sizeLine ∧ ∀ e,H1 e = none → sp (.ref e :: vs) (upd H1 e (xn e (.ref C) none)) (fun v H2=>v = .non ∧ Q (.ref e) H2) E
theorem Inv.madeX {h':Heap} {e:Addr} {us:List Value} (I:Inv X pins σ H s) (m:Heap.MadeExcOf s.heap h' e (.ref C) us) (hs:s.heap.objs.size ≤ e):H e = none ∧ Inv X pins σ (upd H e (xn e (.ref C) none)) { s with heap:=h' }:=by
  obtain ⟨t1,h1,_⟩:=m.there
  exact ⟨I.hok.fresh hs,I.laid (t':=s.toks) m.keeps hs (zTZ ⟨t1,h1⟩)⟩
theorem zNR {Q:VK} {E:XK} {us:List Value} {vs:List V} (hc:PySem.W.xcIn X.K C = true) (hi:qA8 X.K (.ref C) "__init__" = some (some (.ref f))) (hf:qCy X.K (.ref f) = true) (F:FnOk X.prog X.w X.K X.mg X.base (CXe X.prog X.w) k f fd ps sp)
    (hr:Room (k + 1) X.A) (hb:Binds X.K fd ps []) (hx:zHT (CXe X.prog X.w) X E) (I:Inv X pins σ H s) (r:Vals vs us) (hz:vs.length ≤ sizeLine)
    (h:∀ e,H e = none → sp (.ref e :: vs) (upd H e (xn e (.ref C) none)) (fun v H2=>v = .non ∧ Q (.ref e) H2) E) :
    wpAny (model X.prog X.w) X.A (call (.ref C) us) (EP X pins σ Q) X.xe s:=by
  obtain ⟨nm,qn,N,bs,bm,hdct,sn,sub,ab,col,dd,k0,k1,k2,k3,k5,hC,ht⟩:=PySem.W.xc_cls I.kIn hc
  obtain ⟨oI,hfI,hfc⟩:∃ oI,s.heap.get? f = some oI ∧ oI.cls = .type "function":=by
    have hf':=beq_iff_eq.mp hf
    obtain ⟨o,ho,h2⟩:=qBg.mp (show (X.K.lookup f).map (·.cls) = some (.type "function") from hf')
    exact ⟨o,I.kIn _ _ ho,h2⟩
  have hC':s.heap.get? C = some (excClassObj nm qn C N bs bm hdct sn sub ab col dd k0 k1 k2 k3 k5 "ValueError.__new__"):=hC
  have hus:us.length ≤ sizeLine:=by rw [← r.length]; exact hz
  have key:∀ h' e,Heap.MadeExcOf s.heap h' e (.ref C) us → s.heap.objs.size ≤ e → wpAny (model X.prog X.w) (X.A.under (.builtin "type.__call__" ⟨.ref C :: us,[]⟩)) (call (.ref f) (.ref e :: us)) (fun r s'=>r = .none ∧ EP X pins σ Q (.ref e) s') X.xe { s with heap:=h' }:=by
    intro h' e m hs
    obtain ⟨he,I2⟩:=I.madeX m hs
    have hq:=h e he
    have r2:Vals (V.ref e :: vs) (Value.ref e :: us):=.cons rfl r
    have hl:(Value.ref e :: us ++ []).length = ps.length:=by
      rw [qCp,← r2.length]
      exact F.len _ _ _ _ hq
    have hbb:=hb _ (Value.ref e :: us) I2.kIn hl
    rw [qCp] at hbb
    refine wpAny_call (codeAny_mono (F.run _ X.stack _ _ ⟨Value.ref e :: us,[]⟩ (Value.ref e :: us) _ _ E (hr.make C us []) (I2.env0.make C us []) hbb r2 hq) fun r s' hq'=>?_)
    cases r with
    | error x=>exact hx pins σ _ _ x s' I2 hq'
    | ok fl =>
      cases fl with
      | ret u =>
        obtain ⟨v,H',I3,rv,ev,q3⟩:=I2.after hq'
        subst ev
        exact ⟨rv,⟨V.ref e,H',I3,rfl,q3⟩⟩
      | next=>exact qAf hq'
      | brk=>exact qAf hq'
      | cont=>exact qAf hq'
  have hK:=PySem.W.looks_findIn (M:=model X.prog X.w) I.kIn hi
  obtain ⟨hh,g,d,tk,os⟩:=s
  exact Xc.call_initX qDd (PySem.W.exc_con ht (by decide)) (PySem.W.exc_con ht (by decide)) (PySem.W.exc_con ht (by decide)) hC' hK hfI hfc key hus
theorem zQC {E:XK} (hc:PySem.W.xcIn X.K C = true) (hi:qA8 X.K (.ref C) "__init__" = some (some (.ref f))) (hf:qCy X.K (.ref f) = true) (F:FnOk X.prog X.w X.K X.mg X.base (CXe X.prog X.w) k f fd ps sp)
    (hr:Room (k + 1) X.A) (hb:Binds X.K fd ps []) (hx:zHT (CXe X.prog X.w) X E) (hg:Gl X x) (hm:X.mg x = some (.ref C)) (hk:qAv X.K (.ref C) = true)
    (ha:PA X (e :: es) t) (hdb:(x == ("__debug__":Str)) = false:=by decide) (he:starEach (e :: es) X.env = (false,eval e X.env) :: starEach es X.env:=by rfl) (hpl:(backTo pos (starEach es X.env)).any (·.1) = false:=by rfl) :
    PE X (.Call (.Name x p) (e :: es) [] pos) (zLN C sp E t):=by
  intro pins s σ H Q I h
  refine wpAny_Call_Name_kw (zEC I hg hm ?_ hdb)
  refine qDg (h₀:=X.base) I.ok.mod.kin hk (thn (ha pos pins s σ H _ I h) fun us s1 ⟨vs,H1,I1,r,z,q⟩=>⟨I1.kIn,?_⟩) he hpl
  exact zNR hc hi hf F hr hb hx I1 r z q
theorem zPR {e:Addr} {o:HO} (h:H e = some o):upd H e o = H:=by
  funext b
  unfold upd
  split
  · rename_i z; rw [z]; exact h.symm
  · rfl
theorem Inv.xn {e:Addr} {d:Option Addr} {Cv:Value} (I:Inv X pins σ H s) (h:H e = some (xn e Cv d)):XN e Cv d s.heap:=(I.hok e _ h).1
theorem XN.xo {h:Heap} {e:Addr} {d:Option Addr} {Cv:Value} (x:XN e Cv d h):XO e Cv d h:=let ⟨t1,a⟩:=x; ⟨_,_,a,rfl,rfl,rfl,by simp⟩
theorem Inv.raised {e:Addr} {d:Option Addr} (I:Inv X pins σ H s) (h:H e = some (L2.xn e (.ref C) d)) (E:XK) (q:E (.ref e) d (upd H e (xo e (.ref C) d))):XP X pins σ E (.ref e) s:=by
  have x:=I.xn h
  obtain ⟨t1,a⟩:=id x
  have I':Inv X pins σ (upd H e (xo e (.ref C) d)) s:=I.write (t':=s.toks) (h':=s.heap) (e:=e) (by rw [h]; trivial) (.inl rfl) (fun _ _ _ q=>q) ⟨_,a⟩ (zY5 x.xo)
  exact ⟨s.heap.objs.size,e,.ref C,d,_,rfl,I',⟨zAH,.inl ⟨_,_,a,rfl,rfl,rfl,rfl⟩⟩,I.sz,qA7 _,I.pinlt,q⟩
def Flies (X:Cx) (E:XK):Prop:=∀ (pins:List (Addr × Obj)) (σ:St) (x:Value) (s':Shared),XP X pins σ E x s' → X.xe x s'
theorem Flies.passes {E:XK} (h:Flies X E):zHT (CXe X.prog X.w) X E:=fun pins σ H s x s' I q=>h pins σ x s' (I.flown q)
def zNJ (K:qA1) (E:XK) (te:TE):TS:=fun _ σ H=>te σ H fun v H1=>∃ e C d,v = .ref e ∧ H1 e = some (L2.xn e (.ref C) d) ∧ PySem.W.xcIn K C = true ∧ E (.ref e) d (upd H1 e (xo e (.ref C) d))
theorem zLT {E:XK} (he:PE X e te) (hf:Flies X E) (hc:X.calm = true):PS X (.Raise (some e) none pos) (zNJ X.K E te):=by
  intro pins s σ H D I h
  refine Xc.RaiseX (I.ok.hd hc) (thn (he pins s σ H _ I h) fun v s1 ⟨y,H1,I1,ry,a,C,d,ey,ha,hx,q⟩=>?_)
  subst ey
  cases ry
  obtain ⟨t1,hg⟩:=I1.xn ha
  obtain ⟨nm,qn,N,bs,bm,hdct,sn,sub,ab,col,dd,k0,k1,k2,k3,k5,hC,ht⟩:=PySem.W.xc_cls I1.kIn hx
  exact ⟨a,t1,d,nm,qn,C,N,bs,bm,hdct,sn,sub,ab,col,dd,k0,k1,k2,k3,k5,_,rfl,hC,PySem.W.exc_con ht (by decide),hg,hf pins σ _ _ (I1.raised ha E q)⟩
def zRO (K:qA1) (t:TA):TE:=fun σ H Q=>t σ H fun vs H1=>∃ e C d rest,vs = .ref e :: rest ∧ H1 e = some (L2.xn e (.ref C) d) ∧ PySem.W.xcIn K C = true ∧ rest.length ≤ sizeLine ∧ Q .non H1
structure XBase (K:qA1) (B:Addr):Prop where
  ga:qBs K (.ref B) "__getattribute__" = some (some (.builtin "type.__getattribute__"))
  rd:qFa K B (.type "type") = true
  fd:qFb K (.ref B) (.type "type") "__init__" = some (.val (.builtin "ValueError.__init__"))
  hi:qDx (.builtin "ValueError.__init__") = true
theorem zQD {B:Addr} {apos:Pos} {pl:Sem Bool} (hB:XBase X.K B) (hg:Gl X x) (hm:X.mg x = some (.ref B)) (ha:PA X (e :: es) t) (hdb:(x == ("__debug__":Str)) = false:=by decide)
    (he:starEach (e :: es) X.env = (false,eval e X.env) :: starEach es X.env:=by rfl) (hpl:(backTo pos (starEach es X.env)).any (·.1) = false:=by rfl)
    (ht:eval (.Call (.Attribute (.Name x p) "__init__" apos) (e :: es) [] pos) X.env = (do
      let ov ← eval (.Name x p) X.env
      standAt apos.atName
      let (f,first) ← holding [ov] (getMethod ov "__init__" pl)
      callWith pos f first (backTo pos (starEach (e :: es) X.env)) (backToKw pos (keywordEach [] X.env))):=by rfl) :
    PE X (.Call (.Attribute (.Name x p) "__init__" apos) (e :: es) [] pos) (zRO X.K t):=by
  intro pins s σ H Q I h
  refine PySem.W.methodCall_KW (pl:=pl) (zEC I hg hm ?_ hdb) ht
  refine PySem.W.method_cls I.kIn hB.ga (PySem.W.cls_value I.kIn hB.rd hB.fd hB.hi ?_)
  have I':=I.tok (s.toks + 1)
  refine qD0 (thn (ha pos pins _ σ H _ I' h) fun us s1 ⟨vs,H1,I1,r1,a,C,d,rest,ev,ea,hx,hz,q⟩=>?_) he hpl
  subst ev
  cases r1 with
  | cons ru r2 =>
    cases ru
    obtain ⟨t1,hg1⟩:=I1.xn ea
    obtain ⟨nm,qn,N,bs,bm,hdct,sn,sub,ab,col,dd,k0,k1,k2,k3,k5,hC,htl⟩:=PySem.W.xc_cls I1.kIn hx
    have hus:=r2.length
    obtain ⟨hh,g,dr,tk,os⟩:=s1
    refine Xc.call_baseX qDd (PySem.W.exc_con htl (by decide)) hC hg1 (fun h' t0 k1 k2=>?_) (by rw [← hus]; exact hz)
    have I2:Inv X pins σ (upd H1 a (L2.xn a (.ref C) d)) { heap:=h',gens:=g,drawn:=dr,toks:=tk,os:=os } :=
      I1.write (h':=h') (t':=tk) (e:=a) (by rw [ea]; trivial) (.inl rfl) (fun b u hb e=>k1 b u hb e) ⟨_,k2⟩ (zTZ ⟨t0,k2⟩)
    rw [zPR ea] at I2
    exact ⟨.non,H1,I2,rfl,q⟩
structure XSet (K:qA1) (C:Addr) (f:Str):Prop where
  st:qA8 K (.ref C) "__setattr__" = some (some (.builtin "object.__setattr__"))
  ov:PySem.W.excOver K C = true
  tk:qFc K C f = some none
  hd:(qB5 K C).any (·.hasDict) = true
def zRR (K:qA1) (ta tv:TE) (f:Str):TS:=fun D σ H=>tv σ H fun y H1=>ta σ H1 fun x H2=>∃ e C,x = .ref e ∧ H2 e = some (L2.xn e (.ref C) none) ∧ XSet K C f ∧
  ∀ d,H2 d = none → d ≠ e → D.nx σ (upd (upd H2 d (.xd [(f,y)])) e (L2.xn e (.ref C) (some d)))
theorem zQ9 {o value:Expr} {f:Str} {pos':Pos} {ta tv:TE} (ha:PE X o ta) (hv:PE X value tv) (hs:swapsWith value (some (.Attribute o f pos')) pos.line X.env = pure false):PS X (.Assign [.Attribute o f pos'] value pos) (zRR X.K ta tv f):=by
  intro pins s σ H D I h
  refine plainObj_wpAny_Assign_Attribute (thn (hv pins s σ H _ I h) fun u s1 ⟨y,H1,I1,ry,q⟩=>thn (ha pins s1 σ H1 _ I1 q) fun ov s2 ⟨x,H2,I2,rx,a,C,ex,ea,c,q2⟩=>?_) hs
  subst ex
  obtain rfl:ov = Value.ref a:=rx
  obtain ⟨t1,hg1⟩:=I2.xn ea
  refine PySem.W.set_exc I2.kIn hg1 c.st c.ov c.tk c.hd fun h' tk' n1 g2 k2=>?_
  have hdn:H2 s2.heap.objs.size = none:=I2.hok.fresh (qA7 _)
  have hne:s2.heap.objs.size ≠ a:=fun z=>by rw [z,ea] at hdn; cases hdn
  refine ⟨σ,_,?_,q2 s2.heap.objs.size hdn hne⟩
  have nb:∀ b,H2 b = none → b ≠ a:=fun b hb z=>by rw [z,ea] at hb; cases hb
  have ndx:∀ b o,s2.heap.get? b = some o → b ≠ s2.heap.objs.size:=fun b o e=>qAn (Heap.lt_size e)
  have oth:∀ b,b ≠ a → b ≠ s2.heap.objs.size → upd (upd H2 s2.heap.objs.size (.xd [(f,y)])) a (L2.xn a (.ref C) (some s2.heap.objs.size)) b = H2 b:=fun b h1 h2=>by rw [zAG h1,zAG h2]
  have tr:∀ {b:Addr} {o:HO},H2 b = some o → (∀ φ,o ≠ .ext φ) → upd (upd H2 s2.heap.objs.size (.xd [(f,y)])) a (L2.xn a (.ref C) (some s2.heap.objs.size)) b = some o:=fun {b o} hb hn=>by
    rw [oth b (fun z=>by rw [z,ea] at hb; cases hb; exact hn _ rfl) (fun z=>by rw [z,hdn] at hb; cases hb)]; exact hb
  refine I2.un (h':=h') (t':=tk') ⟨fun b o e n _ _=>k2 b o (nb b n) e,fun b o e n _ _=>⟨o.slots,k2 b o (nb b n) e⟩,fun b o e n _=>by rw [oth b (nb b n) (ndx b o e)]; exact n,fun b o e _=>?_,fun b xs e=>tr e fun _ z=>(by cases z),fun b o u e=>tr e fun _ z=>(by cases z),fun b ps e=>⟨#[],by rw [Array.append_empty]; exact tr e fun _ z=>(by cases z)⟩⟩ fun b u e=>?_
  · by_cases z:b = a
    · rw [z]; exact ⟨_,g2⟩
    · exact ⟨o,k2 b o z e⟩
  · by_cases z:b = a
    · subst z
      rw [zAH] at e
      cases e
      exact zTZ ⟨t1,g2⟩
    · rw [zAG z] at e
      by_cases z':b = s2.heap.objs.size
      · subst z'
        rw [zAH] at e
        cases e
        refine ⟨_,n1,fun g=>?_⟩
        by_cases hgf:g = f
        · subst hgf
          simp [qDb,RelO]
          exact ry
        · have hb:(g == f) = false:=beq_eq_false_iff_ne.mpr hgf
          simp [qDb,hb,hgf,RelO]
      · rw [zAG z'] at e
        refine (I2.hok b u e).stay (fun c w hc q=>k2 c w ?_ q) (fun c q=>?_) fun c xs q=>tr q fun _ z=>(by cases z)
        · rcases hc with rfl | hc
          · exact z
          · intro y; rw [y,ea] at hc; cases hc
        · exact tr q fun _ z=>(by cases z)
end
end L2
namespace PySem.Xc
open PySem PySem.W
section
variable {prog:Program} {w:World} {A:Around} {E:Value → Shared → Prop} {K:Frag} {x C:Addr} {ox:Obj} {od:Option Obj} {name:Str} {expr fill:Bool} {h:Heap} {g:Array GenState} {d:Drawn} {t:Nat} {os:OsState}
theorem zN2 {Q:Option Value → Shared → Prop} (X:K.In h) (I:InstAt h x ox C od) (hc:xcIn K C = true) (hga:findIn K (.ref C) "__getattribute__" = some (some (.builtin "BaseException.__getattribute__"))) (hgg:findIn K (.ref C) "__getattr__" = some none)
    (hf:findObj K C od "__class__" = some (.bind (.builtin "getset_descriptor.__get__") (.builtin "object.__class__"))) (hm:mroIn K C (.type "object") = some true) (hq:Q (some (.ref C)) ⟨h,g,d,t + 1,os⟩):wpAny (model prog w) A (getAttr? (.ref x) "__class__") Q E ⟨h,g,d,t,os⟩:=by
  have f3:=F.excAttr_ValueError.ga.bind (.ref x)
  have hx2:(Value.builtin "BaseException.__getattribute__" == Value.builtin "object.__getattribute__") = false:=by decide +kernel
  have hx1:(onTheHeap (Value.ref C) && Value.builtin "BaseException.__getattribute__" == Value.builtin "object.__getattribute__") = false:=by rw [hx2]; rfl
  have L0:=I.type (M:=model prog w)
  have L1:=looks_findIn (M:=model prog w) X hga
  have L2:=looks_findIn (M:=model prog w) X hgg
  have hx:=I.at_
  have hcl:=I.cls
  unfold getAttr?
  repeat (any_goals (first | assumption | (with_reducible refine wpAny_loadPart_at hx ?_; rw [hcl]) | with_reducible refine L1.at ?_ | with_reducible refine L2.at ?_ | wp_step))
  refine codeAny_call_builtin F.excAttr_ValueError.ga.plain F.entry_bexc_ga (zK9 (h:=h) X hc I ?_)
  have L3:=looks_find (M:=model prog w) X I hf
  unfold Builtin.«object.__getattribute__»
  refine wpAny_bind (wpAny_pure (wpAny_bind (wpAny_pure (wpAny_bind (L0.at (wpAny_bind (L3.at ?_)))))))
  show wpAny _ _ (Builtin.ObjectAttr.bindTo (.builtin "getset_descriptor.__get__") (.builtin "object.__class__") (.ref x) (.ref C)) _ _ _
  unfold Builtin.ObjectAttr.bindTo
  refine wpAny_bind (wpAny_holding (wpAny_call (class_get (s:=⟨h,g,d,t + 1,os⟩) (ox:=ox) (od:=od) X I hm ?_)))
  exact wpAny_pure (handed_on rfl (wpAny_pure hq))
theorem zIN {a g:Value} (hc:(clsIn K C).isSome = true) (ha:findIn K (.ref C) name = some (some a)) (hg:specialIn K a "__get__" = some (some g)) (ht:takesIn K a = some true):findObj K C od name = some (.bind g a):=by
  obtain ⟨cd,hc⟩:=qBt.mp hc
  unfold findObj
  rw [hc,qD5,ha,qD5]
  simp only [hg,qD5,ht]
end
structure XIs (K:Frag) (C:Addr):Prop where
  xc:xcIn K C = true
  ga:findIn K (.ref C) "__getattribute__" = some (some (.builtin "BaseException.__getattribute__"))
  gg:findIn K (.ref C) "__getattr__" = some none
  hd:hasDictIn K C = true
  ca:findIn K (.ref C) "__class__" = some (some (.builtin "object.__class__"))
  cg:specialIn K (.builtin "object.__class__") "__get__" = some (some (.builtin "getset_descriptor.__get__"))
  ct:takesIn K (.builtin "object.__class__") = some true
  mo:mroIn K C (.type "object") = some true
theorem kitx_exc {K:Frag} {x C:Addr} (c:XIs K C):KitX K (.ref x) (.ref C) (fun h=>∃ ox od,InstAt h x ox C od) where
  ty:=fun _ _ _ ⟨_,_,I⟩=>I.type
  it:=fun _ _ X _=>by
    obtain ⟨cdD,hcD,_⟩:=any_some c.hd
    unfold clsIn at hcD
    split at hcD
    · rename_i c' d' cd' sl' ho
      intro A' Q' E' s' k q
      unfold isType loadHead
      exact wpAny_bind (wpAny_loadPart (k _ _ (X _ _ ho)) (wpAny_pure q))
    · cases hcD
  ne:=fun h tp dd its n sl X htp=>by
    obtain ⟨cdD,hcD,_⟩:=any_some c.hd
    refine Bool.eq_false_iff.mpr fun q=>?_
    have e:C = tp:=Value.ref.inj (beq_iff_eq.mp q)
    subst e
    unfold clsIn at hcD
    split at hcD
    · rename_i c' d' cd' sl' ho
      have z:=(X _ _ ho).symm.trans htp
      cases z
    · cases hcD
  ca:=fun {_ _ _ _ _ s} X ⟨_,_,I⟩ k=>by
    obtain ⟨cd,hc,_⟩:=any_some c.hd
    obtain ⟨h,g,d,t,os⟩:=s
    exact zN2 X I c.xc c.ga c.gg (zIN (by rw [hc]; rfl) c.ca c.cg c.ct) c.mo k
end PySem.Xc
namespace L2
open PySem PySem.Spec PyProof.Rows
section
variable {X:Cx} {pins:List (Addr × Obj)} {σ:St} {H:Hp} {s:Shared} {C e d:Addr} {f:Str} {pos:Pos} {ta:TE}
def isX (H:Hp) (e C:Addr) (d:Option Addr):Prop:=H e = some (xn e (.ref C) d) ∨ H e = some (xo e (.ref C) d)
theorem Inv.isX {d:Option Addr} (I:Inv X pins σ H s) (h:L2.isX H e C d):XO e (.ref C) d s.heap:=by
  rcases h with h | h
  · exact (I.xn h).xo
  · exact (I.hok e _ h).1
theorem Inv.instX0 {d:Option Addr} (I:Inv X pins σ H s) (h:L2.isX H e C d) (hd:∀ a,d = some a → ∃ fs,H a = some (.xd fs)):∃ ox od,qEg s.heap e ox C od:=by
  obtain ⟨oe,vs,h1,h2,h3,h4,_⟩:=I.isX h
  have nc:qDn oe = true:=by unfold qDn; rw [h4]
  cases d with
  | none=>exact ⟨oe,none,h1,h2,nc,by rw [h3]; trivial⟩
  | some a =>
    obtain ⟨fs,ha⟩:=hd a rfl
    obtain ⟨mA,hn,_⟩:=I.hok a _ ha
    obtain ⟨od,ho,_⟩:=zGA hn
    exact ⟨oe,some od,h1,h2,nc,by rw [h3]; exact ho⟩
noncomputable def zRP (K:qA1) (ta:TE) (f:Str):TE:=fun σ H Q=>ta σ H fun x H1=>∃ e C d fs v,x = .ref e ∧ L2.isX H1 e C (some d) ∧ H1 d = some (.xd fs) ∧ Xc.XIs K C ∧ qA8 K (.ref C) f = some none ∧ fs.lookup f = some v ∧ Q v H1
theorem zLW {ex:Expr} (he:PE X ex ta) (hb:attributeBase ex f X.env (eval ex X.env) = eval ex X.env):PE X (.Attribute ex f pos) (zRP X.K ta f):=by
  intro pins s σ H Q I h
  refine zUU hb (thn (he pins s σ H _ I h) fun u s1 ⟨x,H1,I1,rx,a,C,d,fs,v,ex,ea,hd,c,hf,l,q⟩=>?_)
  subst ex
  obtain rfl:u = Value.ref a:=rx
  obtain ⟨oe,vs,h1,h2,h3,h4,_⟩:=I1.isX ea
  have nc:qDn oe = true:=by unfold qDn; rw [h4]
  obtain ⟨mA,hn,r⟩:=I1.hok d _ hd
  obtain ⟨od,ho,hl⟩:=zGA hn
  obtain ⟨u,hu,ru⟩:=RelO.some_of (v:=v) (o:=mA f) (by rw [← l]; exact r f)
  have J:qEg s1.heap a oe C (some od):=⟨h1,h2,nc,by rw [h3]; exact ho⟩
  have I2:=I1.tok (s1.toks + 1)
  have K1:=I1.kIn
  obtain ⟨hh,g,dr,tk,os⟩:=s1
  exact Xc.get_excX K1 J c.xc c.ga c.gg (PySem.W.findObj_own c.hd hf rfl (by rw [hl,hu])) (zOS ru) ⟨v,H1,I2,ru,q⟩
noncomputable def clsV:List V → Option (List Value)
  | []=>some []
  | .ref a :: r=>(clsV r).map (Value.ref a :: ·)
  | .ty n :: r=>(clsV r).map (Value.type n :: ·)
  | _ :: _=>none
theorem zLD:∀ {xs:List V} {its us:List Value},clsV xs = some its → Vals xs us → us = its
  | [],_,_,h,.nil=>by cases h; rfl
  | .ref a :: r,its,_,h,.cons q t=>by
    obtain ⟨l,hl,rfl⟩:=qBg.mp (show (clsV r).map (Value.ref a :: ·) = some its from h)
    rw [zLD hl t]
    cases q
    rfl
  | .ty n :: r,its,_,h,.cons q t=>by
    obtain ⟨l,hl,rfl⟩:=qBg.mp (show (clsV r).map (Value.type n :: ·) = some its from h)
    rw [zLD hl t]
    cases q
    rfl
def zNX (K:qA1):List V → Hp → VK → Prop:=fun vs H Q=>∃ e C d y b,vs = [.ref e,y] ∧ L2.isX H e C d ∧ (∀ a,d = some a → ∃ fs,H a = some (.xd fs)) ∧ Xc.XIs K C ∧ Q (.bl b) H ∧
  ((∃ c,y = .ref c ∧ qB0 K (.ref C) (.ref c) = some b) ∨ (∃ n,y = .ty n ∧ qB0 K (.ref C) (.type n) = some b) ∨ ∃ p xs its,y = .ref p ∧ H p = some (.tup xs) ∧ clsV xs = some its ∧ qAw K (.ref C) its = some b)
theorem zGN:zCK X (.builtin "isinstance") (zNX X.K):=by
  intro pins s σ H vs us Q I r h
  obtain ⟨e,C,d,y,b,rfl,hx,hd,c,q,hy⟩:=h
  cases r with
  | cons r1 r2 =>
    cases r2 with
    | cons ry r3 =>
      cases r3
      cases r1
      have P:=I.instX0 hx hd
      rcases hy with ⟨c',rfl,hk⟩ | ⟨n,rfl,hk⟩ | ⟨p,xs,its,rfl,hp,rv,hk⟩
      · cases ry
        exact qAz (Xc.kitx_exc c) I.kIn P hk (fun z=>nomatch z) fun tk=>⟨.bl b,H,I.tok tk,rfl,q⟩
      · cases ry
        exact qAz (Xc.kitx_exc c) I.kIn P hk (fun z=>nomatch z) fun tk=>⟨.bl b,H,I.tok tk,rfl,q⟩
      · cases ry
        obtain ⟨_,us',r',ob,h1,h2,n,h3⟩:=I.hok p _ hp
        obtain ⟨oc,od,odt,osl⟩:=ob
        dsimp only at h2 h3
        subst h2 h3
        rw [zLD rv r'] at h1
        exact PySem.W.kia_tup (Xc.kitx_exc c) I.kIn P h1 hk (fun z=>nomatch z) fun tk=>⟨.bl b,H,I.tok tk,rfl,q⟩
end
end L2
namespace L2
open PySem PySem.Spec PyProof.Rows
def HasX (P:Program) (w:World) (K:qA1) (mg:Str → Option Value) (base:Heap) (x:Str) (k:Nat) (ps:List Str) (sp:Sp):Prop :=
  ∃ f fd,FnOk P w K mg base (CXe P w) k f fd ps sp ∧ mg x = some (.ref f) ∧ qAv K (.ref f) = true ∧ Binds K fd ps []
section
variable {P:Program} {w:World} {K:qA1} {mg:Str → Option Value} {base:Heap} {x:Str} {k:Nat} {ps N:List Str} {sp sp':Sp} {st:Stmt}
theorem Fun.okX {y qual:Str} {f:Addr} {fd:FuncData} (F:Fun K y qual st f fd) (S:FnScope N ps (zA7 st)) (len:∀ vs H Q E,sp vs H Q E → vs.length = ps.length)
    (hbody:∀ (cdv:Value) (A:Around) (outer:List Env) (s:Shared) (H:Hp) (vs:List V) (Q:VK) (E:XK),Room k (A.deeper (envOfC qual (zA7 st) s.heap.objs.size f cdv)) → sp vs H Q E →
      ∃ t,PSs (cxOf (CXe P w) P w K mg base N qual (zA7 st) f cdv A outer s H E) (zBA st) t ∧ t { nx:=fun _ H'=>Q .non H',rt:=Q } (start N vs) H):FnOk P w K mg base (CXe P w) (k + 1) f fd ps sp:=by
  obtain ⟨oc,od,kV,doc,pm,an,cdv,ct,osl,rfl,lk,hcd⟩:=F.ex
  exact zX4 lk hcd S len fun A outer s H vs Q E hr hsp=>hbody cdv A outer s H vs Q E hr hsp
theorem Def.okX (D:Def K mg x st) (S:FnScope N ps (zA7 st))
    (hb:∀ (kV doc pm:Value) (an:Option Addr) (cdv ct:Value) (us:List Value),us.length = ps.length → bindArgs (qB7 x x (zC7 st) (zBA st) (zA7 st) .none kV doc pm an cdv ct) ⟨us,[]⟩ = pure (ps.zip us))
    (len:∀ vs H Q E,sp vs H Q E → vs.length = ps.length)
    (hbody:∀ (f:Addr) (cdv:Value) (A:Around) (outer:List Env) (s:Shared) (H:Hp) (vs:List V) (Q:VK) (E:XK),Room k (A.deeper (envOfC x (zA7 st) s.heap.objs.size f cdv)) → sp vs H Q E →
      ∃ t,PSs (cxOf (CXe P w) P w K mg base N x (zA7 st) f cdv A outer s H E) (zBA st) t ∧ t { nx:=fun _ H'=>Q .non H',rt:=Q } (start N vs) H):HasX P w K mg base x (k + 1) ps sp:=by
  obtain ⟨f,fd,F,m⟩:=D
  exact ⟨f,fd,F.okX S len (fun cdv A outer s H vs Q E hr h=>hbody f cdv A outer s H vs Q E hr h),m,F.kp,F.binds hb⟩
theorem zEO {qual:Str} {scope:Scope} {f:Addr} {cd:Value} {A:Around} {outer:List Env} {s:Shared} {H:Hp} {E:XK}:Flies (cxOf (CXe P w) P w K mg base N qual scope f cd A outer s H E) E:=fun _ _ _ _ h=>zUZ (fun _ _ _ z=>z) h
end
section
variable {X:Cx} {x:Str} {j k:Nat} {ps:List Str} {sp:Sp} {e:Expr} {es:List Expr} {t:TA} {p pos:Pos} {E:XK}
theorem zX5:Flies X E0:=fun _ _ _ _ ⟨_,_,_,_,_,_,_,_,_,_,_,h⟩=>h.elim
theorem zWA (h:HasX X.prog X.w X.K X.mg X.base x j ps sp) (hjk:j ≤ k) (hr:Room k X.A) (hf:Flies X E) (hg:Gl X x) (ha:PA X (e :: es) t) (hdb:(x == ("__debug__":Str)) = false:=by decide)
    (he:starEach (e :: es) X.env = (false,eval e X.env) :: starEach es X.env:=by rfl) (hpl:(backTo pos (starEach es X.env)).any (·.1) = false:=by rfl):PE X (.Call (.Name x p) (e :: es) [] pos) (zGV sp [] E t):=by
  obtain ⟨f,fd,G,m,kp,b⟩:=h
  exact zO6 G (hr.mono hjk) hg m kp b .nil hf.passes ha hdb he hpl
theorem zW9 (h:HasX X.prog X.w X.K X.mg X.base x j ps sp) (hjk:j ≤ k) (hr:Room k X.A) (hg:Gl X x) (ha:PA X.nox (e :: es) t) (hdb:(x == ("__debug__":Str)) = false:=by decide)
    (he:starEach (e :: es) X.env = (false,eval e X.env) :: starEach es X.env:=by rfl) (hpl:(backTo pos (starEach es X.env)).any (·.1) = false:=by rfl):PEx X (.Call (.Name x p) (e :: es) [] pos) (fun σ H Q E=>zGV sp [] E t σ H Q):=by
  obtain ⟨f,fd,G,m,kp,b⟩:=h
  exact zQA G (hr.mono hjk) hg m kp b .nil ha hdb he hpl
theorem zJH {C:Addr} (hg:Gl X x) (hm:X.mg x = some (.ref C)) (hdb:(x == ("__debug__":Str)) = false:=by decide):PE X (.Name x pos) (tC (.ref C)):=fun pins s σ H Q I h=>zEC I hg hm ⟨.ref C,H,I,rfl,h⟩ hdb
end
end L2
namespace Att
open PySem PySem.W PySem.Calls PyProof.Rows
theorem zT2 {ns:List Int} (h:WData.weightAll (ns.map WData.int) ≤ 2 ^ 20):∀ i ∈ ns,i.natAbs.log2 < 2 ^ 20:=by
  induction ns with
  | nil=>intro i hi; cases hi
  | cons n r ih =>
    rw [qAp,WData.weightAll] at h
    intro i hi
    rcases qA9.mp hi with rfl | hi
    · rw [WData.weight] at h
      split at h
      · rename_i z
        have:i = 0:=beq_iff_eq.mp z
        subst this
        decide
      · omega
    · exact ih (by omega) i hi
theorem attach_callW {l:OpenLaw} {n:Nat} {q:Program} {loose:List Str} {XP:(Str → Option Value) → Heap → Prop} {YP:World → Heap → Prop} {d:DefRec}
    (hn:l.most = some n) (hdf:d.params.defaults = [])
    (call:∀ (w:World) (s₀ s₁:Shared) (mg mb:Str → Option Value) (fa:Addr) (o:Obj) (pm cd doc:Value) (a:Addr) (vs:List Value) (ns:List Int),
      Ground q loose [] XP w s₀ mg mb s₁.heap → YP w s₁.heap →
      s₁.heap.get? fa = some o → o.data = .func (docDef d.name d.params d.body d.scope pm cd doc) → s₁.heap.CodeRec cd d.name → mg d.name = some (.ref fa) →
      s₁.heap.get? a = some { cls:=.type "list",data:=.seq vs.toArray } → IntsAre vs ns → ns.length ≤ n → (∀ i ∈ ns,i.natAbs.log2 < 2 ^ 20) → s₁.gens = #[] →
      codeAny (model l.prog w) callerA (.call (.ref fa) ⟨[.ref a],[]⟩) (fun r s'=>r = .ok (.ret (.bool true)) ∧ OldK s₁.heap s'.heap ∧ s'.os = s₁.os ∧ AllBare s'.gens) s₁) :
    WalkO q loose XP YP l.row.toRowW d [] (fun f vs=>qG5 f vs):=by
  intro w s₀ s₁ mg mb G Y fa o pm cd doc dV kV ho hd hcd hD hmg hg args vals as hpre hlay hrd hwl hlo
  obtain rfl:dV = .none:=Dflts.none hD hdf
  obtain rfl:kV = .none:=Dflts.noKw hD
  obtain ⟨a,vs,ns,rfl,rfl,hobj,hints,hlen⟩:=zNQ hn hpre hwl
  have hw:∀ i ∈ ns,i.natAbs.log2 < 2 ^ 20:=by
    have hl:WData.layableAll [WData.list (ns.map WData.int)] = true:=hlay
    simp only [WData.layableAll,qCq,List.all_nil,qDr,WData.layable,qBk,decide_eq_true_eq] at hl
    exact zT2 (by have:=hl.2; rw [WData.weight] at this; exact this)
  refine enter_call (codeAny_mono (call w s₀ s₁ mg mb fa o pm cd doc a vs ns G Y ho (fd_plain hd) hcd hmg hobj hints hlen hw hg) fun r s' hq=>?_)
  obtain ⟨rfl,h2,h3,h4⟩:=hq
  exact ⟨.inl ⟨.bool true,.bool true,[],rfl,fun _=>rfl,.bool true,zO1 l _,fun _=>⟨qEr,fun _ hm=>(nomatch hm)⟩⟩,h2,h3,h4⟩
end Att
namespace L2
open PySem PySem.Spec PyProof.Rows
theorem walk_ofW {l:qEc} {n k:Nat} {q:Program} {loose:List Str} {XP:(Str → Option Value) → Heap → Prop} {YP:World → Heap → Prop} {d:DefRec} {K:Params → qA1} {CX:World → CXT} {sp:World → Sp} {x:Str}
    (hn:l.most = some n) (hn2:n ≤ sizeLine) (hdf:d.params.defaults = []) (hr:Room k callerA)
    (hY:∀ (w:World) (h:Heap),YP w h → (K w.params).In h)
    (F:∀ (w:World) (mg:Str → Option Value) (fa:Addr) (h:Heap),(K w.params).In h → h.Ns mainGlobals mg → mg d.name = some (.ref fa) →
      ∃ fd:FuncData,(∀ (s:Shared) (u:Value),BindsTo s fd ⟨[u],[]⟩ [(x,u)]) ∧
        ∀ base:Heap,(K w.params).In base → base.Ns mainGlobals mg → FnOk l.prog w (K w.params) mg base (CX w) k fa fd [x] (sp w))
    (hsp:∀ (w:World) (H:Hp) (a:Addr) (ns:List Int),ns.length ≤ n → (∀ i ∈ ns,i.natAbs.log2 < 2 ^ 20) → Only H → SqL (K w.params) H a (ns.map V.int) → sp w [.ref a] H (fun v _=>v = .bl true) fun _ _ _=>False)
    (hCX:∀ (w:World) (H:Hp) (s:Shared) (e:Value) (s':Shared),CX w [] H s (fun _ _ _=>False) e s' → False) :
    qG6 q loose XP YP l.row.toRowW d [] (fun f vs=>qG5 f vs):=by
  refine Att.attach_callW hn hdf fun w s₀ s₁ mg mb fa o pm cd doc a vs ns G Y ho hd hcd hmg hobj hints hlen hw hg=>?_
  have KX:=hY w _ Y
  obtain ⟨fd,hb,hF⟩:=F w mg fa _ KX G.T.g hmg
  exact zQL KX G.T.g G.T.b G.T.builtins G.T.nolimit hg hobj hints (qAo hlen hn2) hr hF hb (fun H hO hS=>hsp w H a ns hlen hw hO hS) fun H e s'=>hCX w H s₁ e s'
def MulOk (i j:Int):Prop:=((-(2 ^ 64) < i ∧ i < 2 ^ 64) ∨ (-(2 ^ 64) < j ∧ j < 2 ^ 64)) ∨ i.natAbs.log2 + j.natAbs.log2 ≤ 67108864
theorem zPI (i:Int):Builtin.Int.intBits i ≤ i.natAbs.log2 + 1:=by
  unfold Builtin.Int.intBits
  split <;> omega
theorem MulOk.ok {i j:Int} (h:MulOk i j):IntMulOk i j:=by
  rcases h with h | h
  · exact CMul.ok h
  · unfold IntMulOk
    have h1:=zPI i
    have h2:=zPI j
    have h3:Builtin.Int.intTooBig ((Builtin.Int.intBits i:Int) + (Builtin.Int.intBits j:Int)) = false:=by
      unfold Builtin.Int.intTooBig
      have:(bitsLine:Int) = 134217728:=by decide
      rw [this]
      simp only [gt_iff_lt,decide_eq_false_iff_not,Int.not_lt]
      omega
    rw [h3,qCf]
    exact qAe
section
variable {X:Cx}
noncomputable def zVX:R2:=fun x y H Q=>match x,y with
  | .int i,.int j=>MulOk i j ∧ Q (.int (i * j)) H
  | _,_=>False
theorem zTX:OpR X (binaryOp .Mult) (rI MulOk fun i j=>.int (i * j)):=opI fun _ _ _ _ _ _ _ hc q=>mul_int q hc.ok
theorem zDY:OpR X (binaryOp .Mult) zVX:=by
  intro pins s σ H x y v u Q I rx ry h
  cases x <;> cases y <;> first
    | exact zTX pins s σ H _ _ v u Q I rx ry ⟨_,_,rfl,rfl,h.1,h.2⟩
    | exact qAf h
noncomputable def zW1:R2:=fun x y H Q=>match x,y with
  | .int i,.int j=>(0 < j ∧ j < 1000000000000000000000000) ∧ Q (.int (i / j)) H
  | _,_=>False
theorem log2_lt {n:Nat} (h:n < 1000000000000000000000000):n.log2 < 9000:=by
  by_cases z:n = 0
  · subst z; decide
  · have h2:n < 2 ^ 80:=by omega
    have:=(Nat.log2_lt z).mpr h2
    omega
theorem zTY:OpR X (binaryOp .FloorDiv) (rI (fun _ j=>0 < j ∧ j < 1000000000000000000000000) fun i j=>.int (i / j)):=opI fun i j _ _ _ _ _ hc q=>by
  have h1:(0:Int) < j:=hc.1
  have h2:j < 1000000000000000000000000:=hc.2
  exact floordiv_int (by omega) (by rw [Int.fdiv_eq_ediv_of_nonneg i (by omega)]; exact q) (.inl (PyProof.noPylong_of_log2 (log2_lt (by omega))))
theorem zDZ:OpR X (binaryOp .FloorDiv) zW1:=by
  intro pins s σ H x y v u Q I rx ry h
  cases x <;> cases y <;> first
    | exact zTY pins s σ H _ _ v u Q I rx ry ⟨_,_,rfl,rfl,h.1,h.2⟩
    | exact qAf h
end
end L2
namespace L3
open PySem PySem.Spec
open L2 hiding Rep RepL
open Mi (Dt Xn R okR zA2 optR bindR_ok zAA zAD zAB zAC Rh Sl Ro EM TM AM FM IM SM Tg Out zAZ zAR zB4 full frz frz1 frzAt)
class Kc where
  K:qA1
variable [Kc]
noncomputable def clK (K:qA1) (c:Str):Option Addr:=match qB8 K mainGlobals c with
  | some (some (.ref C))=>some C
  | _=>none
def SqR (K:qA1) (H:Hp) (a:Addr) (xs:List V):Prop:=SqL K H a xs ∨ SqT K H a xs
theorem zFW {K:qA1} {H H':Hp} {a:Addr} {xs:List V} (e:Same H H') (h:SqT K H a xs):SqT K H' a xs:=by
  rcases h with (h | ⟨o,h⟩) | h
  · exact .inl (.inl (e _ _ h))
  · exact .inl (.inr ⟨o,e _ _ h⟩)
  · exact .inr h
theorem zEG {K:qA1} {H H':Hp} {a:Addr} {xs:List V} (e:Same H H') (h:SqR K H a xs):SqR K H' a xs:=h.imp (fun z=>e.seq z) fun z=>zFW e z
noncomputable def svV:Mi.Sv → V
  | .i n=>.int n
  | .s x=>.str x
noncomputable def swV:Mi.Sw → V
  | .non=>.non
  | .bl b=>.bl b
  | .int i=>.int i
  | .str x=>.str x
mutual
def Rep (H:Hp):Dt → V → Prop
  | .non,v=>v = .non
  | .bl b,v=>v = .bl b
  | .int i,v=>v = .int i
  | .str x,v=>v = .str x
  | .lst ds,v=>∃ a xs,v = .ref a ∧ H a = some (.lst xs) ∧ RepL H ds xs
  | .tup ds,v=>∃ a xs,v = .ref a ∧ H a = some (.tup xs) ∧ RepL H ds xs
  | .scr ns,v=>∃ a,v = .ref a ∧ SqR Kc.K H a (ns.map V.int)
  | .exc c f d,v=>∃ e C da,v = .ref e ∧ isX H e C da ∧ clK Kc.K c = some C ∧ ((da = none ∧ f = "") ∨ ∃ a gs w,da = some a ∧ H a = some (.xd gs) ∧ gs.lookup f = some w ∧ Rep H d w)
  | .ins c fs,v=>∃ a C dx,v = .ref a ∧ clK Kc.K c = some C ∧ H a = some (.ins C dx (fs.map fun p=>(p.1,svV p.2)))
  | .dct kvs,v=>∃ a,v = .ref a ∧ H a = some (.dK (kvs.map fun p=>(p.1,swV p.2)))
def RepL (H:Hp):List Dt → List V → Prop
  | [],xs=>xs = []
  | d :: r,xs=>∃ x q,xs = x :: q ∧ Rep H d x ∧ RepL H r q
end
mutual
theorem Rep.mono {H H':Hp} (s:Same H H'):∀ {d:Dt} {v:V},Rep H d v → Rep H' d v
  | .non,_,h=>h
  | .bl _,_,h=>h
  | .int _,_,h=>h
  | .str _,_,h=>h
  | .lst _,_,h=>by obtain ⟨a,xs,e,e',r⟩:=h; exact ⟨a,xs,e,s _ _ e',RepL.mono s r⟩
  | .tup _,_,h=>by obtain ⟨a,xs,e,e',r⟩:=h; exact ⟨a,xs,e,s _ _ e',RepL.mono s r⟩
  | .scr _,_,h=>by obtain ⟨a,e,e'⟩:=h; exact ⟨a,e,zEG s e'⟩
  | .exc _ _ _,_,h=>by
    obtain ⟨a,C,da,e,e',hc,r⟩:=h
    refine ⟨a,C,da,e,e'.imp (fun z=>s _ _ z) fun z=>s _ _ z,hc,r.imp (fun z=>z) ?_⟩
    rintro ⟨b,gs,w,h1,h2,h3,h4⟩
    exact ⟨b,gs,w,h1,s _ _ h2,h3,Rep.mono s h4⟩
  | .ins _ _,_,h=>by obtain ⟨a,C,dx,e,hc,h1⟩:=h; exact ⟨a,C,dx,e,hc,s _ _ h1⟩
  | .dct _,_,h=>by obtain ⟨a,e,h1⟩:=h; exact ⟨a,e,s _ _ h1⟩
theorem RepL.mono {H H':Hp} (s:Same H H'):∀ {ds:List Dt} {xs:List V},RepL H ds xs → RepL H' ds xs
  | [],_,h=>h
  | _ :: _,_,h=>by obtain ⟨x,q,e,r,t⟩:=h; exact ⟨x,q,e,Rep.mono s r,RepL.mono s t⟩
end
theorem RepL.length {H:Hp}:∀ {ds:List Dt} {xs:List V},RepL H ds xs → xs.length = ds.length
  | [],_,h=>by cases h; rfl
  | _ :: _,_,h=>by obtain ⟨x,q,e,r,t⟩:=h; subst e; simp [RepL.length t]
mutual
def conv:Dt → L2.Dat
  | .non=>.non
  | .bl b=>.bl b
  | .int i=>.int i
  | .str x=>.str x
  | .lst ds=>.lst (convL ds)
  | .tup ds=>.tup (convL ds)
  | .scr _=>.non
  | .exc _ _ _=>.non
  | .ins _ _=>.non
  | .dct _=>.non
def convL:List Dt → List L2.Dat
  | []=>[]
  | d :: r=>conv d :: convL r
end
mutual
theorem zEQ:∀ {d:Dt},d.dep ≤ 40 → (conv d).dep ≤ d.dep
  | .non,_=>qA7 _
  | .bl _,_=>qA7 _
  | .int _,_=>qA7 _
  | .str _,_=>qA7 _
  | .lst ds,h=>by rw [Dt.dep] at h ⊢; rw [conv,L2.Dat.dep]; have:=conv_depL (ds:=ds) (by omega); omega
  | .tup ds,h=>by rw [Dt.dep] at h ⊢; rw [conv,L2.Dat.dep]; have:=conv_depL (ds:=ds) (by omega); omega
  | .scr _,h=>by rw [Dt.dep] at h; omega
  | .exc _ _ _,h=>by rw [Dt.dep] at h; omega
  | .ins _ _,h=>by rw [Dt.dep] at h; omega
  | .dct _,h=>by rw [Dt.dep] at h; omega
theorem conv_depL:∀ {ds:List Dt},Dt.depL ds ≤ 40 → L2.Dat.depL (convL ds) ≤ Dt.depL ds
  | [],_=>qA7 _
  | d :: r,h=>by
    rw [Dt.depL] at h ⊢
    rw [convL,L2.Dat.depL]
    have h1:=zEQ (d:=d) (by omega)
    have h2:=conv_depL (ds:=r) (by omega)
    omega
end
mutual
theorem zDU {H:Hp}:∀ {d:Dt} {v:V},d.dep ≤ 40 → Rep H d v → L2.Rep H (conv d) v
  | .non,_,_,h=>h
  | .bl _,_,_,h=>h
  | .int _,_,_,h=>h
  | .str _,_,_,h=>h
  | .lst ds,_,hd,h=>by obtain ⟨a,xs,e,e',r⟩:=h; exact ⟨a,xs,e,e',conv_repL (by rw [Dt.dep] at hd; omega) r⟩
  | .tup ds,_,hd,h=>by obtain ⟨a,xs,e,e',r⟩:=h; exact ⟨a,xs,e,e',conv_repL (by rw [Dt.dep] at hd; omega) r⟩
  | .scr _,_,h,_=>by rw [Dt.dep] at h; omega
  | .exc _ _ _,_,h,_=>by rw [Dt.dep] at h; omega
  | .ins _ _,_,h,_=>by rw [Dt.dep] at h; omega
  | .dct _,_,h,_=>by rw [Dt.dep] at h; omega
theorem conv_repL {H:Hp}:∀ {ds:List Dt} {xs:List V},Dt.depL ds ≤ 40 → RepL H ds xs → L2.RepL H (convL ds) xs
  | [],_,_,h=>h
  | d :: r,_,hd,h=>by
    rw [Dt.depL] at hd
    obtain ⟨x,q,e,a,b⟩:=h
    exact ⟨x,q,e,zDU (by omega) a,conv_repL (by omega) b⟩
end
mutual
theorem zLA:∀ {d e:Dt},d.dep ≤ 40 → e.dep ≤ 40 → L2.Dat.eq (conv d) (conv e) = Dt.eq d e
  | .scr _,_,h,_=>by rw [Dt.dep] at h; omega
  | .exc _ _ _,_,h,_=>by rw [Dt.dep] at h; omega
  | .ins _ _,_,h,_=>by rw [Dt.dep] at h; omega
  | .dct _,_,h,_=>by rw [Dt.dep] at h; omega
  | .lst ds,e,h,h'=>by
    rw [Dt.dep] at h
    cases e with
    | lst es=>rw [Dt.dep] at h'; rw [conv,conv,L2.Dat.eq,Dt.eq]; exact conv_eqL (by omega) (by omega)
    | scr _=>rw [Dt.dep] at h'; omega
    | exc _ _ _=>rw [Dt.dep] at h'; omega
    | ins _ _=>rw [Dt.dep] at h'; omega
    | dct _=>rw [Dt.dep] at h'; omega
    | _=>simp [conv,L2.Dat.eq,Dt.eq]
  | .tup ds,e,h,h'=>by
    rw [Dt.dep] at h
    cases e with
    | tup es=>rw [Dt.dep] at h'; rw [conv,conv,L2.Dat.eq,Dt.eq]; exact conv_eqL (by omega) (by omega)
    | scr _=>rw [Dt.dep] at h'; omega
    | exc _ _ _=>rw [Dt.dep] at h'; omega
    | ins _ _=>rw [Dt.dep] at h'; omega
    | dct _=>rw [Dt.dep] at h'; omega
    | _=>simp [conv,L2.Dat.eq,Dt.eq]
  | .non,e,_,h'=>by
    cases e with
    | scr _=>rw [Dt.dep] at h'; omega
    | exc _ _ _=>rw [Dt.dep] at h'; omega
    | ins _ _=>rw [Dt.dep] at h'; omega
    | dct _=>rw [Dt.dep] at h'; omega
    | _=>simp [conv,L2.Dat.eq,Dt.eq]
  | .bl _,e,_,h'=>by
    cases e with
    | scr _=>rw [Dt.dep] at h'; omega
    | exc _ _ _=>rw [Dt.dep] at h'; omega
    | ins _ _=>rw [Dt.dep] at h'; omega
    | dct _=>rw [Dt.dep] at h'; omega
    | _=>simp [conv,L2.Dat.eq,Dt.eq]
  | .int _,e,_,h'=>by
    cases e with
    | scr _=>rw [Dt.dep] at h'; omega
    | exc _ _ _=>rw [Dt.dep] at h'; omega
    | ins _ _=>rw [Dt.dep] at h'; omega
    | dct _=>rw [Dt.dep] at h'; omega
    | _=>simp [conv,L2.Dat.eq,Dt.eq]
  | .str _,e,_,h'=>by
    cases e with
    | scr _=>rw [Dt.dep] at h'; omega
    | exc _ _ _=>rw [Dt.dep] at h'; omega
    | ins _ _=>rw [Dt.dep] at h'; omega
    | dct _=>rw [Dt.dep] at h'; omega
    | _=>simp [conv,L2.Dat.eq,Dt.eq]
theorem conv_eqL:∀ {ds es:List Dt},Dt.depL ds ≤ 40 → Dt.depL es ≤ 40 → L2.Dat.eqL (convL ds) (convL es) = Dt.eqL ds es
  | [],[],_,_=>by simp [convL,L2.Dat.eqL,Dt.eqL]
  | [],_ :: _,_,_=>by simp [convL,L2.Dat.eqL,Dt.eqL]
  | _ :: _,[],_,_=>by simp [convL,L2.Dat.eqL,Dt.eqL]
  | d :: r,e :: t,h,h'=>by
    rw [Dt.depL] at h h'
    rw [convL,convL,L2.Dat.eqL,Dt.eqL,zLA (by omega) (by omega),conv_eqL (by omega) (by omega)]
end
theorem zD4 {G:Hp}:∀ {ds:List Dt} {xs:List V} {q:Nat} {d:Dt} {x:V},RepL G ds xs → ds[q]? = some d → xs[q]? = some x → Rep G d x
  | [],_,_,_,_,_,h,_=>by simp at h
  | d :: r,xs,0,e,y,h,h1,h2=>by
    obtain ⟨x,t,rfl,a,b⟩:=h
    simp at h1 h2; subst h1; subst h2; exact a
  | d :: r,xs,q + 1,e,y,h,h1,h2=>by
    obtain ⟨x,t,rfl,a,b⟩:=h
    exact zD4 b (by simpa using h1) (by simpa using h2)
theorem zEX {G:Hp}:∀ {ds:List Dt} {xs:List V},xs.length = ds.length → (∀ (q:Nat) (d:Dt) (x:V),ds[q]? = some d → xs[q]? = some x → Rep G d x) → RepL G ds xs
  | [],[],_,_=>rfl
  | [],_ :: _,h,_=>by simp at h
  | _ :: _,[],h,_=>by simp at h
  | d :: r,x :: t,h,k=>⟨x,t,rfl,k 0 d x rfl rfl,zEX (by simpa using h) fun q e y h1 h2=>k (q + 1) e y (by simpa using h1) (by simpa using h2)⟩
theorem zGK {n:Nat}:∀ {ds:List Dt},Dt.depL ds ≤ n → ∀ {q:Nat} {d:Dt},ds[q]? = some d → d.dep ≤ n
  | [],_,_,_,h=>by simp at h
  | e :: r,h,0,d,h1=>by simp at h1; subst h1; rw [Dt.depL] at h; omega
  | e :: r,h,q + 1,d,h1=>by rw [Dt.depL] at h; exact zGK (ds:=r) (by omega) (q:=q) (by simpa using h1)
theorem Rep.scalar {G G2:Hp} {d:Dt} {v:V} (h:Rep G d v) (hd:d.dep = 0):Rep G2 d v:=by
  cases d with
  | lst ds=>rw [Dt.dep] at hd; omega
  | tup ds=>rw [Dt.dep] at hd; omega
  | scr ns=>rw [Dt.dep] at hd; omega
  | exc _ _ _=>rw [Dt.dep] at hd; omega
  | ins _ _=>rw [Dt.dep] at hd; omega
  | dct _=>rw [Dt.dep] at hd; omega
  | _=>exact h
structure Kids (P:(Addr → Prop) → Dt → V → Prop) (S:Addr → Prop) (a:Addr) (ds:List Dt) (xs:List V) (T:Nat → Addr → Prop):Prop where
  len:xs.length = ds.length
  own:∀ (q:Nat) (d:Dt) (x:V),ds[q]? = some d → xs[q]? = some x → P (T q) d x
  top:S a
  out:∀ q,¬ T q a
  dis:∀ q r b,T q b → T r b → q = r
  sub:∀ q b,T q b → S b
def Own (G H:Hp):Nat → (Addr → Prop) → Dt → V → Prop
  | 0,_,d,v=>Rep G d v
  | n + 1,S,d,v=>match d with
    | .lst ds=>∃ a xs T,v = .ref a ∧ H a = some (.lst xs) ∧ Kids (Own G H n) S a ds xs T
    | .tup ds=>∃ a xs T,v = .ref a ∧ H a = some (.tup xs) ∧ Kids (Own G H n) S a ds xs T
    | .dct kvs=>∃ a,v = .ref a ∧ H a = some (.dK (kvs.map fun p=>(p.1,swV p.2))) ∧ S a
    | d=>Rep G d v
theorem Kids.imp {P P':(Addr → Prop) → Dt → V → Prop} {S S':Addr → Prop} {a:Addr} {ds:List Dt} {xs:List V} {T:Nat → Addr → Prop} (k:Kids P S a ds xs T)
    (h:∀ q d x,ds[q]? = some d → P (T q) d x → P' (T q) d x) (hs:∀ b,S b → S' b):Kids P' S' a ds xs T :=
  ⟨k.len,fun q d x h1 h2=>h q d x h1 (k.own q d x h1 h2),hs _ k.top,k.out,k.dis,fun q b t=>hs _ (k.sub q b t)⟩
theorem Own.mono {G G' H H':Hp} (sG:Same G G') (sH:Same H H'):∀ {n:Nat} {S:Addr → Prop} {d:Dt} {v:V},Own G H n S d v → Own G' H' n S d v
  | 0,S,d,v,h=>Rep.mono sG h
  | n + 1,S,d,v,h=>by
    cases d with
    | lst ds=>obtain ⟨a,xs,T,e,ha,k⟩:=h; exact ⟨a,xs,T,e,sH _ _ ha,k.imp (fun _ _ _ _ p=>Own.mono sG sH p) fun _ z=>z⟩
    | tup ds=>obtain ⟨a,xs,T,e,ha,k⟩:=h; exact ⟨a,xs,T,e,sH _ _ ha,k.imp (fun _ _ _ _ p=>Own.mono sG sH p) fun _ z=>z⟩
    | dct kvs=>obtain ⟨a,e,ha,hs⟩:=h; exact ⟨a,e,sH _ _ ha,hs⟩
    | _=>exact Rep.mono sG h
theorem Own.sub {G H:Hp} {n:Nat} {S S':Addr → Prop} {d:Dt} {v:V} (h:Own G H n S d v) (hs:∀ b,S b → S' b):Own G H n S' d v:=by
  cases n with
  | zero=>exact h
  | succ n =>
    cases d with
    | lst ds=>obtain ⟨a,xs,T,e,ha,k⟩:=h; exact ⟨a,xs,T,e,ha,k.imp (fun _ _ _ _ p=>p) hs⟩
    | tup ds=>obtain ⟨a,xs,T,e,ha,k⟩:=h; exact ⟨a,xs,T,e,ha,k.imp (fun _ _ _ _ p=>p) hs⟩
    | dct kvs=>obtain ⟨a,e,ha,h2⟩:=h; exact ⟨a,e,ha,hs _ h2⟩
    | _=>exact h
theorem Own.rep {G H J:Hp} (sG:Same G J):∀ {n:Nat} {S:Addr → Prop} {d:Dt} {v:V},Own G H n S d v → (∀ a o,S a → H a = some o → J a = some o) → Rep J d v
  | 0,S,d,v,h,_=>Rep.mono sG h
  | n + 1,S,d,v,h,hj=>by
    cases d with
    | lst ds=>obtain ⟨a,xs,T,e,ha,k⟩:=h; exact ⟨a,xs,e,hj _ _ k.top ha,zEX k.len fun q d x h1 h2=>Own.rep sG (k.own q d x h1 h2) fun b o t hb=>hj b o (k.sub q b t) hb⟩
    | tup ds=>obtain ⟨a,xs,T,e,ha,k⟩:=h; exact ⟨a,xs,e,hj _ _ k.top ha,zEX k.len fun q d x h1 h2=>Own.rep sG (k.own q d x h1 h2) fun b o t hb=>hj b o (k.sub q b t) hb⟩
    | dct kvs=>obtain ⟨a,e,ha,hs⟩:=h; exact ⟨a,e,hj _ _ hs ha⟩
    | _=>exact Rep.mono sG h
theorem Own.at {G G2 H:Hp}:∀ {n k:Nat} {S:Addr → Prop} {d:Dt} {v:V},Own G H n S d v → d.dep ≤ n → d.dep ≤ k → n < 1000 → Own G2 H k S d v
  | n,k,S,d,v,h,hn,hk,hz=>by
    cases d with
    | lst ds =>
      rw [Dt.dep] at hn hk
      cases n with
      | zero=>omega
      | succ n =>
        cases k with
        | zero=>omega
        | succ k =>
          obtain ⟨a,xs,T,e,ha,kd⟩:=h
          refine ⟨a,xs,T,e,ha,kd.imp (fun q d x h1 p=>?_) fun _ z=>z⟩
          exact Own.at p (zGK (by omega) h1) (zGK (by omega) h1) (by omega)
    | tup ds =>
      rw [Dt.dep] at hn hk
      cases n with
      | zero=>omega
      | succ n =>
        cases k with
        | zero=>omega
        | succ k =>
          obtain ⟨a,xs,T,e,ha,kd⟩:=h
          refine ⟨a,xs,T,e,ha,kd.imp (fun q d x h1 p=>?_) fun _ z=>z⟩
          exact Own.at p (zGK (by omega) h1) (zGK (by omega) h1) (by omega)
    | non=>cases n <;> cases k <;> exact h
    | bl b=>cases n <;> cases k <;> exact h
    | int i=>cases n <;> cases k <;> exact h
    | str x=>cases n <;> cases k <;> exact h
    | scr ns=>rw [Dt.dep] at hn; omega
    | exc _ _ _=>rw [Dt.dep] at hn; omega
    | ins _ _=>rw [Dt.dep] at hn; omega
    | dct _=>rw [Dt.dep] at hn; omega
termination_by n=>n
theorem Own.scalar {G H G2 H2:Hp} {n k:Nat} {S S2:Addr → Prop} {d:Dt} {v:V} (h:Own G H n S d v) (hd:d.dep = 0):Own G2 H2 k S2 d v:=by
  cases d with
  | lst ds=>rw [Dt.dep] at hd; omega
  | tup ds=>rw [Dt.dep] at hd; omega
  | non=>cases n <;> cases k <;> exact h
  | bl b=>cases n <;> cases k <;> exact h
  | int i=>cases n <;> cases k <;> exact h
  | str x=>cases n <;> cases k <;> exact h
  | scr ns=>rw [Dt.dep] at hd; omega
  | exc _ _ _=>rw [Dt.dep] at hd; omega
  | ins _ _=>rw [Dt.dep] at hd; omega
  | dct _=>rw [Dt.dep] at hd; omega
theorem zWC {G H:Hp} {n:Nat} {S:Addr → Prop} {d:Dt} {v:V} (h:Rep G d v) (hd:d.dep = 0):Own G H n S d v:=Own.scalar (n:=0) (G:=G) (H:=H) (S:=S) h hd
theorem Own.upd {G H:Hp} {p:Addr} {o:HO}:∀ {n:Nat} {S:Addr → Prop} {d:Dt} {v:V},Own G H n S d v → ¬ S p → Own G (upd H p o) n S d v
  | 0,S,d,v,h,_=>h
  | n + 1,S,d,v,h,hp=>by
    cases d with
    | lst ds =>
      obtain ⟨a,xs,T,e,ha,k⟩:=h
      have hap:a ≠ p:=fun z=>hp (z ▸ k.top)
      exact ⟨a,xs,T,e,(zAG hap).trans ha,k.imp (fun q _ _ _ w=>Own.upd w fun z=>hp (k.sub q _ z)) fun _ z=>z⟩
    | tup ds =>
      obtain ⟨a,xs,T,e,ha,k⟩:=h
      have hap:a ≠ p:=fun z=>hp (z ▸ k.top)
      exact ⟨a,xs,T,e,(zAG hap).trans ha,k.imp (fun q _ _ _ w=>Own.upd w fun z=>hp (k.sub q _ z)) fun _ z=>z⟩
    | dct kvs =>
      obtain ⟨a,e,ha,hs⟩:=h
      have hap:a ≠ p:=fun z=>hp (z ▸ hs)
      exact ⟨a,e,(zAG hap).trans ha,hs⟩
    | _=>exact h
structure Ext (G H G' H':Hp):Prop where
  g:Same G G'
  h:Same H H'
  in':Same G' H'
  old:∀ b,H b ≠ none → G' b = G b
theorem Ext.refl {G H:Hp} (s:Same G H):Ext G H G H:=⟨Same.refl _,Same.refl _,s,fun _ _=>rfl⟩
theorem _root_.L2.Same.some {H H':Hp} (s:Same H H') {b:Addr} (h:H b ≠ qEi):H' b ≠ qEi:=by
  cases e:H b with
  | none=>exact absurd e h
  | some o=>rw [s _ _ e]; simp
theorem Ext.trans {G H G1 H1 G2 H2:Hp} (a:Ext G H G1 H1) (b:Ext G1 H1 G2 H2):Ext G H G2 H2 :=
  ⟨a.g.trans b.g,a.h.trans b.h,b.in',fun c hc=>(b.old c (a.h.some hc)).trans (a.old c hc)⟩
structure Fr (G H G' H':Hp) (S:Addr → Prop):Prop where
  ext:Ext G H G' H'
  new:∀ a,S a → H a = none ∧ G' a = none ∧ H' a ≠ none
open Classical in
noncomputable def over (G H:Hp) (S:Addr → Prop):Hp:=fun b=>if S b then H b else G b
theorem zEB {G H:Hp} {S:Addr → Prop} {a:Addr} (h:S a):over G H S a = H a:=by unfold over; rw [if_pos h]
theorem zC8 {G H:Hp} {S:Addr → Prop} {a:Addr} (h:¬ S a):over G H S a = G a:=by unfold over; rw [if_neg h]
theorem zDL {G H:Hp} {S:Addr → Prop} (s:Same G H):Same G (over G H S) ∧ Same (over G H S) H:=by
  constructor
  · intro b o e
    by_cases z:S b
    · rw [zEB z]; exact s _ _ e
    · rw [zC8 z]; exact e
  · intro b o e
    by_cases z:S b
    · rw [zEB z] at e; exact e
    · rw [zC8 z] at e; exact s _ _ e
theorem Fr.frz {G H G' H':Hp} {S:Addr → Prop} {n:Nat} {d:Dt} {v:V} (f:Fr G H G' H' S) (o:Own G' H' n S d v):Ext G H (over G' H' S) H' ∧ Rep (over G' H' S) d v:=by
  obtain ⟨s1,s2⟩:=zDL (S:=S) f.ext.in'
  refine ⟨⟨f.ext.g.trans s1,f.ext.h,s2,fun b hb=>?_⟩,o.rep s1 fun a u ha e=>by rw [zEB ha]; exact e⟩
  have z:¬ S b:=fun z=>hb (f.new b z).1
  rw [zC8 z]; exact f.ext.old b hb
structure View (G:Hp) (σ:St) (ρ:Rh):Prop where
  len:ρ.length = σ.length
  «at»:∀ (i:Nat) (d:Dt),ρ[i]? = some (some d) → ∃ v,σ[i]? = some (some v) ∧ Rep G d v
theorem View.mono {G G':Hp} {σ:St} {ρ:Rh} (s:Same G G') (h:View G σ ρ):View G' σ ρ:=⟨h.len,fun i d e=>let ⟨v,a,b⟩:=h.at i d e; ⟨v,a,Rep.mono s b⟩⟩
def XRep (mg:Str → Option Value) (x:Xn) (c:Value) (da:Option Addr) (G H:Hp):Prop :=
  ∃ e C,c = .ref e ∧ G e = some (xo e (.ref C) da) ∧ clK Kc.K x.cls = some C ∧ ((da = none ∧ x.f = "") ∨ ∃ a gs w,da = some a ∧ G a = some (.xd gs) ∧ gs.lookup x.f = some w ∧ Rep G x.d w)
def PostE (mg:Str → Option Value) (E:XK) (G H:Hp) (n:Nat) (r:R Dt) (Q:VK):Prop:=match r with
  | none=>False
  | some (.error x)=>∀ c da G' H',Ext G H G' H' → XRep mg x c da G' H' → E c da H'
  | some (.ok d)=>∀ v G' H' S,Fr G H G' H' S → Own G' H' n S d v → Q v H'
def PostT (mg:Str → Option Value) (E:XK) (G H:Hp) (r:R Bool) (Q:Bool → Hp → Prop):Prop:=match r with
  | none=>False
  | some (.error x)=>∀ c da G' H',Ext G H G' H' → XRep mg x c da G' H' → E c da H'
  | some (.ok b)=>∀ H',Same H H' → Q b H'
structure OwnA (G H:Hp) (n:Nat) (S:Addr → Prop) (ds:List Dt) (xs:List V) (T:Nat → Addr → Prop):Prop where
  len:xs.length = ds.length
  own:∀ (q:Nat) (d:Dt) (x:V),ds[q]? = some d → xs[q]? = some x → Own G H n (T q) d x
  dis:∀ q r b,T q b → T r b → q = r
  sub:∀ q b,T q b → S b
def zXK (mg:Str → Option Value) (E:XK) (G H:Hp) (n:Nat) (r:R (List Dt)) (Q:List V → Hp → Prop):Prop:=match r with
  | none=>False
  | some (.error x)=>∀ c da G' H',Ext G H G' H' → XRep mg x c da G' H' → E c da H'
  | some (.ok ds)=>∀ vs G' H' S T,Fr G H G' H' S → OwnA G' H' n S ds vs T → Q vs H'
def DE (mg:Str → Option Value) (E:XK) (t:TE) (m:EM) (n:Nat):Prop:=∀ (G H:Hp) (σ:St) (ρ:Rh) (Q:VK),Same G H → View G σ ρ → PostE mg E G H n (m ρ) Q → t σ H Q
def DT (mg:Str → Option Value) (E:XK) (t:TT) (m:TM):Prop:=∀ (G H:Hp) (σ:St) (ρ:Rh) (Q:Bool → Hp → Prop),Same G H → View G σ ρ → PostT mg E G H (m ρ) Q → t σ H Q
def DA (mg:Str → Option Value) (E:XK) (t:TA) (m:AM) (n:Nat):Prop:=∀ (G H:Hp) (σ:St) (ρ:Rh) (Q:List V → Hp → Prop),Same G H → View G σ ρ → zXK mg E G H n (m ρ) Q → t σ H Q
structure Err (mg:Str → Option Value) (E:XK) (G H:Hp) {β:Type} (P:R β → Prop):Prop where
  no:P none → False
  er:∀ x,P (some (.error x)) → ∀ c da G' H',Ext G H G' H' → XRep mg x c da G' H' → E c da H'
theorem Ext.same {G H H':Hp} (s:Same G H) (h:Same H H'):Ext G H G H':=⟨Same.refl _,h,s.trans h,fun _ _=>rfl⟩
theorem Err.from {mg:Str → Option Value} {E:XK} {G H G' H':Hp} {β:Type} {P:R β → Prop} (e:Err mg E G H P) (x:Ext G H G' H'):Err mg E G' H' P:=⟨e.no,fun y p c da G2 H2 z w=>e.er y p c da G2 H2 (x.trans z) w⟩
section
variable {mg:Str → Option Value} {E:XK} {n:Nat}
theorem errE {G H:Hp} {Q:VK}:Err mg E G H (fun r=>PostE mg E G H n r Q):=⟨fun h=>h,fun _ h=>h⟩
theorem errT {G H:Hp} {Q:Bool → Hp → Prop}:Err mg E G H (fun r=>PostT mg E G H r Q):=⟨fun h=>h,fun _ h=>h⟩
theorem errA {G H:Hp} {Q:List V → Hp → Prop}:Err mg E G H (fun r=>zXK mg E G H n r Q):=⟨fun h=>h,fun _ h=>h⟩
theorem DE.step {β:Type} {t:TE} {m:EM} (D:DE mg E t m n) {G H:Hp} {σ:St} {ρ:Rh} {Q:VK} {P:R β → Prop} {f:Dt → R β} (hE:Err mg E G H P) (s:Same G H) (w:View G σ ρ) (p:P (zA2 (m ρ) f))
    (h:∀ d v G' H' S,m ρ = okR d → Fr G H G' H' S → Own G' H' n S d v → P (f d) → Q v H'):t σ H Q:=by
  refine D G H σ ρ Q s w ?_
  cases e:m ρ with
  | none=>rw [e] at p; exact hE.no p
  | some r =>
    rw [e] at p
    cases r with
    | error x=>exact hE.er x p
    | ok d=>exact fun v G' H' S fr o=>h d v G' H' S e fr o p
theorem DT.step {β:Type} {t:TT} {m:TM} (D:DT mg E t m) {G H:Hp} {σ:St} {ρ:Rh} {Q:Bool → Hp → Prop} {P:R β → Prop} {f:Bool → R β} (hE:Err mg E G H P) (s:Same G H) (w:View G σ ρ) (p:P (zA2 (m ρ) f))
    (h:∀ b H',m ρ = okR b → Same H H' → P (f b) → Q b H'):t σ H Q:=by
  refine D G H σ ρ Q s w ?_
  cases e:m ρ with
  | none=>rw [e] at p; exact hE.no p
  | some r =>
    rw [e] at p
    cases r with
    | error x=>exact hE.er x p
    | ok b=>exact fun H' sH=>h b H' e sH p
theorem DA.step {β:Type} {t:TA} {m:AM} (D:DA mg E t m n) {G H:Hp} {σ:St} {ρ:Rh} {Q:List V → Hp → Prop} {P:R β → Prop} {f:List Dt → R β} (hE:Err mg E G H P) (s:Same G H) (w:View G σ ρ) (p:P (zA2 (m ρ) f))
    (h:∀ ds vs G' H' S T,m ρ = okR ds → Fr G H G' H' S → OwnA G' H' n S ds vs T → P (f ds) → Q vs H'):t σ H Q:=by
  refine D G H σ ρ Q s w ?_
  cases e:m ρ with
  | none=>rw [e] at p; exact hE.no p
  | some r =>
    rw [e] at p
    cases r with
    | error x=>exact hE.er x p
    | ok ds=>exact fun vs G' H' S T fr o=>h ds vs G' H' S T e fr o p
theorem PostE.from {G H G' H':Hp} {Q:VK} {r:R Dt} (p:PostE mg E G H n r Q) (x:Ext G H G' H'):PostE mg E G' H' n r Q:=by
  cases r with
  | none=>exact p
  | some r =>
    cases r with
    | error y=>exact fun c da G2 H2 z w=>p c da G2 H2 (x.trans z) w
    | ok d =>
      exact fun v G2 H2 S fr o=>p v G2 H2 S ⟨x.trans fr.ext,fun a ha=>⟨x.h.free (fr.new a ha).1,(fr.new a ha).2⟩⟩ o
theorem PostT.from {G H G' H':Hp} {Q:Bool → Hp → Prop} {r:R Bool} (p:PostT mg E G H r Q) (x:Ext G H G' H'):PostT mg E G' H' r Q:=by
  cases r with
  | none=>exact p
  | some r =>
    cases r with
    | error y=>exact fun c da G2 H2 z w=>p c da G2 H2 (x.trans z) w
    | ok d=>exact fun H2 s=>p H2 (x.h.trans s)
theorem Fr.from {G H G1 H1 G2 H2:Hp} {S:Addr → Prop} (x:Ext G H G1 H1) (f:Fr G1 H1 G2 H2 S):Fr G H G2 H2 S:=⟨x.trans f.ext,fun a ha=>⟨x.h.free (f.new a ha).1,(f.new a ha).2⟩⟩
theorem PostE.val {G H G' H':Hp} {d:Dt} {v:V} {Q:VK} (p:PostE mg E G H n (okR d) Q) (x:Ext G H G' H') (hd:d.dep = 0) (h:Rep G' d v):Q v H' :=
  p v G' H' (fun _=>False) ⟨x,fun _ z=>z.elim⟩ (zWC h hd)
theorem PostE.kept {G H G' H':Hp} {d:Dt} {v:V} {Q:VK} (p:PostE mg E G H 0 (okR d) Q) (x:Ext G H G' H') (h:Rep G' d v):Q v H' :=
  p v G' H' (fun _=>False) ⟨x,fun _ z=>z.elim⟩ h
theorem zAK {t:TE} {m:EM} {n:Nat} (D:DE mg E t m n):DE mg E t m 0:=by
  intro G H σ ρ Q s w p
  refine D G H σ ρ Q s w ?_
  cases e:m ρ with
  | none=>rw [e] at p; exact p
  | some r =>
    rw [e] at p
    cases r with
    | error x=>exact p
    | ok d =>
      intro v G' H' S fr o
      obtain ⟨x,r⟩:=fr.frz o
      exact PostE.kept p x r
end
end L3
namespace L3
open PySem PySem.Spec
open L2 hiding Rep RepL
open Mi (Dt Xn R okR zA2 optR bindR_ok zAA zAD zAB zAC Rh Sl Ro EM TM AM FM IM SM Tg Out zAZ zAR zB4 full frz frz1 frzAt)
section
variable [Kc] {mg:Str → Option Value} {E:XK} {n k l:Nat} {ta tb tc:TE} {ma mb mc:EM}
theorem zA5 {i:Int}:DE mg E (tC (.int i)) (Mi.eC (.int i)) n:=fun G H σ ρ Q s w p=>PostE.val p (Ext.refl s) rfl rfl
theorem zUQ {b:Bool}:DE mg E (tC (.bl b)) (Mi.eC (.bl b)) n:=fun G H σ ρ Q s w p=>PostE.val p (Ext.refl s) rfl rfl
theorem zCR:DE mg E (tC .non) (Mi.eC .non) n:=fun G H σ ρ Q s w p=>PostE.val p (Ext.refl s) rfl rfl
theorem zBH {x:Str}:DE mg E (tC (.str x)) (Mi.eC (.str x)) n:=fun G H σ ρ Q s w p=>PostE.val p (Ext.refl s) rfl rfl
theorem de_v (i:Nat):DE mg E (vM i) (Mi.eV i) 0:=by
  intro G H σ ρ Q s w p
  unfold Mi.eV at p
  cases e:ρ[i]? with
  | none=>rw [e] at p; exact p.elim
  | some o =>
    rw [e] at p
    cases o with
    | none=>exact p.elim
    | some d =>
      obtain ⟨v,h1,h2⟩:=w.at i d e
      unfold vM
      rw [h1]
      exact PostE.kept p (Ext.refl s) h2
def ROp (r:R2) (f:Dt → Dt → Option Dt) (n:Nat):Prop:=∀ (mg:Str → Option Value) (E:XK) (G H:Hp) (d e:Dt) (x y:V) (Q:VK),Same G H → Rep G d x → Rep G e y → PostE mg E G H n (optR (f d e)) Q → r x y H Q
theorem zA8 {r:R2} {f:Dt → Dt → Option Dt} (hr:ROp r f n) (A:DE mg E ta ma k) (B:DE mg E tb mb l):DE mg E (tOp r ta tb) (Mi.eB f ma mb) n:=by
  intro G H σ ρ Q s w p
  refine (zAK A).step errE s w p fun d v G1 H1 S _ fr o p1=>?_
  refine (zAK B).step (errE.from fr.ext) fr.ext.in' (w.mono fr.ext.g) p1 fun e u G2 H2 S2 _ fr2 o2 p2=>?_
  exact hr mg E G2 H2 d e v u Q fr2.ext.in' (Rep.mono fr2.ext.g o) o2 (PostE.from p2 (fr.ext.trans fr2.ext))
theorem zGM (A:DE mg E ta ma k) (B:DE mg E tb mb n):DE mg E (fun σ H Q=>ta σ H fun x H1=>match x with | .bl c=>if c = true then tb σ H1 Q else Q (.bl false) H1 | _=>False) (Mi.eAnd ma mb) n:=by
  intro G H σ ρ Q s w p
  refine (zAK A).step errE s w p fun d v G1 H1 S _ fr o p1=>?_
  cases d with
  | bl b =>
    cases (show v = .bl b from o)
    cases b with
    | true=>exact B G1 H1 σ ρ Q fr.ext.in' (w.mono fr.ext.g) (PostE.from p1 fr.ext)
    | false=>exact PostE.val (PostE.from p1 fr.ext) (Ext.refl fr.ext.in') rfl rfl
  | _=>exact p1.elim
theorem zXE (A:DE mg E ta ma k):DE mg E (fun σ H Q=>ta σ H fun x H1=>match x with | .bl c=>Q (.bl (!c)) H1 | _=>False) (Mi.eNot ma) n:=by
  intro G H σ ρ Q s w p
  refine (zAK A).step errE s w p fun d v G1 H1 S _ fr o p1=>?_
  cases d with
  | bl b =>
    cases (show v = .bl b from o)
    exact PostE.val (PostE.from p1 fr.ext) (Ext.refl fr.ext.in') rfl rfl
  | _=>exact p1.elim
theorem zRC {α β:Type} (o:Option α) (f:α → R β):zA2 (optR o) f = match o with | none=>none | some a=>f a:=by cases o <;> rfl
theorem zR5 {r r':R2} {f g:Dt → Dt → Option Dt} (hr:ROp r f 0) (hr':ROp r' g n) (A:DE mg E ta ma k) (B:DE mg E tb mb l) {j:Nat} (C:DE mg E tc mc j) :
    DE mg E (fun σ H Q=>ta σ H fun x H1=>tb σ H1 fun y H2=>r x y H2 fun z H3=>match z with
      | .bl k=>if k = true then tc σ H3 fun w' H4=>r' y w' H4 Q else Q (.bl false) H3
      | _=>False) (Mi.eChain f g ma mb mc) n:=by
  intro G H σ ρ Q s w p
  refine (zAK A).step errE s w p fun d v G1 H1 S _ fr o p1=>?_
  refine (zAK B).step (errE.from fr.ext) fr.ext.in' (w.mono fr.ext.g) p1 fun e u G2 H2 S2 _ fr2 o2 p2=>?_
  refine hr mg E G2 H2 d e v u _ fr2.ext.in' (Rep.mono fr2.ext.g o) o2 ?_
  have p3:=PostE.from p2 (fr.ext.trans fr2.ext)
  rw [zRC] at p3
  cases ez:f d e with
  | none=>rw [ez] at p3; exact p3
  | some z =>
    rw [ez] at p3
    intro v3 G3 H3 S3 fr3 o3
    obtain ⟨x3,r3⟩:=fr3.frz o3
    cases z with
    | bl b =>
      cases (show v3 = .bl b from r3)
      cases b with
      | false=>exact PostE.val p3 x3 rfl rfl
      | true =>
        refine (zAK C).step (errE.from x3) x3.in' ((w.mono (fr.ext.g.trans fr2.ext.g)).mono x3.g) p3 fun c u4 G4 H4 S4 _ fr4 o4 p4=>?_
        exact hr' mg E G4 H4 e c u u4 Q fr4.ext.in' (Rep.mono (x3.g.trans fr4.ext.g) o2) o4 (PostE.from p4 (x3.trans fr4.ext))
    | _=>exact p3.elim
theorem dt_b (A:DE mg E ta ma k):DT mg E (fun σ H Q=>ta σ H fun z H3=>match z with | .bl k=>Q k H3 | _=>False) (Mi.tB ma):=by
  intro G H σ ρ Q s w p
  refine (zAK A).step errT s w p fun d v G1 H1 S _ fr o p1=>?_
  cases d with
  | bl b =>
    cases (show v = .bl b from o)
    exact p1 H1 fr.ext.h
  | _=>exact p1.elim
theorem dt_m (A:DE mg E ta ma k):DT mg E (bM ta) (Mi.tM ma):=by
  intro G H σ ρ Q s w p
  refine (zAK A).step errT s w p fun d v G1 H1 S _ fr o p1=>?_
  cases d with
  | bl b=>cases (show v = .bl b from o); exact p1 H1 fr.ext.h
  | int b=>cases (show v = .int b from o); exact p1 H1 fr.ext.h
  | non=>cases (show v = .non from o); exact p1 H1 fr.ext.h
  | _=>exact p1.elim
variable {tA tB:TT} {cA cB:TM}
theorem zX7 (A:DT mg E tA cA) (B:DT mg E tB cB):DT mg E (L2.tAnd tA tB) (Mi.tAn cA cB):=by
  intro G H σ ρ Q s w p
  refine A.step errT s w p fun b H' _ sH p1=>?_
  cases b with
  | true=>exact B G H' σ ρ Q (s.trans sH) w (PostT.from p1 (Ext.same s sH))
  | false=>exact p1 H' sH
theorem zFC (A:DT mg E tA cA) (B:DT mg E tB cB):DT mg E (L2.tOr tA tB) (Mi.tOr cA cB):=by
  intro G H σ ρ Q s w p
  refine A.step errT s w p fun b H' _ sH p1=>?_
  cases b with
  | false=>exact B G H' σ ρ Q (s.trans sH) w (PostT.from p1 (Ext.same s sH))
  | true=>exact p1 H' sH
theorem zK4 (A:DT mg E tA cA):DT mg E (L2.tNot tA) (Mi.tNo cA):=by
  intro G H σ ρ Q s w p
  exact A.step errT s w p fun b H' _ sH p1=>p1 H' sH
theorem zGI:DT mg E L2.tYes Mi.tYes:=fun G H σ ρ Q s w p=>p H (Same.refl _)
variable {t:TA} {m:AM}
theorem zA9:DA mg E tNil Mi.aNil n:=fun G H σ ρ Q s w p=>p [] G H (fun _=>False) (fun _ _=>False) ⟨Ext.refl s,fun _ z=>z.elim⟩ ⟨rfl,fun q d x h=>by simp at h,fun _ _ _ z=>z.elim,fun _ _ z=>z.elim⟩
theorem zA1 (A:DE mg E ta ma n) (B:DA mg E t m n):DA mg E (zDF ta t) (Mi.aCons ma m) n:=by
  intro G H σ ρ Q s w p
  refine A.step errA s w p fun d v G1 H1 S1 _ fr o p1=>?_
  refine B.step (errA.from fr.ext) fr.ext.in' (w.mono fr.ext.g) p1 fun ds vs G2 H2 S2 T2 _ fr2 o2 p2=>?_
  refine p2 (v :: vs) G2 H2 (fun a=>S1 a ∨ S2 a) (fun q=>match q with | 0=>S1 | q + 1=>T2 q) ⟨fr.ext.trans fr2.ext,fun a ha=>?_⟩ ⟨by simp [o2.len],fun q d' x h1 h2=>?_,fun q r b h1 h2=>?_,fun q b h=>?_⟩
  · rcases ha with ha | ha
    · obtain ⟨n1,n2,n3⟩:=fr.new a ha
      exact ⟨n1,(fr2.ext.old a n3).trans n2,fr2.ext.h.some n3⟩
    · obtain ⟨n1,n2,n3⟩:=fr2.new a ha
      exact ⟨fr.ext.h.free n1,n2,n3⟩
  · cases q with
    | zero=>simp at h1 h2; subst h1; subst h2; exact o.mono fr2.ext.g fr2.ext.h
    | succ q=>exact o2.own q d' x (by simpa using h1) (by simpa using h2)
  · have ap:∀ r b,S1 b → T2 r b → False:=fun r b h1 h2=>(fr.new b h1).2.2 (fr2.new b (o2.sub r b h2)).1
    cases q with
    | zero =>
      cases r with
      | zero=>rfl
      | succ r=>exact (ap r b h1 h2).elim
    | succ q =>
      cases r with
      | zero=>exact (ap q b h2 h1).elim
      | succ r=>rw [o2.dis q r b h1 h2]
  · cases q with
    | zero=>exact .inl h
    | succ q=>exact .inr (o2.sub q b h)
theorem OwnA.repL {G H:Hp} {S:Addr → Prop} {ds:List Dt} {vs:List V} {T:Nat → Addr → Prop} (o:OwnA G H 0 S ds vs T):RepL G ds vs:=zEX o.len fun q d x h1 h2=>o.own q d x h1 h2
theorem big' {n:Nat} (h:n ≤ 100000):n ≤ sizeLine:=qC6 (L2.big h)
theorem Fr.add {G H G' H':Hp} {S:Addr → Prop} (f:Fr G H G' H' S) {p:Addr} (hp:H' p = none) (o:HO):Fr G H G' (upd H' p o) (fun a=>a = p ∨ S a):=by
  have sn:=L2.same_new hp o
  refine ⟨⟨f.ext.g,f.ext.h.trans sn,f.ext.in'.trans sn,f.ext.old⟩,fun a ha=>?_⟩
  rcases ha with rfl | ha
  · exact ⟨f.ext.h.free hp,f.ext.in'.free hp,by rw [zAH]; simp⟩
  · obtain ⟨n1,n2,n3⟩:=f.new a ha
    exact ⟨n1,n2,sn.some n3⟩
theorem OwnA.kids {G' H':Hp} {S:Addr → Prop} {ds:List Dt} {vs:List V} {T:Nat → Addr → Prop} (o:OwnA G' H' n S ds vs T) (hn:∀ a,S a → H' a ≠ none) {p:Addr} (hp:H' p = none) (ob:HO) :
    Kids (Own G' (upd H' p ob) n) (fun a=>a = p ∨ S a) p ds vs T :=
  ⟨o.len,fun q d x h1 h2=>(o.own q d x h1 h2).mono (Same.refl _) (L2.same_new hp ob),.inl rfl,fun q z=>hn p (o.sub q p z) hp,o.dis,fun q b z=>.inr (o.sub q b z)⟩
theorem zK7 (A:DA mg E t m n):DE mg E (tLst t) (Mi.eLst m) (n + 1):=by
  intro G H σ ρ Q s w p
  refine A.step errE s w p fun ds vs G1 H1 S T _ fr o p1=>?_
  by_cases hz:ds.length ≤ 100000
  · rw [if_pos hz] at p1
    refine ⟨by rw [o.len]; exact big' hz,fun a ha=>?_⟩
    exact p1 (.ref a) G1 _ _ (fr.add ha _) ⟨a,vs,T,rfl,zAH,o.kids (fun b hb=>(fr.new b hb).2.2) ha _⟩
  · rw [if_neg hz] at p1; exact p1.elim
theorem zK6 (A:DA mg E t m n):DE mg E (tTup t) (Mi.eTup m) (n + 1):=by
  intro G H σ ρ Q s w p
  refine A.step errE s w p fun ds vs G1 H1 S T _ fr o p1=>?_
  by_cases hz:ds.length ≤ 100000
  · rw [if_pos hz] at p1
    refine ⟨by rw [o.len]; exact big' hz,fun a ha=>?_⟩
    exact p1 (.ref a) G1 _ _ (fr.add ha _) ⟨a,vs,T,rfl,zAH,o.kids (fun b hb=>(fr.new b hb).2.2) ha _⟩
  · rw [if_neg hz] at p1; exact p1.elim
theorem PostE.lst {G H G' H':Hp} {ds:List Dt} {xs:List V} {Q:VK} (p:PostE mg E G H 1 (okR (.lst ds)) Q) (x:Ext G H G' H') (r:RepL G' ds xs) {a:Addr} (ha:H' a = none):Q (.ref a) (upd H' a (.lst xs)):=by
  have fr:Fr G H G' H' (fun _=>False):=⟨x,fun _ z=>z.elim⟩
  refine p (.ref a) G' _ _ (fr.add ha (.lst xs)) ⟨a,xs,fun _ _=>False,rfl,zAH,⟨r.length,fun q d y h1 h2=>zD4 r h1 h2,.inl rfl,fun _ z=>z,fun _ _ _ z=>z.elim,fun _ _ z=>z.elim⟩⟩
def CBi (r:List V → Hp → VK → Prop) (f:List Dt → Option Dt) (n:Nat):Prop:=∀ (mg:Str → Option Value) (E:XK) (G H:Hp) (ds:List Dt) (vs:List V) (Q:VK),Same G H → RepL G ds vs → PostE mg E G H n (optR (f ds)) Q → r vs H Q
theorem zCA {r:List V → Hp → VK → Prop} {f:List Dt → Option Dt} (hr:CBi r f n) (A:DA mg E t m 0):DE mg E (tCB r t) (Mi.eBi f m) n:=by
  intro G H σ ρ Q s w p
  refine A.step errE s w p fun ds vs G1 H1 S T _ fr o p1=>?_
  exact hr mg E G1 H1 ds vs Q fr.ext.in' o.repL (PostE.from p1 fr.ext)
noncomputable def spM (mg:Str → Option Value) (L:Nat) (f:FM):Sp:=fun vs H Q E=>∃ G ds,Same G H ∧ RepL G ds vs ∧ PostE mg E G H L (f ds) Q
theorem zAS {f:FM} (A:DA mg E t m 0):DE mg E (zGV (spM mg n f) [] E t) (Mi.eCall f m) n:=by
  intro G H σ ρ Q s w p
  refine A.step errE s w p fun ds vs G1 H1 S T _ fr o p1=>?_
  exact ⟨G1,ds,fr.ext.in',by rw [qCp]; exact o.repL,PostE.from p1 fr.ext⟩
theorem zTL {G H:Hp} {o:Option Dt} {Q:VK} {d:Dt} {v:V} (s:Same G H) (p:PostE mg E G H n (optR o) Q) (e:o = some d) (hd:d.dep = 0) (h:Rep G d v):Q v H:=by
  subst e; exact PostE.val p (Ext.refl s) hd h
theorem zAX:ROp zW3 Mi.addD 1:=by
  intro mg E G H d e x y Q s h1 h2 p
  cases d with
  | int i =>
    cases e with
    | int j=>cases (show x = .int i from h1); cases (show y = .int j from h2); exact zTL s p rfl rfl rfl
    | _=>exact p.elim
  | str i =>
    cases e with
    | str j =>
      cases (show x = .str i from h1); cases (show y = .str j from h2)
      rw [Mi.addD] at p
      by_cases hz:i.length + j.length ≤ 100000
      · rw [if_pos hz] at p
        exact ⟨big' hz,PostE.val p (Ext.refl s) rfl rfl⟩
      · rw [if_neg hz] at p; exact p.elim
    | _=>exact p.elim
  | lst ds =>
    cases e with
    | lst es =>
      obtain ⟨a,xs,rfl,ha,ra⟩:=h1
      obtain ⟨b,ys,rfl,hb,rb⟩:=h2
      rw [Mi.addD] at p
      by_cases hz:ds.length + es.length ≤ 100000
      · rw [if_pos hz] at p
        refine ⟨xs,ys,s _ _ ha,s _ _ hb,by rw [ra.length,rb.length]; exact big' hz,fun q hq=>?_⟩
        refine PostE.lst p (Ext.refl s) (zEX (by simp [ra.length,rb.length]) fun j d' x' e1 e2=>?_) hq
        by_cases hj:j < ds.length
        · rw [qAg hj] at e1
          rw [qAg (by rw [ra.length]; exact hj)] at e2
          exact zD4 ra e1 e2
        · rw [qAd (by omega)] at e1
          rw [qAd (by rw [ra.length]; omega),ra.length] at e2
          exact zD4 rb e1 e2
      · rw [if_neg hz] at p; exact p.elim
    | _=>exact p.elim
  | _=>exact p.elim
theorem zRT:ROp zVV Mi.subD n:=by
  intro mg E G H d e x y Q s h1 h2 p
  cases d with
  | int i =>
    cases e with
    | int j=>cases (show x = .int i from h1); cases (show y = .int j from h2); exact zTL s p rfl rfl rfl
    | _=>exact p.elim
  | _=>exact p.elim
theorem zE1:ROp zVX Mi.mulD n:=by
  intro mg E G H d e x y Q s h1 h2 p
  cases d with
  | int i =>
    cases e with
    | int j =>
      cases (show x = .int i from h1); cases (show y = .int j from h2)
      rw [Mi.mulD] at p
      split at p
      · rename_i hz; exact ⟨hz,PostE.val p (Ext.refl s) rfl rfl⟩
      · exact p.elim
    | _=>exact p.elim
  | _=>exact p.elim
theorem zE2:ROp zW1 Mi.divD n:=by
  intro mg E G H d e x y Q s h1 h2 p
  cases d with
  | int i =>
    cases e with
    | int j =>
      cases (show x = .int i from h1); cases (show y = .int j from h2)
      rw [Mi.divD] at p
      split at p
      · rename_i hz; exact ⟨hz,PostE.val p (Ext.refl s) rfl rfl⟩
      · exact p.elim
    | _=>exact p.elim
  | _=>exact p.elim
theorem zBN:ROp zVY Mi.modD n:=by
  intro mg E G H d e x y Q s h1 h2 p
  cases d with
  | int i =>
    cases e with
    | int j =>
      cases (show x = .int i from h1); cases (show y = .int j from h2)
      rw [Mi.modD] at p
      split at p
      · rename_i hz; exact ⟨hz,PostE.val p (Ext.refl s) rfl rfl⟩
      · exact p.elim
    | _=>exact p.elim
  | _=>exact p.elim
theorem zFX {q:Int → Int → Bool}:ROp (zTO q) (Mi.cmpD q) n:=by
  intro mg E G H d e x y Q s h1 h2 p
  cases d with
  | int i =>
    cases e with
    | int j=>cases (show x = .int i from h1); cases (show y = .int j from h2); exact zTL s p rfl rfl rfl
    | _=>exact p.elim
  | _=>exact p.elim
theorem zSE {G H:Hp} {d e:Dt} {x y:V} {Q:VK} {ng:Bool} (s:Same G H) (h1:Rep G d x) (h2:Rep G e y) (hd:d.dep ≤ 40) (he:e.dep ≤ 40) (q:Q (.bl (if ng then !Dt.eq d e else Dt.eq d e)) H) :
    ∃ d' e',L2.Rep H d' x ∧ L2.Rep H e' y ∧ d'.dep ≤ 40 ∧ Q (.bl (if ng then !L2.Dat.eq d' e' else L2.Dat.eq d' e')) H :=
  ⟨conv d,conv e,zDU hd (Rep.mono s h1),zDU he (Rep.mono s h2),qAo (zEQ hd) hd,by rw [zLA hd he]; exact q⟩
theorem zF2 {α:Type} [DecidableEq α] (a b:α):(a == b) = decide (a = b):=by
  by_cases h:a = b
  · subst h; simp
  · simp [h]
theorem zI5 {G:Hp} {d:Dt} {i:Int} (h:Rep G d (.int i)):d = .int i:=by
  cases d with
  | int k=>cases h; rfl
  | non=>cases h
  | bl _=>cases h
  | str _=>cases h
  | lst _=>obtain ⟨_,_,z,_⟩:=h; cases z
  | tup _=>obtain ⟨_,_,z,_⟩:=h; cases z
  | scr _=>obtain ⟨_,z,_⟩:=h; cases z
  | exc _ _ _=>obtain ⟨_,_,_,z,_⟩:=h; cases z
  | ins _ _=>obtain ⟨_,_,_,z,_⟩:=h; cases z
  | dct _=>obtain ⟨_,z,_⟩:=h; cases z
theorem zI4 {G:Hp} {d:Dt} {i:Str} (h:Rep G d (.str i)):d = .str i:=by
  cases d with
  | str k=>cases h; rfl
  | non=>cases h
  | bl _=>cases h
  | int _=>cases h
  | lst _=>obtain ⟨_,_,z,_⟩:=h; cases z
  | tup _=>obtain ⟨_,_,z,_⟩:=h; cases z
  | scr _=>obtain ⟨_,z,_⟩:=h; cases z
  | exc _ _ _=>obtain ⟨_,_,_,z,_⟩:=h; cases z
  | ins _ _=>obtain ⟨_,_,_,z,_⟩:=h; cases z
  | dct _=>obtain ⟨_,z,_⟩:=h; cases z
theorem zLQ {G:Hp} {d:Dt} {i:Bool} (h:Rep G d (.bl i)):d = .bl i:=by
  cases d with
  | bl k=>cases h; rfl
  | non=>cases h
  | str _=>cases h
  | int _=>cases h
  | lst _=>obtain ⟨_,_,z,_⟩:=h; cases z
  | tup _=>obtain ⟨_,_,z,_⟩:=h; cases z
  | scr _=>obtain ⟨_,z,_⟩:=h; cases z
  | exc _ _ _=>obtain ⟨_,_,_,z,_⟩:=h; cases z
  | ins _ _=>obtain ⟨_,_,_,z,_⟩:=h; cases z
  | dct _=>obtain ⟨_,z,_⟩:=h; cases z
theorem zEW:ROp rEqU Mi.eqD n:=by
  intro mg E G H d e x y Q s h1 h2 p
  unfold Mi.eqD at p
  split at p
  · rename_i hz
    have q:Q (.bl (Dt.eq d e)) H:=PostE.val p (Ext.refl s) rfl rfl
    have g:=zSE (ng:=false) (Q:=Q) s h1 h2 hz.1 hz.2 q
    unfold rEqU
    split
    · rw [zI5 h1,zI5 h2,Dt.eq,zF2] at q; exact q
    · rw [zI4 h1,zI4 h2,Dt.eq,zF2] at q; exact q
    · rw [zLQ h1,zLQ h2,Dt.eq,zF2] at q; exact q
    · exact g
  · exact p.elim
theorem zGW:ROp rNeU Mi.neD n:=by
  intro mg E G H d e x y Q s h1 h2 p
  unfold Mi.neD at p
  split at p
  · rename_i hz
    have q:Q (.bl (!Dt.eq d e)) H:=PostE.val p (Ext.refl s) rfl rfl
    have g:=zSE (ng:=true) (Q:=Q) s h1 h2 hz.1 hz.2 q
    unfold rNeU
    split
    · rw [zI5 h1,zI5 h2,Dt.eq,zF2] at q; exact q
    · rw [zI4 h1,zI4 h2,Dt.eq,zF2] at q; exact q
    · rw [zLQ h1,zLQ h2,Dt.eq,zF2] at q; exact q
    · exact g
  · exact p.elim
theorem zM2 {G:Hp} {d:Dt} {x:V} (h:Rep G d x):decide (x = .non) = Mi.isNonD d:=by
  cases d with
  | non=>cases h; rfl
  | bl _=>cases h; rfl
  | int _=>cases h; rfl
  | str _=>cases h; rfl
  | lst _=>obtain ⟨_,_,rfl,_⟩:=h; rfl
  | tup _=>obtain ⟨_,_,rfl,_⟩:=h; rfl
  | scr _=>obtain ⟨_,rfl,_⟩:=h; rfl
  | exc _ _ _=>obtain ⟨_,_,_,rfl,_⟩:=h; rfl
  | ins _ _=>obtain ⟨_,_,_,rfl,_⟩:=h; rfl
  | dct _=>obtain ⟨_,rfl,_⟩:=h; rfl
theorem zTG:ROp (fun x y H Q=>y = .non ∧ Q (.bl (decide (x = .non))) H) Mi.isD n:=by
  intro mg E G H d e x y Q s h1 h2 p
  cases e with
  | non=>exact ⟨h2,by rw [zM2 h1]; exact PostE.val p (Ext.refl s) rfl rfl⟩
  | _=>exact p.elim
theorem zTF:ROp (fun x y H Q=>y = .non ∧ Q (.bl (!decide (x = .non))) H) Mi.isntD n:=by
  intro mg E G H d e x y Q s h1 h2 p
  cases e with
  | non=>exact ⟨h2,by rw [zM2 h1]; exact PostE.val p (Ext.refl s) rfl rfl⟩
  | _=>exact p.elim
theorem zON (n:Nat) (i:Int):Mi.ixA n i = ixN n i:=rfl
theorem zS8 {α:Type} (xs:List α) (i:Int):Mi.itA xs i = atI xs i:=rfl
theorem zSS {G:Hp} {ds:List Dt} {xs:List V} {i:Int} {d:Dt} (r:RepL G ds xs) (h:Mi.itA ds i = some d):∃ x,atI xs i = some x ∧ Rep G d x:=by
  rw [zS8] at h
  unfold atI at h ⊢
  rw [r.length]
  cases e:ixN ds.length i with
  | none=>rw [e] at h; cases h
  | some j =>
    rw [e] at h
    have h':ds[j]? = some d:=h
    have hj:j < xs.length:=by rw [r.length]; exact (qA2.mp h').1
    exact ⟨xs[j],by simp [hj],zD4 r h' (by simp [hj])⟩
theorem zCM:ROp (rIxU Kc.K) Mi.ixD 0:=by
  intro mg E G H d e x y Q s h1 h2 p
  cases e with
  | int i =>
    cases (show y = .int i from h2)
    cases d with
    | lst ds =>
      obtain ⟨a,xs,rfl,ha,ra⟩:=h1
      cases er:Mi.itA ds i with
      | none=>rw [Mi.ixD,er] at p; exact p.elim
      | some c =>
        rw [Mi.ixD,er] at p
        obtain ⟨v,e1,r1⟩:=zSS ra er
        exact ⟨xs,v,.inl (SqL.of (s _ _ ha)),e1,PostE.kept p (Ext.refl s) r1⟩
    | tup ds =>
      obtain ⟨a,xs,rfl,ha,ra⟩:=h1
      cases er:Mi.itA ds i with
      | none=>rw [Mi.ixD,er] at p; exact p.elim
      | some c =>
        rw [Mi.ixD,er] at p
        obtain ⟨v,e1,r1⟩:=zSS ra er
        exact ⟨xs,v,.inr (SqT.of (s _ _ ha)),e1,PostE.kept p (Ext.refl s) r1⟩
    | scr ns =>
      obtain ⟨a,rfl,ha⟩:=h1
      cases er:Mi.itA ns i with
      | none=>rw [Mi.ixD,er] at p; exact p.elim
      | some c =>
        rw [Mi.ixD,er] at p
        refine ⟨ns.map V.int,.int c,zEG s ha,?_,PostE.kept p (Ext.refl s) rfl⟩
        rw [zS8] at er
        unfold atI at er ⊢
        rw [qAm]
        cases e:ixN ns.length i with
        | none=>rw [e] at er; cases er
        | some j =>
          rw [e] at er
          have er':ns[j]? = some c:=er
          show (ns.map V.int)[j]? = some (.int c)
          rw [qAl,er']; rfl
    | str z =>
      cases (show x = .str z from h1)
      rw [Mi.ixD] at p
      by_cases hz:z.length ≤ 100000
      · rw [if_pos hz] at p
        cases er:Mi.itA z.cps.toList i with
        | none=>rw [er] at p; exact p.elim
        | some c=>rw [er] at p; exact ⟨c,big' hz,er,PostE.kept p (Ext.refl s) rfl⟩
      · rw [if_neg hz] at p; exact p.elim
    | _=>exact p.elim
  | _=>cases d <;> exact p.elim
theorem zDG {G:Hp} {d:Dt} {vs:List V} (h:RepL G [d] vs):∃ x,vs = [x] ∧ Rep G d x:=by
  obtain ⟨x,q,rfl,a,b⟩:=h
  cases (show q = [] from b)
  exact ⟨x,rfl,a⟩
theorem zVS {G:Hp} {d e:Dt} {vs:List V} (h:RepL G [d,e] vs):∃ x y,vs = [x,y] ∧ Rep G d x ∧ Rep G e y:=by
  obtain ⟨x,q,rfl,a,b⟩:=h
  obtain ⟨y,rfl,c⟩:=zDG b
  exact ⟨x,y,rfl,a,c⟩
theorem zCJ:CBi (zTM Kc.K) Mi.lenD n:=by
  intro mg E G H ds vs Q s h p
  cases ds with
  | nil=>exact p.elim
  | cons a0 r0 =>
    cases r0 with
    | cons _ _=>cases a0 <;> exact p.elim
    | nil =>
      cases a0 with
      | lst es =>
        obtain ⟨x,rfl,a,xs,rfl,ha,ra⟩:=zDG h
        exact ⟨xs,.inl (SqL.of (s _ _ ha)),by rw [ra.length]; exact PostE.val p (Ext.refl s) rfl rfl⟩
      | tup es =>
        obtain ⟨x,rfl,a,xs,rfl,ha,ra⟩:=zDG h
        exact ⟨xs,.inr (SqT.of (s _ _ ha)),by rw [ra.length]; exact PostE.val p (Ext.refl s) rfl rfl⟩
      | scr ns =>
        obtain ⟨x,rfl,a,rfl,ha⟩:=zDG h
        refine ⟨ns.map V.int,zEG s ha,?_⟩
        rw [qAm]
        exact PostE.val p (Ext.refl s) rfl rfl
      | str z =>
        obtain ⟨x,rfl,hx⟩:=zDG h
        cases (show x = .str z from hx)
        rw [Mi.lenD] at p
        by_cases hz:z.length ≤ 100000
        · rw [if_pos hz] at p
          exact ⟨big' hz,PostE.val p (Ext.refl s) rfl rfl⟩
        · rw [if_neg hz] at p; exact p.elim
      | _=>exact p.elim
theorem zCD {G:Hp}:∀ (ns:List Int),RepL G (ns.map Dt.int) (ns.map V.int)
  | []=>rfl
  | _ :: r=>⟨_,_,rfl,rfl,zCD r⟩
theorem zUT:CBi (zHA Kc.K) Mi.listD 1:=by
  intro mg E G H ds vs Q s h p
  cases ds with
  | nil=>exact p.elim
  | cons a0 r0 =>
    cases r0 with
    | cons _ _=>cases a0 <;> exact p.elim
    | nil =>
      cases a0 with
      | lst es =>
        obtain ⟨x,rfl,a,xs,rfl,ha,ra⟩:=zDG h
        exact .inl ⟨xs,.inl (SqL.of (s _ _ ha)),fun l hl=>PostE.lst p (Ext.refl s) ra hl⟩
      | tup es =>
        obtain ⟨x,rfl,a,xs,rfl,ha,ra⟩:=zDG h
        exact .inl ⟨xs,.inr (SqT.of (s _ _ ha)),fun l hl=>PostE.lst p (Ext.refl s) ra hl⟩
      | scr ns =>
        obtain ⟨x,rfl,a,rfl,ha⟩:=zDG h
        exact .inl ⟨ns.map V.int,zEG s ha,fun l hl=>PostE.lst p (Ext.refl s) (zCD ns) hl⟩
      | _=>exact p.elim
theorem zQ2 {G:Hp} (lo:Int) (k:Nat):RepL G (Mi.nums lo k) (zG7 lo k):=by
  unfold Mi.nums zG7
  refine zEX (by simp) fun q d x h1 h2=>?_
  rw [qAl] at h1 h2
  cases e:(qA4 k)[q]? with
  | none=>rw [e] at h1; cases h1
  | some j=>rw [e] at h1 h2; cases h1; cases h2; rfl
theorem zF7 {K:qA1} (A:DA mg E t m 0):DE mg E (tCB (zHA K) (zDF (tCB zNV t) tNil)) (Mi.eBi Mi.rangeD m) 1:=by
  intro G H σ ρ Q s w p
  refine A.step errE s w p fun ds vs G1 H1 S T _ fr o p1=>?_
  have p2:=PostE.from p1 fr.ext
  have r:=o.repL
  have s1:=fr.ext.in'
  have fin:∀ (lo hi:Int),(-4611686018427387904 ≤ lo ∧ lo < 4611686018427387904 ∧ -4611686018427387904 ≤ hi ∧ hi < 4611686018427387904) → hi - lo ≤ 100000 → PostE mg E G1 H1 1 (okR (.lst (Mi.nums lo (hi - lo).toNat))) Q →
      ∀ q,H1 q = none → zHA K [.ref q] (upd H1 q (.rng lo hi)) Q:=by
    intro lo hi hb hz pp q hq
    refine .inr ⟨lo,hi,zAH,⟨by omega,by omega,by omega,by omega⟩,by omega,fun l hl=>?_⟩
    have sn:=L2.same_new hq (.rng lo hi)
    exact PostE.lst pp (Ext.same s1 sn) (zQ2 lo _) hl
  cases ds with
  | nil=>exact p2.elim
  | cons a0 r0 =>
    cases a0 with
    | int i =>
      cases r0 with
      | nil =>
        obtain ⟨x,rfl,hx⟩:=zDG r
        cases (show x = .int i from hx)
        rw [Mi.rangeD] at p2
        split at p2
        · rename_i hz
          intro q hq
          refine fin 0 i ⟨by decide,by decide,hz.1.1,hz.1.2⟩ (by omega) ?_ q hq
          rw [Int.sub_zero]
          exact p2
        · exact p2.elim
      | cons b0 r1 =>
        cases r1 with
        | cons _ _=>cases b0 <;> exact p2.elim
        | nil =>
          cases b0 with
          | int j =>
            obtain ⟨x,y,rfl,hx,hy⟩:=zVS r
            cases (show x = .int i from hx)
            cases (show y = .int j from hy)
            rw [Mi.rangeD] at p2
            split at p2
            · rename_i hz
              exact fun q hq=>fin i j hz.1 hz.2 p2 q hq
            · exact p2.elim
          | _=>exact p2.elim
    | _=>rcases r0 with _ | ⟨_,_ | _⟩ <;> exact p2.elim
theorem zXP {G H:Hp} {d:Dt} {x:V} (s:Same G H) (h:Rep G d x) (hd:Mi.tyD d ≠ ""):zFQ H x = some (Mi.tyD d):=by
  cases d with
  | non=>cases h; rfl
  | bl _=>cases h; rfl
  | int _=>cases h; rfl
  | str _=>cases h; rfl
  | lst _=>obtain ⟨a,xs,rfl,ha,_⟩:=h; unfold zFQ; dsimp only; rw [s _ _ ha]; rfl
  | tup _=>obtain ⟨a,xs,rfl,ha,_⟩:=h; unfold zFQ; dsimp only; rw [s _ _ ha]; rfl
  | scr _=>exact absurd rfl hd
  | exc _ _ _=>exact absurd rfl hd
  | ins _ _=>exact absurd rfl hd
  | dct _=>exact absurd rfl hd
theorem zP7 {nm:String} (hn:nm ∈ ["int","bool","str","list","tuple","dict"]) (A:DE mg E ta ma k):DE mg E (tCB zW0 (zDF ta (zDF (tC (.ty nm)) tNil))) (Mi.eIsi nm ma) n:=by
  intro G H σ ρ Q s w p
  refine (zAK A).step errE s w p fun d v G1 H1 S _ fr o p1=>?_
  have p2:=PostE.from p1 fr.ext
  unfold Mi.isiD at p2
  split at p2
  · exact p2.elim
  · rename_i hd
    exact ⟨Mi.tyD d,zXP fr.ext.in' o hd,hn,PostE.val p2 (Ext.refl fr.ext.in') rfl rfl⟩
theorem zKD {G:Hp}:∀ {ds:List Dt} {bs:List Bool} {xs:List V},Mi.boolsD ds = some bs → RepL G ds xs → xs = bs.map V.bl
  | [],bs,xs,h,r=>by cases h; exact r
  | .bl b :: ds,bs,xs,h,r=>by
    obtain ⟨x,q,rfl,a,c⟩:=r
    rw [Mi.boolsD] at h
    cases e:Mi.boolsD ds with
    | none=>rw [e] at h; cases h
    | some cs =>
      rw [e] at h
      cases h
      rw [zKD e c,show x = .bl b from a]
      rfl
  | .non :: _,_,_,h,_=>by simp [Mi.boolsD] at h
  | .int _ :: _,_,_,h,_=>by simp [Mi.boolsD] at h
  | .str _ :: _,_,_,h,_=>by simp [Mi.boolsD] at h
  | .lst _ :: _,_,_,h,_=>by simp [Mi.boolsD] at h
  | .tup _ :: _,_,_,h,_=>by simp [Mi.boolsD] at h
  | .scr _ :: _,_,_,h,_=>by simp [Mi.boolsD] at h
  | .exc _ _ _ :: _,_,_,h,_=>by simp [Mi.boolsD] at h
  | .ins _ _ :: _,_,_,h,_=>by simp [Mi.boolsD] at h
  | .dct _ :: _,_,_,h,_=>by simp [Mi.boolsD] at h
theorem zXH:CBi zW2 Mi.allD n:=by
  intro mg E G H ds vs Q s h p
  match ds,h,p with
  | [.lst es],h,p =>
    obtain ⟨x,rfl,a,xs,rfl,ha,ra⟩:=zDG h
    rw [Mi.allD] at p
    cases e:Mi.boolsD es with
    | none=>rw [e] at p; exact p.elim
    | some bs =>
      rw [e] at p
      exact ⟨bs,by rw [← zKD e ra]; exact s _ _ ha,PostE.val p (Ext.refl s) rfl rfl⟩
  | [],_,p=>exact p.elim
  | [.non],_,p=>exact p.elim
  | [.bl _],_,p=>exact p.elim
  | [.int _],_,p=>exact p.elim
  | [.str _],_,p=>exact p.elim
  | [.tup _],_,p=>exact p.elim
  | [.scr _],_,p=>exact p.elim
  | [.exc _ _ _],_,p=>exact p.elim
  | [.ins _ _],_,p=>exact p.elim
  | [.dct _],_,p=>exact p.elim
  | x :: _ :: _,_,p=>cases x <;> exact p.elim
end
end L3
namespace L3
open PySem PySem.Spec
open L2 hiding Rep RepL
open Mi (Dt Xn R okR zA2 optR bindR_ok zAA zAD zAB zAC Rh Sl Ro EM TM AM FM IM SM Tg Out zAZ zAR zB4 full frz frz1 frzAt)
variable [Kc]
def ItOk (J:It) (G:Hp) (ds:List Dt):Prop:=∀ (i:Nat) (G1 H1:Hp),Same G G1 → Same G1 H1 → (i < ds.length → J.go i H1) ∧ (ds.length ≤ i → J.stop i H1) ∧ ∀ x H2 d,ds[i]? = some d → J.yld i H1 x H2 → ∃ G2,Ext G1 H1 G2 H2 ∧ Rep G2 d x
noncomputable def zPK (ind:Bool) (G:Hp):Hp:=if ind = true then (fun _=>none) else G
def zXJ (mg:Str → Option Value) (E:XK) (G H:Hp) (ind:Bool) (r:R (List Dt)) (Q:It → Hp → Prop):Prop:=match r with
  | none=>False
  | some (.error x)=>∀ c da G' H',Ext G H G' H' → XRep mg x c da G' H' → E c da H'
  | some (.ok ds)=>∀ J G' H',Ext G H G' H' → ItOk J (zPK ind G') ds → Q J H'
def DI (mg:Str → Option Value) (E:XK) (t:TI) (m:IM) (ind:Bool):Prop:=∀ (G H:Hp) (σ:St) (ρ:Rh) (Q:It → Hp → Prop),Same G H → View G σ ρ → zXJ mg E G H ind (m ρ) Q → t σ H Q
section
variable {mg:Str → Option Value} {E:XK} {n k l:Nat} {ta te:TE} {ma me:EM} {t:TA} {m:AM} {ind:Bool}
theorem errI {G H:Hp} {Q:It → Hp → Prop}:Err mg E G H (fun r=>zXJ mg E G H ind r Q):=⟨fun h=>h,fun _ h=>h⟩
theorem errB {G H:Hp} {α β:Type} {P:R β → Prop} (e:Err mg E G H P) (g:α → R β):Err mg E G H (fun r=>P (zA2 r g)):=⟨fun h=>e.no h,fun x h=>e.er x h⟩
theorem DI.step {β:Type} {t:TI} {m:IM} (D:DI mg E t m ind) {G H:Hp} {σ:St} {ρ:Rh} {Q:It → Hp → Prop} {P:R β → Prop} {f:List Dt → R β} (hE:Err mg E G H P) (s:Same G H) (w:View G σ ρ) (p:P (zA2 (m ρ) f))
    (h:∀ ds J G' H',m ρ = okR ds → Ext G H G' H' → ItOk J (zPK ind G') ds → P (f ds) → Q J H'):t σ H Q:=by
  refine D G H σ ρ Q s w ?_
  cases e:m ρ with
  | none=>rw [e] at p; exact hE.no p
  | some r =>
    rw [e] at p
    cases r with
    | error x=>exact hE.er x p
    | ok ds=>exact fun J G' H' x i=>h ds J G' H' e x i p
theorem zS7 {K:qA1} {G:Hp} {a:Addr} {xs:List V} {ds:List Dt} (ha:SqL K G a xs) (r:RepL G ds xs):ItOk (Itl K a) G ds:=by
  intro i G1 H1 s1 s2
  have hS:SqL K H1 a xs:=(s1.trans s2).seq ha
  refine ⟨fun hi=>⟨xs,xs[i]'(by rw [r.length]; exact hi),hS,by simp⟩,fun hi=>⟨xs,hS,by rw [r.length]; exact hi⟩,fun x H2 d hd hy=>?_⟩
  obtain ⟨rfl,hy⟩:=hy
  exact ⟨G1,Ext.refl s2,Rep.mono s1 (zD4 r hd (hy xs hS))⟩
theorem zS6 {K:qA1} {G:Hp} {a:Addr} {xs:List V} {ds:List Dt} (ha:SqT K G a xs) (r:RepL G ds xs):ItOk (Itt K a) G ds:=by
  intro i G1 H1 s1 s2
  have hS:SqT K H1 a xs:=zFW (s1.trans s2) ha
  refine ⟨fun hi=>⟨xs,xs[i]'(by rw [r.length]; exact hi),hS,by simp⟩,fun hi=>⟨xs,hS,by rw [r.length]; exact hi⟩,fun x H2 d hd hy=>?_⟩
  obtain ⟨rfl,hy⟩:=hy
  exact ⟨G1,Ext.refl s2,Rep.mono s1 (zD4 r hd (hy xs hS))⟩
theorem zX0 {G:Hp} (lo:Int) (k:Nat):ItOk (Itr lo k) G (Mi.nums lo k):=by
  intro i G1 H1 s1 s2
  have hl:(Mi.nums lo k).length = k:=by simp [Mi.nums]
  refine ⟨fun hi=>by rw [hl] at hi; exact hi,fun hi=>by rw [hl] at hi; exact hi,fun x H2 d hd hy=>?_⟩
  obtain ⟨rfl,rfl⟩:=hy
  refine ⟨G1,Ext.refl s2,?_⟩
  unfold Mi.nums at hd
  rw [qAl] at hd
  cases e:(qA4 k)[i]? with
  | none=>rw [e] at hd; cases hd
  | some j =>
    rw [e] at hd
    cases hd
    have hj:j = i:=by
      obtain ⟨h1,h2⟩:=qA2.mp e
      rw [qDk] at h2; exact h2.symm
    subst hj
    rfl
theorem zUM (A:DA mg E t m 0):DI mg E (zX2 t) (Mi.iR1 m) true:=by
  intro G H σ ρ Q s w p
  refine A.step errI s w p fun ds vs G1 H1 S T _ fr o p1=>?_
  have r:=o.repL
  match ds,r,p1 with
  | [.int j],r,p1 =>
    obtain ⟨x,rfl,hx⟩:=zDG r
    cases (show x = .int j from hx)
    dsimp only at p1
    split at p1
    · rename_i hz
      exact ⟨j,rfl,by omega,by omega,p1 _ G1 H1 fr.ext (zX0 0 _)⟩
    · exact p1.elim
  | [],_,p=>exact p.elim
  | [.non],_,p=>exact p.elim
  | [.bl _],_,p=>exact p.elim
  | [.str _],_,p=>exact p.elim
  | [.lst _],_,p=>exact p.elim
  | [.tup _],_,p=>exact p.elim
  | [.scr _],_,p=>exact p.elim
  | [.exc _ _ _],_,p=>exact p.elim
  | [.ins _ _],_,p=>exact p.elim
  | [.dct _],_,p=>exact p.elim
  | x :: _ :: _,_,p=>cases x <;> exact p.elim
theorem zK1:∀ (ds:List Dt) (n:Nat),(Mi.enumD n ds).length = ds.length
  | [],_=>rfl
  | _ :: r,n=>by rw [Mi.enumD,qAi,qAi,zK1 r]
theorem zK2:∀ (ds:List Dt) (n i:Nat) (d:Dt),(Mi.enumD n ds)[i]? = some d → ∃ e,ds[i]? = some e ∧ d = .tup [.int ((n + i:Nat):Int),e]
  | [],_,_,_,h=>by simp [Mi.enumD] at h
  | x :: r,n,0,d,h=>by simp [Mi.enumD] at h; exact ⟨x,by simp,by rw [← h]; rfl⟩
  | x :: r,n,i + 1,d,h=>by
    rw [Mi.enumD] at h
    obtain ⟨e,h1,h2⟩:=zK2 r (n + 1) i d (by simpa using h)
    exact ⟨e,by simpa using h1,by rw [h2,show n + 1 + i = n + (i + 1) by omega]⟩
theorem Ext.new {G H:Hp} (s:Same G H) {T:Addr} (hT:H T = none) (o:HO):Ext G H (upd G T o) (upd H T o):=by
  refine ⟨L2.same_new (s.free hT) o,L2.same_new hT o,fun b u e=>?_,fun b hb=>zAG fun z=>hb (z ▸ hT)⟩
  by_cases z:b = T
  · subst z; rw [zAH] at e ⊢; exact e
  · rw [zAG z] at e ⊢; exact s _ _ e
theorem zX1 {K:qA1} {G:Hp} {a:Addr} {xs:List V} {ds:List Dt} (ha:G a = some (.lst xs)) (r:RepL G ds xs):ItOk (Ite K a) G (Mi.enumD 0 ds):=by
  intro i G1 H1 s1 s2
  have hS:SqL K H1 a xs:=SqL.of (s2 _ _ (s1 _ _ ha))
  rw [zK1]
  refine ⟨fun hi=>⟨xs,xs[i]'(by rw [r.length]; exact hi),hS,by simp⟩,fun hi=>⟨xs,hS,by rw [r.length]; exact hi⟩,fun x H2 d hd hy=>?_⟩
  obtain ⟨T,y,rfl,hT,rfl,hy⟩:=hy
  obtain ⟨e,h1,rfl⟩:=zK2 ds 0 i d hd
  have x1:=Ext.new s2 hT (.tup [.int i,y])
  refine ⟨_,x1,T,_,rfl,zAH,_,_,rfl,?_,_,_,rfl,Rep.mono (s1.trans x1.g) (zD4 r h1 (hy xs hS)),rfl⟩
  show V.int (i:Int) = .int ((0 + i:Nat):Int)
  rw [qEw]
theorem zUN {K:qA1} (A:DA mg E t m 0):DI mg E (zUG K t) (Mi.iEn m) false:=by
  intro G H σ ρ Q s w p
  refine A.step errI s w p fun ds vs G1 H1 S T _ fr o p1=>?_
  have r:=o.repL
  match ds,r,p1 with
  | [.lst es],r,p1 =>
    obtain ⟨x,rfl,a,xs,rfl,ha,ra⟩:=zDG r
    exact ⟨⟨xs,SqL.of (fr.ext.in' _ _ ha)⟩,p1 _ G1 H1 fr.ext (zX1 ha ra)⟩
  | [],_,p=>exact p.elim
  | [.non],_,p=>exact p.elim
  | [.bl _],_,p=>exact p.elim
  | [.str _],_,p=>exact p.elim
  | [.int _],_,p=>exact p.elim
  | [.tup _],_,p=>exact p.elim
  | [.scr _],_,p=>exact p.elim
  | [.exc _ _ _],_,p=>exact p.elim
  | [.ins _ _],_,p=>exact p.elim
  | [.dct _],_,p=>exact p.elim
  | x :: _ :: _,_,p=>cases x <;> exact p.elim
noncomputable def zFV:St → List (Nat × V) → St
  | σ,[]=>σ
  | σ,(i,v) :: r=>zFV (σ.set i (some v)) r
inductive BsRep (G:Hp):List (Nat × Dt) → List (Nat × V) → Prop
  | nil:BsRep G [] []
  | cons {i d v bs ws}:Rep G d v → BsRep G bs ws → BsRep G ((i,d) :: bs) ((i,v) :: ws)
theorem View.set {G:Hp} {σ:St} {ρ:Rh} {i:Nat} {d:Dt} {v:V} (w:View G σ ρ) (r:Rep G d v):View G (σ.set i (some v)) (ρ.set i (some d)):=by
  refine ⟨by simp [w.len],fun j e h=>?_⟩
  have hj:j < ρ.length:=by
    have:=(qA2.mp h).1
    simpa using this
  by_cases z:i = j
  · subst z
    rw [qAj hj] at h
    cases h
    exact ⟨v,qAj (by rw [← w.len]; exact hj),r⟩
  · rw [qAk z] at h
    obtain ⟨u,h1,h2⟩:=w.at j e h
    exact ⟨u,by rw [qAk z]; exact h1,h2⟩
theorem View.sets {G:Hp} {bs ws} (h:BsRep G bs ws):∀ {σ:St} {ρ:Rh},View G σ ρ → View G (zFV σ ws) (zAR ρ bs):=by
  induction h with
  | nil=>exact fun w=>w
  | cons r _ ih=>exact fun w=>ih (w.set r)
def TgOk (g:TG) (tg:Tg):Prop:=∀ (G H:Hp) (σ:St) (d:Dt) (x:V) (bs:List (Nat × Dt)) (Q:St → Hp → Prop),Same G H → Rep G d x → zAZ tg d = some bs → (∀ ws,BsRep G bs ws → Q (zFV σ ws) H) → g x σ H Q
def zRG (g:TGs) (is:List Nat):Prop:=∀ (G H:Hp) (σ:St) (ds:List Dt) (xs:List V) (Q:St → Hp → Prop),RepL G ds xs → ds.length = is.length → (∀ ws,BsRep G (is.zip ds) ws → Q (zFV σ ws) H) → g xs σ H Q
theorem zDJ (i:Nat):TgOk (zGH i) (.one i):=by
  intro G H σ d x bs Q s r e h
  cases e
  exact h [(i,x)] (.cons r .nil)
theorem zFR:zRG gNil []:=by
  intro G H σ ds xs Q r hl h
  cases ds with
  | nil=>cases (show xs = [] from r); exact ⟨rfl,h [] .nil⟩
  | cons _ _=>simp at hl
theorem zC1 (i:Nat) {g:TGs} {is:List Nat} (hg:zRG g is):zRG (zX3 (zGH i) g) (i :: is):=by
  intro G H σ ds xs Q r hl h
  cases ds with
  | nil=>simp at hl
  | cons d ds =>
    obtain ⟨x,q,rfl,a,b⟩:=r
    exact ⟨x,q,rfl,hg G H _ ds q Q b (by simpa using hl) fun ws hw=>h ((i,x) :: ws) (.cons a hw)⟩
theorem zJ5 {K:qA1} {g:TGs} {is:List Nat} {k:Nat} (hg:zRG g is) (hk:is.length = k):TgOk (gTup K k g) (.tup is):=by
  intro G H σ d x bs Q s r e h
  cases d with
  | tup ds =>
    obtain ⟨a,xs,rfl,ha,ra⟩:=r
    rw [zAZ] at e
    by_cases hz:ds.length = is.length
    · rw [if_pos hz] at e
      cases e
      exact ⟨a,xs,rfl,SqT.of (s _ _ ha),by rw [ra.length,hz,hk],hg G H σ ds xs Q ra hz h⟩
    · rw [if_neg hz] at e; cases e
  | _=>simp [zAZ] at e
theorem zJB:∀ (ws:List (Nat × V)) (σ own:St),(∀ p ∈ ws,σ.length ≤ p.1) → ∃ own':St,own'.length = own.length ∧ zFV (σ ++ own) ws = σ ++ own'
  | [],σ,own,_=>⟨own,rfl,rfl⟩
  | (i,v) :: r,σ,own,h=>by
    have hi:σ.length ≤ i:=h (i,v) (by simp)
    rw [zFV,List.set_append_right _ _ hi]
    obtain ⟨o,h1,h2⟩:=zJB r σ (own.set (i - σ.length) (some v)) fun p hp=>h p (by simp [hp])
    exact ⟨o,by rw [h1,qE7],h2⟩
theorem BsRep.idx {G:Hp} {bs ws} (h:BsRep G bs ws):ws.map (·.1) = bs.map (·.1):=by
  induction h with
  | nil=>rfl
  | cons _ _ ih=>simp [ih]
theorem zPJ {tg:Tg} {d:Dt} {bs:List (Nat × Dt)} (h:zAZ tg d = some bs):∀ i ∈ bs.map (·.1),i ∈ tg.idx:=by
  cases tg with
  | one i=>cases h; simp [Tg.idx]
  | tup is =>
    cases d with
    | tup ds =>
      rw [zAZ] at h
      split at h
      · cases h
        intro i hi
        obtain ⟨p,hp,e⟩:=qAs.mp hi
        rw [← e]
        obtain ⟨a,b⟩:=p
        exact (qD9 hp).1
      · cases h
    | _=>simp [zAZ] at h
theorem zD6 {wi:TI} {g:TG} {tif:TT} {it:IM} {tg:Tg} {c:TM} (I:DI mg E wi it ind) (hT:TgOk g tg) (C:DT mg E tif c) (B:DE mg E te me n):DE mg E (zT8 wi k g tif te) (Mi.eComp it k tg c me) (n + 1):=by
  intro G H σ ρ Q s w p
  refine I.step errE s w p fun ds J G1 H1 _ x1 io p1=>?_
  by_cases hz:ds.length ≤ 100000 ∧ (tg.idx.all fun i=>decide (ρ.length ≤ i)) = true
  case neg=>rw [if_neg hz] at p1; exact p1.elim
  rw [if_pos hz] at p1
  obtain ⟨hz,hix⟩:=hz
  have hb1:Same (zPK ind G1) G1:=by
    unfold zPK
    split
    · exact fun b o e=>by cases e
    · exact Same.refl _
  refine ⟨fun i m acc H'=>m = ds.length - i ∧ i ≤ ds.length ∧ ∃ G' as S T,Fr G H G' H' S ∧ Same G1 G' ∧ OwnA G' H' n S as acc T ∧ as.length ≤ i ∧ PostE mg E G H (n + 1) (zA2 (Mi.compGo ρ k tg c me (ds.drop i) as) fun es=>okR (.lst es)) Q,
    ⟨_,rfl,qAy _,G1,[],fun _=>False,fun _ _=>False,⟨x1,fun _ z=>z.elim⟩,Same.refl _,⟨rfl,fun q d x h=>by simp at h,fun _ _ _ z=>z.elim,fun _ _ z=>z.elim⟩,qA7 _,by rw [qCx]; exact p1⟩,?_⟩
  rintro i m acc H' ⟨rfl,hi,G',as,S,T,fr,sg,o,hl,p⟩
  obtain ⟨j1,j2,j3⟩:=io i G' H' (hb1.trans sg) fr.ext.in'
  by_cases hlt:i < ds.length
  · refine .inr ⟨j1 hlt,by rw [o.len]; exact L2.big (by omega),fun acc' H''=>ds.length - (i + 1) = ds.length - (i + 1) ∧ i + 1 ≤ ds.length ∧ ∃ G' as S T,Fr G H G' H'' S ∧ Same G1 G' ∧ OwnA G' H'' n S as acc' T ∧ as.length ≤ i + 1 ∧ PostE mg E G H (n + 1) (zA2 (Mi.compGo ρ k tg c me (ds.drop (i + 1)) as) fun es=>okR (.lst es)) Q,
      fun acc' H'' q=>⟨ds.length - (i + 1),by omega,q⟩,fun x H2 hy=>?_⟩
    have hd:ds[i]? = some ds[i]:=qAa hlt
    obtain ⟨G2,x2,r2⟩:=j3 x H2 ds[i] hd hy
    rw [qBh hlt,Mi.compGo] at p
    cases eb:zAZ tg ds[i] with
    | none=>rw [eb] at p; exact p.elim
    | some bs =>
      rw [eb] at p
      dsimp only at p
      refine hT G2 H2 _ _ x bs _ x2.in' r2 eb fun ws hb=>?_
      have hsl:∀ q ∈ ws,σ.length ≤ q.1:=fun q hq=>by
        have h1:q.1 ∈ bs.map (·.1):=by rw [← hb.idx]; exact List.mem_map_of_mem hq
        have h2:=qE0.mp hix q.1 (zPJ eb q.1 h1)
        rw [← w.len]; exact of_decide_eq_true h2
      obtain ⟨own,ho1,ho2⟩:=zJB ws σ (qA6 k none) hsl
      refine ⟨own,by rw [ho1,qCz],ho2,?_⟩
      have x02:=fr.ext.trans x2
      have w2:View G2 (zFV (σ ++ qA6 k none) ws) (zAR (ρ ++ qA6 k none) bs):=by
        refine View.sets hb ⟨by simp [w.len],fun j d h=>?_⟩
        by_cases hj:j < ρ.length
        · rw [qAg hj] at h
          obtain ⟨v,a,b⟩:=w.at j d h
          exact ⟨v,by rw [qAg (by rw [← w.len]; exact hj)]; exact a,Rep.mono x02.g b⟩
        · rw [qAd (by omega),qBl] at h
          split at h <;> cases h
      refine C.step ((errB errE _).from x02) x2.in' w2 p fun b H3 _ s3 p3=>?_
      have x3:Ext G2 H2 G2 H3:=Ext.same x2.in' s3
      have x03:=x02.trans x3
      have newS:∀ a,S a → H a = none ∧ G2 a = none ∧ H3 a ≠ none:=fun a ha=>by
        obtain ⟨n1,n2,n3⟩:=fr.new a ha
        exact ⟨n1,(x2.old a n3).trans n2,s3.some (x2.h.some n3)⟩
      have own3:OwnA G2 H3 n S as acc T:=⟨o.len,fun q d y h1 h2=>(o.own q d y h1 h2).mono x2.g (x2.h.trans s3),o.dis,o.sub⟩
      cases b with
      | false=>exact ⟨rfl,hlt,G2,as,S,T,⟨x03,newS⟩,sg.trans x2.g,own3,by omega,p3⟩
      | true =>
        refine B.step ((errB errE _).from x03) x3.in' w2 p3 fun e v G4 H4 S4 _ fr4 o4 p4=>?_
        have ap:∀ q b,T q b → S4 b → False:=fun q b h1 h2=>(newS b (o.sub q b h1)).2.2 (fr4.new b h2).1
        refine ⟨rfl,hlt,G4,as ++ [e],fun a=>S a ∨ S4 a,fun q b=>(q < as.length ∧ T q b) ∨ (q = as.length ∧ S4 b),⟨x03.trans fr4.ext,fun a ha=>?_⟩,sg.trans (x2.g.trans fr4.ext.g),⟨by simp [o.len],fun q d y h1 h2=>?_,fun q r b h1 h2=>?_,fun q b h=>?_⟩,by simp; omega,p4⟩
        · rcases ha with ha | ha
          · obtain ⟨n1,n2,n3⟩:=newS a ha
            exact ⟨n1,(fr4.ext.old a n3).trans n2,fr4.ext.h.some n3⟩
          · obtain ⟨n1,n2,n3⟩:=fr4.new a ha
            exact ⟨x03.h.free n1,n2,n3⟩
        · by_cases hq:q < as.length
          · rw [qAg hq] at h1
            rw [qAg (by rw [o.len]; exact hq)] at h2
            exact ((own3.own q d y h1 h2).mono fr4.ext.g fr4.ext.h).sub fun b z=>.inl ⟨hq,z⟩
          · rw [qAd (by omega)] at h1
            rw [qAd (by rw [o.len]; omega),o.len] at h2
            have hq0:q - as.length = 0:=by
              have:=(qA2.mp h1).1
              simp at this; omega
            rw [hq0] at h1 h2
            simp at h1 h2
            subst h1; subst h2
            exact o4.sub fun b z=>.inr ⟨by omega,z⟩
        · rcases h1 with ⟨a1,t1⟩ | ⟨a1,t1⟩ <;> rcases h2 with ⟨a2,t2⟩ | ⟨a2,t2⟩
          · exact o.dis q r b t1 t2
          · exact (ap q b t1 t2).elim
          · exact (ap r b t2 t1).elim
          · omega
        · rcases h with ⟨_,z⟩ | ⟨_,z⟩
          · exact .inl (o.sub q b z)
          · exact .inr z
  · have e:i = ds.length:=by omega
    subst e
    refine .inl ⟨j2 (qA7 _),fun D hD=>?_⟩
    rw [qF4,Mi.compGo] at p
    exact p (.ref D) G' _ _ (fr.add hD _) ⟨D,acc,T,rfl,zAH,o.kids (fun b hb=>(fr.new b hb).2.2) hD _⟩
end
end L3
namespace L3
open PySem PySem.Spec
open L2 hiding Rep RepL
open Mi (Dt Xn R okR zA2 optR bindR_ok zAA zAD zAB zAC Rh Sl Ro EM TM AM FM IM SM Tg Out zAZ zAR zB4 full frz frz1 frzAt)
variable [Kc]
structure Sat (G0 H0 S0:Hp) (σ:St) (ρ:Ro) (G H:Hp) (As:Nat → Addr → Prop):Prop where
  ext:Ext G0 H0 G H
  stb:Same S0 G
  len:ρ.length = σ.length
  «at»:∀ (i:Nat) (d:Dt) (n:Nat),ρ[i]? = some (some (d,n)) → ∃ v,σ[i]? = some (some v) ∧ Own G H n (As i) d v
  dis:∀ i j a,As i a → As j a → i = j
  new:∀ i a,As i a → H0 a = none ∧ G a = none ∧ H a ≠ none
section
variable {G0 H0 S0:Hp} {σ:St} {ρ:Ro} {G H:Hp} {As:Nat → Addr → Prop}
theorem Sat.grow (a:Sat G0 H0 S0 σ ρ G H As) {H':Hp} (s:Same H H'):Sat G0 H0 S0 σ ρ G H' As :=
  ⟨a.ext.trans (Ext.same a.ext.in' s),a.stb,a.len,fun i d n e=>let ⟨v,h1,h2⟩:=a.at i d n e; ⟨v,h1,h2.mono (Same.refl _) s⟩,a.dis,fun i b h=>let ⟨n1,n2,n3⟩:=a.new i b h; ⟨n1,n2,s.some n3⟩⟩
theorem Sat.wider (a:Sat G0 H0 S0 σ ρ G H As) {G' H':Hp} (x:Ext G H G' H'):Sat G0 H0 S0 σ ρ G' H' As :=
  ⟨a.ext.trans x,a.stb.trans x.g,a.len,fun i d n e=>let ⟨v,h1,h2⟩:=a.at i d n e; ⟨v,h1,h2.mono x.g x.h⟩,a.dis,fun i b h=>let ⟨n1,n2,n3⟩:=a.new i b h; ⟨n1,(x.old b n3).trans n2,x.h.some n3⟩⟩
theorem Sat.full (a:Sat G0 H0 S0 σ ρ G H As):∃ J,Ext G0 H0 J H ∧ Same G J ∧ View J σ (full ρ):=by
  obtain ⟨s1,s2⟩:=zDL (S:=fun b=>∃ i,As i b) a.ext.in'
  refine ⟨over G H fun b=>∃ i,As i b,⟨a.ext.g.trans s1,a.ext.h,s2,fun b hb=>?_⟩,s1,by simp [Mi.full,a.len],fun i d e=>?_⟩
  · have z:¬ ∃ i,As i b:=fun ⟨i,z⟩=>hb (a.new i b z).1
    rw [zC8 z]; exact a.ext.old b hb
  · unfold Mi.full at e
    rw [qAl] at e
    cases e1:ρ[i]? with
    | none=>rw [e1] at e; cases e
    | some o =>
      rw [e1] at e
      cases o with
      | none=>cases e
      | some sl =>
        obtain ⟨d',n⟩:=sl
        cases e
        obtain ⟨v,h1,h2⟩:=a.at i _ n e1
        exact ⟨v,h1,h2.rep s1 fun b o hb e=>by rw [zEB ⟨i,hb⟩]; exact e⟩
theorem Sat.put (a:Sat G0 H0 S0 σ ρ G H As) {i n:Nat} {d:Dt} {v:V} {S:Addr → Prop} (o:Own G H n S d v) (hS:∀ b,S b → H0 b = none ∧ G b = none ∧ H b ≠ none) (hd:∀ j b,j ≠ i → As j b → S b → False) :
    Sat G0 H0 S0 (σ.set i (some v)) (ρ.set i (some (d,n))) G H (fun j=>if j = i then S else As j):=by
  refine ⟨a.ext,a.stb,by simp [a.len],fun j e k h=>?_,fun j l b h1 h2=>?_,fun j b h=>?_⟩
  · have hj:j < ρ.length:=by
      have:=(qA2.mp h).1
      simpa using this
    by_cases z:i = j
    · subst z
      rw [qAj hj] at h
      cases h
      exact ⟨v,qAj (by rw [← a.len]; exact hj),by rw [if_pos rfl]; exact o⟩
    · rw [qAk z] at h
      obtain ⟨u,h1,h2⟩:=a.at j e k h
      exact ⟨u,by rw [qAk z]; exact h1,by rw [if_neg (fun q=>z q.symm)]; exact h2⟩
  · try dsimp only at h1 h2
    by_cases z1:j = i
    · by_cases z2:l = i
      · rw [z1,z2]
      · rw [if_pos z1] at h1; rw [if_neg z2] at h2; exact (hd l b z2 h2 h1).elim
    · by_cases z2:l = i
      · rw [if_neg z1] at h1; rw [if_pos z2] at h2; exact (hd j b z1 h1 h2).elim
      · rw [if_neg z1] at h1; rw [if_neg z2] at h2; exact a.dis j l b h1 h2
  · try dsimp only at h
    by_cases z1:j = i
    · rw [if_pos z1] at h; exact hS b h
    · rw [if_neg z1] at h; exact a.new j b h
theorem Sat.set (a:Sat G0 H0 S0 σ ρ G H As) {H':Hp} {i n:Nat} {d:Dt} {v:V} {S:Addr → Prop} (s:Same H H') (o:Own G H' n S d v) (hS:∀ b,S b → H b = none ∧ G b = none ∧ H' b ≠ none) :
    Sat G0 H0 S0 (σ.set i (some v)) (ρ.set i (some (d,n))) G H' (fun j=>if j = i then S else As j) :=
  (a.grow s).put o (fun b hb=>⟨a.ext.h.free (hS b hb).1,(hS b hb).2⟩) fun j b _ h1 h2=>(a.new j b h1).2.2 (hS b h2).1
theorem Sat.frz1 (a:Sat G0 H0 S0 σ ρ G H As) (i:Nat):∃ G1 As1,Sat G0 H0 S0 σ (Mi.frz1 i ρ) G1 H As1:=by
  unfold Mi.frz1
  cases e1:ρ[i]? with
  | none=>exact ⟨G,As,a⟩
  | some o =>
    cases o with
    | none=>exact ⟨G,As,a⟩
    | some sl =>
      obtain ⟨d,n⟩:=sl
      dsimp only
      obtain ⟨v,h1,h2⟩:=a.at i d n e1
      obtain ⟨s1,s2⟩:=zDL (S:=As i) a.ext.in'
      have x:Ext G0 H0 (over G H (As i)) H:=⟨a.ext.g.trans s1,a.ext.h,s2,fun b hb=>by
        have z:¬ As i b:=fun z=>hb (a.new i b z).1
        rw [zC8 z]; exact a.ext.old b hb⟩
      have hv:(σ.set i (some v)) = σ:=by
        have hi:i < σ.length:=(qA2.mp h1).1
        have he:=(qA2.mp h1).2
        rw [← he,List.set_getElem_self]
      have b:Sat G0 H0 S0 σ (ρ.set i (some (d,0))) (over G H (As i)) H (fun j b=>j ≠ i ∧ As j b):=by
        refine ⟨x,a.stb.trans s1,by simp [a.len],fun j e k h=>?_,fun j l b p q=>a.dis j l b p.2 q.2,fun j b p=>?_⟩
        · have hj:j < ρ.length:=by
            have:=(qA2.mp h).1
            simpa using this
          by_cases z:i = j
          · subst z
            rw [qAj hj] at h
            cases h
            exact ⟨v,h1,h2.rep s1 fun b o hb e=>by rw [zEB hb]; exact e⟩
          · rw [qAk z] at h
            obtain ⟨u,q1,q2⟩:=a.at j e k h
            exact ⟨u,q1,(q2.mono s1 (Same.refl _)).sub fun b hb=>⟨fun q=>z q.symm,hb⟩⟩
        · obtain ⟨n1,n2,n3⟩:=a.new j b p.2
          have z:¬ As i b:=fun z=>p.1 (a.dis j i b p.2 z)
          exact ⟨n1,by rw [zC8 z]; exact n2,n3⟩
      exact ⟨_,_,b⟩
theorem Sat.frzAt:∀ (vs:List Nat) {ρ:Ro} {G:Hp} {As:Nat → Addr → Prop},Sat G0 H0 S0 σ ρ G H As → ∃ G1 As1,Sat G0 H0 S0 σ (Mi.frzAt vs ρ) G1 H As1
  | [],_,_,_,a=>⟨_,_,a⟩
  | i :: r,_,_,_,a=>by
    obtain ⟨G1,As1,b⟩:=a.frz1 i
    exact Sat.frzAt r b
theorem Sat.frz (a:Sat G0 H0 S0 σ ρ G H As):View G σ (Mi.frz ρ):=by
  refine ⟨by simp [Mi.frz,a.len],fun i d e=>?_⟩
  unfold Mi.frz at e
  rw [qAl] at e
  cases e1:ρ[i]? with
  | none=>rw [e1] at e; cases e
  | some o =>
    rw [e1] at e
    cases o with
    | none=>cases e
    | some sl =>
      obtain ⟨d',n⟩:=sl
      obtain ⟨v,h1,h2⟩:=a.at i d' n e1
      simp only [qEd,qGf] at e
      split at e
      · rename_i hz
        cases e
        rcases hz with hz | hz
        · subst hz; exact ⟨v,h1,h2⟩
        · exact ⟨v,h1,Own.scalar (k:=0) (G2:=G) (H2:=H) (S2:=fun _=>False) h2 hz⟩
      · cases e
theorem Sat.store (a:Sat G0 H0 S0 σ ρ G H As) {i n:Nat} {d:Dt} {v:V} {p:Addr} {o:HO} {S:Addr → Prop} (hp:As i p) (hv:σ[i]? = some (some v)) (w:Own G (upd H p o) n S d v)
    (hS:∀ b,S b → As i b ∨ (H0 b = none ∧ G b = none ∧ H b ≠ none ∧ ∀ j,¬ As j b)):Sat G0 H0 S0 σ (ρ.set i (some (d,n))) G (upd H p o) (fun j=>if j = i then S else As j):=by
  obtain ⟨p1,p2,p3⟩:=a.new i p hp
  have hn:∀ b,H b ≠ none → upd H p o b ≠ none:=fun b hb=>by
    by_cases z:b = p
    · subst z; rw [zAH]; simp
    · rw [zAG z]; exact hb
  refine ⟨⟨a.ext.g,L2.Same.upd a.ext.h p1 o,L2.Same.upd a.ext.in' p2 o,a.ext.old⟩,a.stb,by simp [a.len],fun j e k h=>?_,fun j l b h1 h2=>?_,fun j b h=>?_⟩
  · have hj:j < ρ.length:=by
      have:=(qA2.mp h).1
      simpa using this
    by_cases z:i = j
    · subst z
      rw [qAj hj] at h
      cases h
      exact ⟨v,hv,by rw [if_pos rfl]; exact w⟩
    · rw [qAk z] at h
      obtain ⟨u,h1,h2⟩:=a.at j e k h
      exact ⟨u,h1,by rw [if_neg (fun q=>z q.symm)]; exact h2.upd fun q=>z (a.dis i j p hp q)⟩
  · have key:∀ j b,j ≠ i → As j b → S b → False:=fun j b hj h1 h2=>by
      rcases hS b h2 with q | ⟨_,_,_,q⟩
      · exact hj (a.dis j i b h1 q)
      · exact q j h1
    try dsimp only at h1 h2
    by_cases z1:j = i
    · by_cases z2:l = i
      · rw [z1,z2]
      · rw [if_pos z1] at h1; rw [if_neg z2] at h2; exact (key l b z2 h2 h1).elim
    · by_cases z2:l = i
      · rw [if_neg z1] at h1; rw [if_pos z2] at h2; exact (key j b z1 h1 h2).elim
      · rw [if_neg z1] at h1; rw [if_neg z2] at h2; exact a.dis j l b h1 h2
  · try dsimp only at h
    by_cases z1:j = i
    · rw [if_pos z1] at h
      rcases hS b h with q | ⟨q1,q2,q3,_⟩
      · obtain ⟨n1,n2,n3⟩:=a.new i b q
        exact ⟨n1,n2,hn b n3⟩
      · exact ⟨q1,q2,hn b q3⟩
    · rw [if_neg z1] at h
      obtain ⟨n1,n2,n3⟩:=a.new j b h
      exact ⟨n1,n2,hn b n3⟩
end
def zDI (mg:Str → Option Value) (E:XK) (G0 H0 S0:Hp) (L:Nat) (r:R Out) (D:Ends):Prop:=match r with
  | none=>False
  | some (.error x)=>∀ c da G' H',Ext G0 H0 G' H' → XRep mg x c da G' H' → E c da H'
  | some (.ok (.nx ρ))=>∀ σ G H As,Sat G0 H0 S0 σ ρ G H As → D.nx σ H
  | some (.ok (.bk ρ))=>∀ σ G H As,Sat G0 H0 S0 σ ρ G H As → D.bk σ H
  | some (.ok (.ct ρ))=>∀ σ G H As,Sat G0 H0 S0 σ ρ G H As → D.ct σ H
  | some (.ok (.rt d))=>∀ v G H S,Fr G0 H0 G H S → Own G H L S d v → D.rt v H
def DS (mg:Str → Option Value) (E:XK) (L:Nat) (t:TS) (m:SM):Prop:=∀ (G0 H0 S0:Hp) (σ:St) (ρ:Ro) (G H:Hp) (As:Nat → Addr → Prop) (D:Ends),Sat G0 H0 S0 σ ρ G H As → zDI mg E G0 H0 S0 L (m ρ) D → t D σ H
section
variable {mg:Str → Option Value} {E:XK} {L n k l:Nat} {te ta tb:TE} {e ea eb:EM} {t u:TS} {m m':SM}
theorem errS {G0 H0 S0:Hp} {D:Ends}:Err mg E G0 H0 (fun r=>zDI mg E G0 H0 S0 L r D):=⟨fun h=>h,fun _ h=>h⟩
theorem zBG:DS mg E L zVF Mi.sNil:=fun G0 H0 S0 σ ρ G H As D a p=>p σ G H As a
theorem zAF (A:DS mg E L t m) (B:DS mg E L u m'):DS mg E L (tSeq t u) (Mi.sSeq m m'):=by
  intro G0 H0 S0 σ ρ G H As D a p
  refine A G0 H0 S0 σ ρ G H As _ a ?_
  unfold Mi.sSeq at p
  cases e:m ρ with
  | none=>rw [e] at p; exact p
  | some r =>
    rw [e] at p
    cases r with
    | error x=>exact p
    | ok o =>
      cases o with
      | nx ρ'=>exact fun σ' G' H' As' a'=>B G0 H0 S0 σ' ρ' G' H' As' D a' p
      | rt d=>exact p
      | bk ρ'=>exact p
      | ct ρ'=>exact p
theorem zCH {tc:TT} {c:TM} (C:DT mg E tc c) (A:DS mg E L t m) (B:DS mg E L u m'):DS mg E L (tIfS tc t u) (Mi.sIf c m m'):=by
  intro G0 H0 S0 σ ρ G H As D a p
  obtain ⟨J,x,s,w⟩:=a.full
  refine C.step (errS.from x) x.in' w p fun b H' _ sH p1=>?_
  cases b with
  | true=>exact A G0 H0 S0 σ ρ G H' As D (a.grow sH) p1
  | false=>exact B G0 H0 S0 σ ρ G H' As D (a.grow sH) p1
theorem whole {G0 H0 S0:Hp} {σ:St} {ρ:Ro} {G H J G1 H1:Hp} {As:Nat → Addr → Prop} {S:Addr → Prop} {d:Dt} {v:V} (a:Sat G0 H0 S0 σ ρ G H As) (s:Same G J) (fr:Fr J H G1 H1 S) (o:Own G1 H1 n S d v) (hn:n < 1000) (hd:d.dep ≤ n) (hk:d.dep ≤ k) :
    Own G H1 k S d v ∧ ∀ b,S b → H b = none ∧ G b = none ∧ H1 b ≠ none :=
  ⟨o.at hd hk hn,fun b hb=>let ⟨n1,n2,n3⟩:=fr.new b hb; ⟨n1,a.ext.in'.free n1,n3⟩⟩
theorem zAU {i:Nat} (vs:List Nat) (A:DE mg E te e n) (hn:n < 1000:=by decide):DS mg E L (tAsg te (zGH i)) (Mi.sSet i n vs e):=by
  intro G0 H0 S0 σ ρ G H As D a p
  obtain ⟨J,x,s,w⟩:=a.full
  unfold Mi.sSet at p
  cases ee:e (full ρ) with
  | none=>rw [ee] at p; exact p.elim
  | some r =>
    cases r with
    | error y=>exact A.step (errS.from x) x.in' w p fun d v G1 H1 S e1 fr o p1=>by rw [ee] at e1; cases e1
    | ok d =>
      by_cases hd:d.dep ≤ n
      · refine A.step (errS.from x) x.in' w p fun d' v G1 H1 S e1 fr o p1=>?_
        rw [ee] at e1
        cases e1
        rw [if_pos hd] at p1
        obtain ⟨q1,q2⟩:=whole (k:=n) a s fr o hn hd hd
        exact p1 _ G H1 _ (a.set fr.ext.h q1 q2)
      · rw [ee] at p
        have p':zDI mg E G0 H0 S0 L (zA2 (e (frz (frzAt vs ρ))) fun d'=>okR (.nx ((frzAt vs ρ).set i (some (d',n))))) D:=by
          have p2:zDI mg E G0 H0 S0 L (if d.dep ≤ n then okR (.nx (ρ.set i (some (d,n)))) else zA2 (e (frz (frzAt vs ρ))) fun d'=>okR (.nx ((frzAt vs ρ).set i (some (d',n))))) D:=p
          rw [if_neg hd] at p2; exact p2
        obtain ⟨G1,As1,a1⟩:=Sat.frzAt vs a
        refine A.step (errS.from a1.ext) a1.ext.in' a1.frz p' fun d' v G2 H2 S _ fr o p1=>?_
        exact p1 _ G2 H2 _ ((a1.wider fr.ext).put o (fun b hb=>let ⟨n1,n2,n3⟩:=fr.new b hb; ⟨a1.ext.h.free n1,n2,n3⟩) fun j b _ h1 h2=>(a1.new j b h1).2.2 (fr.new b h2).1)
theorem zAY (vs:List Nat) (A:DE mg E te e n) (hn:n < 1000:=by decide):DS mg E L (tRet te) (Mi.sRet L n vs e):=by
  intro G0 H0 S0 σ ρ G H As D a p
  obtain ⟨J,x,s,w⟩:=a.full
  unfold Mi.sRet at p
  cases ee:e (full ρ) with
  | none=>rw [ee] at p; exact p.elim
  | some r =>
    cases r with
    | error y=>exact A.step (errS.from x) x.in' w p fun d v G1 H1 S e1 fr o p1=>by rw [ee] at e1; cases e1
    | ok d =>
      by_cases hd:d.dep ≤ n ∧ d.dep ≤ L
      · refine A.step (errS.from x) x.in' w p fun d' v G1 H1 S e1 fr o p1=>?_
        rw [ee] at e1
        cases e1
        rw [if_pos hd] at p1
        exact p1 v G1 H1 S (Fr.from x fr) (o.at hd.1 hd.2 hn)
      · rw [ee] at p
        have p2:zDI mg E G0 H0 S0 L (if d.dep ≤ n ∧ d.dep ≤ L then okR (.rt d) else if n = L then zA2 (e (frz (frzAt vs ρ))) fun d'=>okR (.rt d') else none) D:=p
        rw [if_neg hd] at p2
        by_cases hl:n = L
        · rw [if_pos hl] at p2
          subst hl
          obtain ⟨G1,As1,a1⟩:=Sat.frzAt vs a
          refine A.step (errS.from a1.ext) a1.ext.in' a1.frz p2 fun d' v G2 H2 S _ fr o p1=>?_
          exact p1 v G2 H2 S (Fr.from a1.ext fr) o
        · rw [if_neg hl] at p2; exact p2.elim
theorem zGJ (i:Nat):DS mg E L (tRet (vM i)) (Mi.sRetV L i):=by
  intro G0 H0 S0 σ ρ G H As D a p
  unfold Mi.sRetV at p
  cases e1:ρ[i]? with
  | none=>rw [e1] at p; exact p.elim
  | some o =>
    rw [e1] at p
    cases o with
    | none=>exact p.elim
    | some sl =>
      obtain ⟨d,k⟩:=sl
      obtain ⟨v,h1,h2⟩:=a.at i d k e1
      show vM i σ H D.rt
      unfold vM
      rw [h1]
      dsimp only at p
      split at p
      · rename_i hz
        rcases hz with hz | hz | hz
        · subst hz; exact p v G H (As i) ⟨a.ext,fun b hb=>a.new i b hb⟩ h2
        · subst hz
          obtain ⟨s1,s2⟩:=zDL (S:=As i) a.ext.in'
          refine p v (over G H (As i)) H (fun _=>False) ⟨⟨a.ext.g.trans s1,a.ext.h,s2,fun b hb=>?_⟩,fun _ z=>z.elim⟩ (h2.rep s1 fun b o hb e=>by rw [zEB hb]; exact e)
          have z:¬ As i b:=fun z=>hb (a.new i b z).1
          rw [zC8 z]; exact a.ext.old b hb
        · exact p v G H (As i) ⟨a.ext,fun b hb=>a.new i b hb⟩ (h2.at hz.1 hz.2.1 hz.2.2)
      · exact p.elim
theorem Sat.puts {G0 H0 S0 G H:Hp} {bs:List (Nat × Dt)} {ws:List (Nat × V)} (h:BsRep G bs ws):∀ {σ:St} {ρ:Ro} {As:Nat → Addr → Prop},Sat G0 H0 S0 σ ρ G H As → ∃ As',Sat G0 H0 S0 (zFV σ ws) (zB4 ρ bs) G H As':=by
  induction h with
  | nil=>exact fun a=>⟨_,a⟩
  | cons r _ ih=>exact fun a=>ih (a.put (n:=0) (S:=fun _=>False) r (fun _ z=>z.elim) fun _ _ _ _ z=>z.elim)
theorem zX8 {g:TG} {is:List Nat} (vs:List Nat) (hT:TgOk g (.tup is)) (A:DE mg E te e n):DS mg E L (tAsg te g) (Mi.sUnp is vs e):=by
  intro G0 H0 S0 σ ρ G H As D a p
  obtain ⟨G1,As1,a1⟩:=Sat.frzAt vs a
  refine (zAK A).step (errS.from a1.ext) a1.ext.in' a1.frz p fun d v G2 H2 S _ fr o p1=>?_
  cases eb:zAZ (.tup is) d with
  | none=>rw [eb] at p1; exact p1.elim
  | some bs =>
    rw [eb] at p1
    refine hT G2 H2 σ d v bs _ fr.ext.in' o eb fun ws hw=>?_
    obtain ⟨As',a2⟩:=Sat.puts hw (a1.wider fr.ext)
    exact p1 _ G2 H2 As' a2
theorem Kids.pop {P:(Addr → Prop) → Dt → V → Prop} {S:Addr → Prop} {a:Addr} {ds:List Dt} {xs:List V} {T:Nat → Addr → Prop} (k:Kids P S a ds xs T) (q:Nat) :
    Kids P (fun b=>S b ∧ ¬ T q b) a (ds.eraseIdx q) (xs.eraseIdx q) (fun r=>if r < q then T r else T (r + 1)):=by
  refine ⟨by rw [qEe,qEe,k.len],fun r d x h1 h2=>?_,⟨k.top,k.out q⟩,fun r=>?_,fun r r' b z1 z2=>?_,fun r b z=>?_⟩
  · rw [List.getElem?_eraseIdx] at h1 h2
    try dsimp only
    by_cases hr:r < q
    · rw [if_pos hr] at h1 h2 ⊢; exact k.own r d x h1 h2
    · rw [if_neg hr] at h1 h2 ⊢; exact k.own (r + 1) d x h1 h2
  · try dsimp only
    split
    · exact k.out _
    · exact k.out _
  · try dsimp only at z1 z2
    by_cases h1:r < q <;> by_cases h2:r' < q
    · rw [if_pos h1] at z1; rw [if_pos h2] at z2; exact k.dis _ _ b z1 z2
    · rw [if_pos h1] at z1; rw [if_neg h2] at z2; have:=k.dis _ _ b z1 z2; omega
    · rw [if_neg h1] at z1; rw [if_pos h2] at z2; have:=k.dis _ _ b z1 z2; omega
    · rw [if_neg h1] at z1; rw [if_neg h2] at z2; have:=k.dis _ _ b z1 z2; omega
  · try dsimp only at z
    by_cases h1:r < q
    · rw [if_pos h1] at z; exact ⟨k.sub _ b z,fun w=>by have:=k.dis _ _ b z w; omega⟩
    · rw [if_neg h1] at z; exact ⟨k.sub _ b z,fun w=>by have:=k.dis _ _ b z w; omega⟩
theorem zO8 {G H:Hp} {p:Addr} {o:HO} {S:Addr → Prop} {a:Addr} {ds:List Dt} {xs:List V} {T:Nat → Addr → Prop} (k:Kids (Own G H n) S a ds xs T) (hp:∀ q,¬ T q p):Kids (Own G (upd H p o) n) S a ds xs T :=
  ⟨k.len,fun q d x h1 h2=>(k.own q d x h1 h2).upd (hp q),k.top,k.out,k.dis,k.sub⟩
theorem zSL (j i:Nat) (A:DE mg E te e n):DS mg E L (tAsg (tML popM (vM i) (zDF te tNil)) (zGH j)) (Mi.sPop j i e):=by
  intro G0 H0 S0 σ ρ G H As D a p
  obtain ⟨J,x,s,w⟩:=a.full
  unfold Mi.sPop at p
  cases e1:ρ[i]? with
  | none=>rw [e1] at p; exact p.elim
  | some o =>
    rw [e1] at p
    match o,e1,p with
    | none,_,p=>exact p.elim
    | some (.lst ds,k + 1),e1,p =>
      obtain ⟨v,h1,q,xs,T,rfl,hq,kd⟩:=a.at i _ _ e1
      unfold tAsg tML vM
      rw [h1]
      refine ⟨xs,hq,?_⟩
      refine (zAK A).step (errS.from x) x.in' w p fun d y G1 H1 S _ fr o p1=>?_
      cases d with
      | int z =>
        cases (show y = .int z from o)
        dsimp only at p1
        cases ei:Mi.ixA ds.length z with
        | none=>rw [ei] at p1; exact p1.elim
        | some c =>
          rw [ei] at p1
          dsimp only at p1
          cases ec:ds[c]? with
          | none=>rw [ec] at p1; exact p1.elim
          | some dc =>
            rw [ec] at p1
            dsimp only at p1
            split at p1
            · rename_i hz
              rw [zON] at ei
              obtain ⟨g1,g2,g3,g4⟩:=zIL ei
              have hc:c < xs.length:=by rw [kd.len]; exact g2
              have hx:xs[c]? = some xs[c]:=qAa hc
              refine ⟨xs,c,xs[c],fr.ext.h _ _ hq,⟨by omega,by omega⟩,by rw [kd.len]; exact g1,hx,?_⟩
              have a1:=a.grow fr.ext.h
              have kd1:Kids (Own G H1 k) (As i) q ds xs T:=kd.imp (fun _ _ _ _ w=>w.mono (Same.refl _) fr.ext.h) fun _ z=>z
              have a2:=a1.store (o:=.lst (xs.eraseIdx c)) (n:=k + 1) (d:=.lst (ds.eraseIdx c)) (S:=fun b=>As i b ∧ ¬ T c b) kd.top h1 ⟨q,_,_,rfl,zAH,zO8 (kd1.pop c) fun r=>by split <;> exact kd.out _⟩ fun b z=>.inl z.1
              refine p1 _ G _ _ (a2.put (S:=T c) ((kd1.own c dc _ ec hx).upd (kd.out c)) (fun b hb=>?_) fun l b hl z1 z2=>?_)
              · obtain ⟨n1,n2,n3⟩:=a1.new i b (kd.sub c b hb)
                refine ⟨n1,n2,?_⟩
                rw [zAG (fun z:b = q=>kd.out c (z ▸ hb))]; exact n3
              · try dsimp only at z1
                by_cases z:l = i
                · rw [if_pos z] at z1; exact z1.2 z2
                · rw [if_neg z] at z1; exact z (a.dis l i b z1 (kd.sub c b z2))
            · exact p1.elim
      | _=>exact p1.elim
    | some (.lst ds,0),_,p=>exact p.elim
    | some (.non,_),_,p=>exact p.elim
    | some (.bl _,_),_,p=>exact p.elim
    | some (.int _,_),_,p=>exact p.elim
    | some (.str _,_),_,p=>exact p.elim
    | some (.tup _,_),_,p=>exact p.elim
    | some (.scr _,_),_,p=>exact p.elim
    | some (.exc _ _ _,_),_,p=>exact p.elim
    | some (.ins _ _,_),_,p=>exact p.elim
    | some (.dct _,_),_,p=>exact p.elim
end
end L3
namespace L3
open PySem PySem.Spec
open L2 hiding Rep RepL
open Mi (Dt Xn R okR zA2 optR bindR_ok zAA zAD zAB zAC Rh Sl Ro EM TM AM FM IM SM Tg Out zAZ zAR zB4 full frz frz1 frzAt)
section
variable [Kc] {mg:Str → Option Value} {E:XK} {L n k l:Nat} {te ta tb:TE} {e ea eb:EM} {t u:TS} {m m':SM}
theorem Kids.set {G H:Hp} {S:Addr → Prop} {a p:Addr} {ds:List Dt} {xs:List V} {T:Nat → Addr → Prop} {S':Addr → Prop} {d:Dt} {v:V} {o:HO} (k:Kids (Own G H n) S a ds xs T) (q:Nat) (w:Own G (upd H p o) n S' d v) (hp:∀ r,r ≠ q → ¬ T r p) (ha:¬ S' a)
    (hd:∀ r b,r ≠ q → T r b → S' b → False):Kids (Own G (upd H p o) n) (fun b=>S b ∨ S' b) a (ds.set q d) (xs.set q v) (fun r b=>if r = q then S' b else T r b):=by
  refine ⟨by simp [k.len],fun r d' x h1 h2=>?_,.inl k.top,fun r=>?_,fun r r' b z1 z2=>?_,fun r b z=>?_⟩
  · by_cases z:q = r
    · subst z
      have h:q < ds.length:=by
        have:=(qA2.mp h1).1
        simpa using this
      rw [qAj h] at h1
      rw [qAj (by rw [k.len]; exact h)] at h2
      cases h1; cases h2
      exact w.sub fun b hb=>by rw [if_pos rfl]; exact hb
    · rw [qAk z] at h1 h2
      exact ((k.own r d' x h1 h2).upd (hp r fun y=>z y.symm)).sub fun b hb=>by rw [if_neg (fun y=>z y.symm)]; exact hb
  · try dsimp only
    split
    · exact ha
    · exact k.out _
  · try dsimp only at z1 z2
    by_cases h1:r = q <;> by_cases h2:r' = q
    · rw [h1,h2]
    · rw [if_pos h1] at z1; rw [if_neg h2] at z2; exact (hd r' b h2 z2 z1).elim
    · rw [if_neg h1] at z1; rw [if_pos h2] at z2; exact (hd r b h1 z1 z2).elim
    · rw [if_neg h1] at z1; rw [if_neg h2] at z2; exact k.dis _ _ b z1 z2
  · try dsimp only at z
    by_cases h1:r = q
    · rw [if_pos h1] at z; exact .inr z
    · rw [if_neg h1] at z; exact .inl (k.sub _ b z)
theorem zOZ (i:Nat) {n1:Nat} {t1 t2:TE} {e1 e2:EM} (A:DE mg E t1 e1 n1) (B:DE mg E t2 e2 n) (hn:n < 1000:=by decide):DS mg E L (tAsg t2 (gSub (vM i) t1 setM)) (Mi.sItem i n e1 e2):=by
  intro G0 H0 S0 σ ρ G H As D a p
  obtain ⟨J,x,s,w⟩:=a.full
  refine B.step (errS.from x) x.in' w p fun d y G1 H1 S _ fr o p1=>?_
  cases er:ρ[i]? with
  | none=>rw [er] at p1; exact p1.elim
  | some sl =>
    rw [er] at p1
    match sl,er,p1 with
    | none,_,p=>exact p.elim
    | some (.lst ds,k + 1),er,p1 =>
      obtain ⟨v,h1,q,xs,T,rfl,hq,kd⟩:=a.at i _ _ er
      unfold gSub vM
      rw [h1]
      have x1:Ext J H J H1:=Ext.same x.in' fr.ext.h
      refine (zAK A).step (errS.from (x.trans x1)) x1.in' w p1 fun z u G2 H2 S2 _ fr2 o2 p2=>?_
      cases z with
      | int z =>
        cases (show u = .int z from o2)
        try dsimp only at p2
        cases ei:Mi.ixA ds.length z with
        | none=>rw [ei] at p2; exact p2.elim
        | some c =>
          rw [ei] at p2
          try dsimp only at p2
          split at p2
          · rename_i hz
            rw [zON] at ei
            obtain ⟨q1,q2⟩:=whole (k:=k) a s fr o hn hz.1 hz.2
            have sH:=fr.ext.h.trans fr2.ext.h
            refine ⟨xs,c,sH _ _ hq,by rw [kd.len]; exact ei,?_⟩
            have a1:=a.grow sH
            have nS:¬ S q:=fun z=>(a.new i q kd.top).2.2 (q2 q z).1
            have kd1:Kids (Own G H2 k) (As i) q ds xs T:=kd.imp (fun _ _ _ _ w=>w.mono (Same.refl _) sH) fun _ z=>z
            refine p2 σ G _ _ (a1.store (S:=fun b=>As i b ∨ S b) kd.top h1 ⟨q,_,_,rfl,zAH,kd1.set c ((q1.mono (Same.refl _) fr2.ext.h).upd nS) (fun r _=>kd.out r) nS fun r b _ z1 z2=>(a.new i b (kd.sub r b z1)).2.2 (q2 b z2).1⟩ fun b z=>?_)
            rcases z with z | z
            · exact .inl z
            · obtain ⟨n1,n2,n3⟩:=q2 b z
              exact .inr ⟨a.ext.h.free n1,n2,fr2.ext.h.some n3,fun j y=>(a.new j b y).2.2 n1⟩
          · exact p2.elim
      | _=>exact p2.elim
    | some (.lst ds,0),_,p=>exact p.elim
    | some (.non,_),_,p=>exact p.elim
    | some (.bl _,_),_,p=>exact p.elim
    | some (.int _,_),_,p=>exact p.elim
    | some (.str _,_),_,p=>exact p.elim
    | some (.tup _,_),_,p=>exact p.elim
    | some (.scr _,_),_,p=>exact p.elim
    | some (.exc _ _ _,_),_,p=>exact p.elim
    | some (.ins _ _,_),_,p=>exact p.elim
    | some (.dct _,_),_,p=>exact p.elim
theorem zP0 (j i:Nat) (A:DE mg E te e n):DS mg E L (zNL (tML appM (vM j) (zDF (tML popM (vM i) (zDF te tNil)) tNil))) (Mi.sAppPop j i e):=by
  intro G0 H0 S0 σ ρ G H As D a p
  obtain ⟨J,x,s,w⟩:=a.full
  unfold Mi.sAppPop at p
  cases f1:ρ[j]? with
  | none=>rw [f1] at p; exact p.elim
  | some oj =>
    rw [f1] at p
    match oj,f1,p with
    | none,_,p=>exact p.elim
    | some (.lst es,l + 1),f1,p =>
      cases e1:ρ[i]? with
      | none=>rw [e1] at p; exact p.elim
      | some o =>
        rw [e1] at p
        match o,e1,p with
        | none,_,p=>exact p.elim
        | some (.lst ds,k + 1),e1,p =>
          obtain ⟨v',g1,q',ys,T',rfl,hq',kd'⟩:=a.at j _ _ f1
          obtain ⟨v,h1,q,xs,T,rfl,hq,kd⟩:=a.at i _ _ e1
          unfold zNL tML zDF vM
          rw [g1]
          refine ⟨ys,hq',?_⟩
          dsimp only
          rw [h1]
          refine ⟨xs,hq,?_⟩
          refine (zAK A).step (errS.from x) x.in' w p fun d y G1 H1 S _ fr o p1=>?_
          cases d with
          | int z =>
            cases (show y = .int z from o)
            try dsimp only at p1
            cases ei:Mi.ixA ds.length z with
            | none=>rw [ei] at p1; exact p1.elim
            | some c =>
              rw [ei] at p1
              try dsimp only at p1
              cases ec:ds[c]? with
              | none=>rw [ec] at p1; exact p1.elim
              | some dc =>
                rw [ec] at p1
                try dsimp only at p1
                split at p1
                · rename_i hz
                  obtain ⟨hij,hz1,hz2,hlv⟩:=hz
                  rw [zON] at ei
                  obtain ⟨b1,b2,b3,b4⟩:=zIL ei
                  have hc:c < xs.length:=by rw [kd.len]; exact b2
                  have hx:xs[c]? = some xs[c]:=qAa hc
                  refine ⟨xs,c,xs[c],fr.ext.h _ _ hq,⟨by omega,by omega⟩,by rw [kd.len]; exact b1,hx,?_⟩
                  have a1:=a.grow fr.ext.h
                  have kd1:Kids (Own G H1 k) (As i) q ds xs T:=kd.imp (fun _ _ _ _ w=>w.mono (Same.refl _) fr.ext.h) fun _ z=>z
                  have hqq:q' ≠ q:=fun z=>hij (a.dis i j q kd.top (z ▸ kd'.top))
                  have hjq:¬ As j q:=fun z=>hij (a.dis i j q kd.top z)
                  have kd1':Kids (Own G (upd H1 q (.lst (xs.eraseIdx c))) l) (As j) q' es ys T':=zO8 (kd'.imp (fun _ _ _ _ w=>w.mono (Same.refl _) fr.ext.h) fun _ z=>z) fun r z=>hjq (kd'.sub r q z)
                  refine ⟨ys,by rw [zAG hqq]; exact fr.ext.h _ _ hq',by rw [kd'.len]; exact L2.big (by omega),?_⟩
                  have a2:=a1.store (o:=.lst (xs.eraseIdx c)) (n:=k + 1) (d:=.lst (ds.eraseIdx c)) (S:=fun b=>As i b ∧ ¬ T c b) kd.top h1 ⟨q,_,_,rfl,zAH,zO8 (kd1.pop c) fun r=>by split <;> exact kd.out _⟩ fun b z=>.inl z.1
                  have wc:Own G (upd H1 q (.lst (xs.eraseIdx c))) l (T c) dc xs[c]:=by
                    have w0:=(kd1.own c dc _ ec hx).upd (o:=.lst (xs.eraseIdx c)) (kd.out c)
                    rcases hlv with z | ⟨z1,z2,z3⟩
                    · subst z; exact w0
                    · exact w0.at z1 z2 z3
                  have nT:¬ T c q':=fun z=>hij (a.dis i j q' (kd.sub c q' z) kd'.top)
                  have ap:∀ r b,T' r b → T c b → False:=fun r b z1 z2=>hij (a.dis i j b (kd.sub c b z2) (kd'.sub r b z1))
                  have e3:(if j = i then fun b=>As i b ∧ ¬ T c b else As j) = As j:=if_neg (fun z=>hij z.symm)
                  have hp:(fun l=>if l = i then fun b=>As i b ∧ ¬ T c b else As l) j q':=by
                    show (if j = i then fun b=>As i b ∧ ¬ T c b else As j) q'
                    rw [e3]; exact kd'.top
                  refine p1 σ G _ _ (a2.store (i:=j) (p:=q') (S:=fun b=>As j b ∨ T c b) (n:=l + 1) (d:=.lst (es ++ [dc])) (v:=.ref q') (o:=.lst (ys ++ [xs[c]])) hp g1
                    ⟨q',_,fun r b=>(r < es.length ∧ T' r b) ∨ (r = es.length ∧ T c b),rfl,zAH,⟨by simp [kd'.len],fun r d' z f1 f2=>?_,.inl kd'.top,fun r z=>?_,fun r r' b z1 z2=>?_,fun r b z=>?_⟩⟩ fun b z=>?_)
                  · by_cases hr:r < es.length
                    · rw [qAg hr] at f1
                      rw [qAg (by rw [kd'.len]; exact hr)] at f2
                      exact ((kd1'.own r d' z f1 f2).upd (kd'.out r)).sub fun b z=>.inl ⟨hr,z⟩
                    · rw [qAd (by omega)] at f1
                      rw [qAd (by rw [kd'.len]; omega),kd'.len] at f2
                      have hq0:r - es.length = 0:=by
                        have:=(qA2.mp f1).1
                        simp at this; omega
                      rw [hq0] at f1 f2
                      simp at f1 f2
                      subst f1; subst f2
                      exact (wc.upd nT).sub fun b z=>.inr ⟨by omega,z⟩
                  · rcases z with ⟨_,z⟩ | ⟨_,z⟩
                    · exact kd'.out r z
                    · exact nT z
                  · rcases z1 with ⟨c1,t1⟩ | ⟨c1,t1⟩ <;> rcases z2 with ⟨c2,t2⟩ | ⟨c2,t2⟩
                    · exact kd'.dis r r' b t1 t2
                    · exact (ap r b t1 t2).elim
                    · exact (ap r' b t2 t1).elim
                    · omega
                  · rcases z with ⟨_,z⟩ | ⟨_,z⟩
                    · exact .inl (kd'.sub r b z)
                    · exact .inr z
                  · rcases z with z | z
                    · refine .inl ?_
                      show (if j = i then fun b=>As i b ∧ ¬ T c b else As j) b
                      rw [e3]; exact z
                    · obtain ⟨n1,n2,n3⟩:=a1.new i b (kd.sub c b z)
                      refine .inr ⟨n1,n2,?_,fun r y=>?_⟩
                      · rw [zAG (fun y:b = q=>kd.out c (y ▸ z))]; exact n3
                      · have y':(if r = i then fun b=>As i b ∧ ¬ T c b else As r) b:=y
                        by_cases hr:r = i
                        · rw [if_pos hr] at y'; exact y'.2 z
                        · rw [if_neg hr] at y'; exact hr (a.dis r i b y' (kd.sub c b z))
                · exact p1.elim
          | _=>exact p1.elim
        | some (.lst ds,0),_,p=>exact p.elim
        | some (.non,_),_,p=>exact p.elim
        | some (.bl _,_),_,p=>exact p.elim
        | some (.int _,_),_,p=>exact p.elim
        | some (.str _,_),_,p=>exact p.elim
        | some (.tup _,_),_,p=>exact p.elim
        | some (.scr _,_),_,p=>exact p.elim
        | some (.exc _ _ _,_),_,p=>exact p.elim
        | some (.ins _ _,_),_,p=>exact p.elim
        | some (.dct _,_),_,p=>exact p.elim
    | some (.lst ds,0),_,p=>exact p.elim
    | some (.non,_),_,p=>exact p.elim
    | some (.bl _,_),_,p=>exact p.elim
    | some (.int _,_),_,p=>exact p.elim
    | some (.str _,_),_,p=>exact p.elim
    | some (.tup _,_),_,p=>exact p.elim
    | some (.scr _,_),_,p=>exact p.elim
    | some (.exc _ _ _,_),_,p=>exact p.elim
    | some (.ins _ _,_),_,p=>exact p.elim
    | some (.dct _,_),_,p=>exact p.elim
theorem zSC {G0 H0 S0:Hp} {D:Ends} {g:TG} {tg:Tg} {J:It} {ds:List Dt} {GJ:Hp} (hT:TgOk g tg) (B:DS mg E L t m) (io:ItOk J GJ ds) {σ:St} {ρ:Ro} {G H:Hp} {As:Nat → Addr → Prop} (a:Sat G0 H0 S0 σ ρ G H As) (sJ:Same GJ G)
    (p:zDI mg E G0 H0 S0 L (Mi.forGo tg m ds ρ) D):zPT g t D σ J H:=by
  refine ⟨fun i c σ H=>c = ds.length - i ∧ i ≤ ds.length ∧ ∃ ρ G As,Sat G0 H0 S0 σ ρ G H As ∧ Same GJ G ∧ zDI mg E G0 H0 S0 L (Mi.forGo tg m (ds.drop i) ρ) D,
    ⟨_,rfl,qAy _,ρ,G,As,a,sJ,by rw [qCx]; exact p⟩,?_⟩
  rintro i c σ H ⟨rfl,hi,ρ,G,As,a,sJ,p⟩
  obtain ⟨j1,j2,j3⟩:=io i G H sJ a.ext.in'
  by_cases hlt:i < ds.length
  · refine .inr ⟨j1 hlt,fun σ' H'=>i + 1 ≤ ds.length ∧ ∃ ρ G As,Sat G0 H0 S0 σ' ρ G H' As ∧ Same GJ G ∧ zDI mg E G0 H0 S0 L (Mi.forGo tg m (ds.drop (i + 1)) ρ) D,fun σ' H' q=>⟨ds.length - (i + 1),by omega,rfl,q⟩,fun x H2 hy=>?_⟩
    have hd:ds[i]? = some ds[i]:=qAa hlt
    obtain ⟨G2,x2,r2⟩:=j3 x H2 ds[i] hd hy
    rw [qBh hlt,Mi.forGo] at p
    cases eb:zAZ tg ds[i] with
    | none=>rw [eb] at p; exact p.elim
    | some bs =>
      rw [eb] at p
      try dsimp only at p
      refine hT G2 H2 _ _ x bs _ x2.in' r2 eb fun ws hb=>?_
      obtain ⟨As2,a2⟩:=Sat.puts hb (a.wider x2)
      have a3:Sat G0 H0 GJ (zFV σ ws) (zB4 ρ bs) G2 H2 As2:=⟨a2.ext,sJ.trans x2.g,a2.len,a2.at,a2.dis,a2.new⟩
      have key:∀ (S1:Hp),Same S0 S1 → Same GJ S1 → Sat G0 H0 S1 (zFV σ ws) (zB4 ρ bs) G2 H2 As2 → t { D with nx:=fun σ' H'=>i + 1 ≤ ds.length ∧ ∃ ρ G As,Sat G0 H0 S0 σ' ρ G H' As ∧ Same GJ G ∧ zDI mg E G0 H0 S0 L (Mi.forGo tg m (ds.drop (i + 1)) ρ) D,ct:=fun σ' H'=>i + 1 ≤ ds.length ∧ ∃ ρ G As,Sat G0 H0 S0 σ' ρ G H' As ∧ Same GJ G ∧ zDI mg E G0 H0 S0 L (Mi.forGo tg m (ds.drop (i + 1)) ρ) D,bk:=D.nx } (zFV σ ws) H2:=by
        intro S1 s1 s2 a4
        refine B G0 H0 S1 _ _ G2 H2 As2 _ a4 ?_
        have back:∀ {σ':St} {ρ':Ro} {G' H':Hp} {As':Nat → Addr → Prop},Sat G0 H0 S1 σ' ρ' G' H' As' → Sat G0 H0 S0 σ' ρ' G' H' As' ∧ Same GJ G':=fun a5=>⟨⟨a5.ext,s1.trans a5.stb,a5.len,a5.at,a5.dis,a5.new⟩,s2.trans a5.stb⟩
        cases em:m (zB4 ρ bs) with
        | none=>rw [em] at p; exact p
        | some r =>
          rw [em] at p
          cases r with
          | error y=>exact p
          | ok o =>
            cases o with
            | nx ρ'=>exact fun σ' G' H' As' a5=>⟨hlt,ρ',G',As',(back a5).1,(back a5).2,p⟩
            | ct ρ'=>exact fun σ' G' H' As' a5=>⟨hlt,ρ',G',As',(back a5).1,(back a5).2,p⟩
            | bk ρ'=>exact fun σ' G' H' As' a5=>p σ' G' H' As' (back a5).1
            | rt d=>exact p
      exact key G2 a2.stb (sJ.trans x2.g) ⟨a2.ext,Same.refl _,a2.len,a2.at,a2.dis,a2.new⟩
  · have e:i = ds.length:=by omega
    subst e
    rw [qF4,Mi.forGo] at p
    exact .inl ⟨j2 (qA7 _),p σ G H As a⟩
theorem zSM {wi:TI} {it:IM} {g:TG} {tg:Tg} (vs:List Nat) {ind:Bool} (I:DI mg E wi it ind) (hT:TgOk g tg) (B:DS mg E L t m):DS mg E L (fun D σ H=>wi σ H (zPT g t D σ)) (Mi.sFor vs it tg m):=by
  intro G0 H0 S0 σ ρ G H As D a p
  obtain ⟨G1,As1,a1⟩:=Sat.frzAt vs a
  refine I.step (errS.from a1.ext) a1.ext.in' a1.frz p fun ds J G2 H2 _ x2 io p1=>?_
  refine zSC hT B io (a1.wider x2) ?_ p1
  unfold zPK
  split
  · exact fun b o e=>by cases e
  · exact Same.refl _
theorem zUL {wi:TI} {it:IM} {i:Nat} (I:DI mg E wi it true) (B:DS mg E L t m):DS mg E L (fun D σ H=>wi σ H (zPT (zGH i) t D σ)) (Mi.sForR it i m):=by
  intro G0 H0 S0 σ ρ G H As D a p
  obtain ⟨J,x,s,w⟩:=a.full
  refine I.step (errS.from x) x.in' w p fun ds J G2 H2 _ x2 io p1=>?_
  exact zSC (zDJ i) B io (a.grow x2.h) (fun b o e=>by cases e) p1
theorem zXN {G0 H0 S0:Hp} {D:Ends} {tc:TT} {c:TM} (C:DT mg E tc c) (B:DS mg E L t m) (N:Nat) {σ:St} {ρ:Ro} {G H:Hp} {As:Nat → Addr → Prop} (a:Sat G0 H0 S0 σ ρ G H As) (p:zDI mg E G0 H0 S0 L (Mi.whGo c m N ρ) D):zNI tc t D σ H:=by
  refine ⟨fun i σ H=>∃ ρ G As,Sat G0 H0 S0 σ ρ G H As ∧ zDI mg E G0 H0 S0 L (Mi.whGo c m i ρ) D,⟨N,ρ,G,As,a,p⟩,?_⟩
  rintro i σ H ⟨ρ,G,As,a,p⟩
  cases i with
  | zero=>exact p.elim
  | succ i =>
    obtain ⟨J,x,s,w⟩:=a.full
    rw [Mi.whGo] at p
    refine C.step (errS.from x) x.in' w p fun b H' _ sH p1=>?_
    cases b with
    | false=>exact p1 σ G H' As (a.grow sH)
    | true =>
      rw [if_pos rfl]
      refine ⟨fun σ' H'=>∃ ρ G As,Sat G0 H0 S0 σ' ρ G H' As ∧ zDI mg E G0 H0 S0 L (Mi.whGo c m i ρ) D,fun σ' H' q=>⟨i,qF1 i,q⟩,?_⟩
      refine B G0 H0 S0 σ ρ G H' As _ (a.grow sH) ?_
      rw [if_pos rfl] at p1
      cases em:m ρ with
      | none=>rw [em] at p1; exact p1
      | some r =>
        rw [em] at p1
        cases r with
        | error y=>exact p1
        | ok o =>
          cases o with
          | nx ρ'=>exact fun σ' G' H' As' a5=>⟨ρ',G',As',a5,p1⟩
          | ct ρ'=>exact fun σ' G' H' As' a5=>⟨ρ',G',As',a5,p1⟩
          | bk ρ'=>exact fun σ' G' H' As' a5=>p1 σ' G' H' As' a5
          | rt d=>exact p1
theorem zM4 {tc:TT} {c:TM} (C:DT mg E tc c) (B:DS mg E L t m):DS mg E L (zNI tc t) (Mi.sWhile c m):=fun G0 H0 S0 σ ρ G H As D a p=>zXN C B _ a p
theorem dz (A:DE mg E te e 0):DE mg E te e 0:=A
theorem zKS {P N:Nat} {vs:List V} {H:Hp} {Q:VK} {E:XK} (h:spM mg L (Mi.runF P N m) vs H Q E):vs.length = P:=by
  obtain ⟨G,ds,s,r,p⟩:=h
  rw [r.length]
  unfold Mi.runF at p
  split at p
  · rename_i h; exact h
  · exact p.elim
theorem zBM {P:Nat} {N:List Str} {vs:List V} {H:Hp} {Q:VK} (B:DS mg E L t m) (h:spM mg L (Mi.runF P N.length m) vs H Q E):t { nx:=fun _ H'=>Q .non H',rt:=Q } (L2.start N vs) H:=by
  obtain ⟨G,ds,s,r,p⟩:=h
  unfold Mi.runF at p
  split at p
  · refine B G H G _ (Mi.startO N.length ds) G H (fun _ _=>False) _ ⟨Ext.refl s,Same.refl _,?_,fun i d n e=>?_,fun _ _ _ z=>z.elim,fun _ _ z=>z.elim⟩ ?_
    · unfold Mi.startO L2.start
      simp [r.length]
    · unfold Mi.startO at e
      by_cases hi:i < ds.length
      · rw [qAg (by simpa using hi),qAl] at e
        cases e1:ds[i]? with
        | none=>rw [e1] at e; cases e
        | some d' =>
          rw [e1] at e
          cases e
          have hv:vs[i]? = some (vs[i]'(by rw [r.length]; exact hi)):=by simp
          refine ⟨vs[i]'(by rw [r.length]; exact hi),?_,zD4 r e1 hv⟩
          unfold L2.start
          rw [qAg (by simpa [r.length] using hi),qAl,hv]
          rfl
      · rw [qAd (by simpa using hi),qBl] at e
        split at e <;> cases e
    · cases em:m (Mi.startO N.length ds) with
      | none=>rw [em] at p; exact p
      | some r =>
        rw [em] at p
        cases r with
        | error y=>exact p
        | ok o =>
          cases o with
          | nx ρ'=>exact fun σ' G' H' As' a=>PostE.val (d:=.non) p a.ext rfl rfl
          | rt d=>exact p
          | bk ρ'=>exact p.elim
          | ct ρ'=>exact p.elim
  · exact p.elim
end
end L3
namespace L3
open PySem PySem.Spec
open L2 hiding Rep RepL
open Mi (Dt FM okR)
def sp0 (K:qA1) (mg:Str → Option Value) (L:Nat) (f:FM):Sp:=fun vs H Q _=>@spM ⟨K⟩ mg L f vs H Q E0
end L3
namespace L3
open PySem PySem.Spec
open L2 hiding Rep RepL
open Mi (Dt Xn R okR zA2 optR bindR_ok zAA zAD zAB zAC Rh Sl Ro EM TM AM FM IM SM OM Tg Out zAZ zAR zB4 full frz frz1 frzAt)
section
variable [Kc] {mg:Str → Option Value} {E:XK} {L n k l:Nat} {te ta tb:TE} {e ea eb:EM} {t u:TS} {m m':SM}
theorem zL6 {G:Hp} {d:Dt} {v:V} (h:Rep G d v) (hd:d.dep = 0):zEZ v = true:=(zDU (by omega) h).flat (qFd.mp (qAo (zEQ (by omega)) (qBx hd)))
theorem zOX {G:Hp} {d e:Dt} {v u:V} (h:Rep G d v) (h':Rep G e u) (hd:d.dep = 0) (he:e.dep = 0):eqV v u = Dt.eq d e:=by
  rw [← zLA (by omega) (by omega)]
  exact (zDU (by omega) h).flatEq (zDU (by omega) h') (qFd.mp (qAo (zEQ (by omega)) (qBx hd))) (qFd.mp (qAo (zEQ (by omega)) (qBx he)))
theorem zUF {G:Hp} {d:Dt} {v:V} (h:Rep G d v) (hd:d.dep = 0):∀ {ds:List Dt} {vs:List V},RepL G ds vs → Dt.depL ds = 0 → vs.all zEZ = true ∧ inV v vs = ds.any fun y=>Dt.eq y d
  | [],vs,r,_=>by cases (show vs = [] from r); exact ⟨rfl,rfl⟩
  | e :: ds,vs,r,hz=>by
    obtain ⟨x,q,rfl,a,b⟩:=r
    rw [Dt.depL] at hz
    obtain ⟨h1,h2⟩:=zUF h hd b (by omega)
    have he:e.dep = 0:=by omega
    refine ⟨by simp [zL6 a he,h1],?_⟩
    unfold inV at h2 ⊢
    rw [qCc,qCc,h2,zOX a h he hd]
theorem zPZ {ng:Bool}:ROp (rInU Kc.K ng) (Mi.inD ng) n:=by
  intro mg E G H d e x y Q s h1 h2 p
  cases e with
  | lst ys =>
    obtain ⟨a,vs,rfl,ha,r⟩:=h2
    unfold Mi.inD Mi.hasD at p
    dsimp only at p
    by_cases hz:d.dep = 0 ∧ Dt.depL ys = 0
    · rw [if_pos hz] at p
      obtain ⟨g1,g2⟩:=zUF h1 hz.1 r hz.2
      refine ⟨vs,.inl (SqL.of (s _ _ ha)),zL6 h1 hz.1,g1,?_⟩
      rw [g2]
      exact PostE.val p (Ext.refl s) rfl rfl
    · rw [if_neg hz] at p; exact p.elim
  | tup ys =>
    obtain ⟨a,vs,rfl,ha,r⟩:=h2
    unfold Mi.inD Mi.hasD at p
    dsimp only at p
    by_cases hz:d.dep = 0 ∧ Dt.depL ys = 0
    · rw [if_pos hz] at p
      obtain ⟨g1,g2⟩:=zUF h1 hz.1 r hz.2
      refine ⟨vs,.inr (SqT.of (s _ _ ha)),zL6 h1 hz.1,g1,?_⟩
      rw [g2]
      exact PostE.val p (Ext.refl s) rfl rfl
    · rw [if_neg hz] at p; exact p.elim
  | str z =>
    cases (show y = .str z from h2)
    cases d with
    | str w =>
      cases (show x = .str w from h1)
      obtain ⟨⟨wl⟩⟩:=w
      match wl,p with
      | [c],p =>
        have p':PostE mg E G H n (okR (.bl (if ng = true then !decide (c ∈ z.cps.toList) else decide (c ∈ z.cps.toList)))) Q:=p
        have q:=PostE.val (v:=.bl (if ng = true then !decide (c ∈ z.cps.toList) else decide (c ∈ z.cps.toList))) p' (Ext.refl s) rfl rfl
        rw [← StrLaws.found_one z c] at q
        exact q
      | [],p=>exact p.elim
      | _ :: _ :: _,p=>exact p.elim
    | _=>exact p.elim
  | _=>exact p.elim
def DO (mg:Str → Option Value) (E:XK) (t:TO) (m:OM):Prop:=∀ (G H:Hp) (σ:St) (ρ:Rh) (Q:Option Int → Hp → Prop),Same G H → View G σ ρ →
  (match m ρ with
    | none=>False
    | some (.error x)=>∀ c da G' H',Ext G H G' H' → XRep mg x c da G' H' → E c da H'
    | some (.ok o)=>∀ H',Same H H' → Q o H') → t σ H Q
theorem DO.step {β:Type} {t:TO} {m:OM} (D:DO mg E t m) {G H:Hp} {σ:St} {ρ:Rh} {Q:Option Int → Hp → Prop} {P:R β → Prop} {f:Option Int → R β} (hE:Err mg E G H P) (s:Same G H) (w:View G σ ρ) (p:P (zA2 (m ρ) f))
    (h:∀ b H',m ρ = okR b → Same H H' → P (f b) → Q b H'):t σ H Q:=by
  refine D G H σ ρ Q s w ?_
  cases e:m ρ with
  | none=>rw [e] at p; exact hE.no p
  | some r =>
    rw [e] at p
    cases r with
    | error x=>exact hE.er x p
    | ok b=>exact fun H' sH=>h b H' e sH p
theorem zDP:DO mg E zNK Mi.oNo:=fun G H σ ρ Q s w p=>p H (Same.refl _)
theorem do_e (A:DE mg E te e k):DO mg E (zVE te) (Mi.oE e):=by
  intro G H σ ρ Q s w p
  unfold Mi.oE at p
  refine (zAK A).step (P:=fun r=>match r with
    | none=>False
    | some (.error x)=>∀ c da G' H',Ext G H G' H' → XRep mg x c da G' H' → E c da H'
    | some (.ok o)=>∀ H',Same H H' → Q o H') ⟨fun h=>h,fun _ h=>h⟩ s w p fun d v G1 H1 S _ fr o p1=>?_
  cases d with
  | int i=>exact ⟨i,o,p1 H1 fr.ext.h⟩
  | _=>exact p1.elim
theorem zM9 (n d:Nat) (o:Option Int):Mi.cutIx n d o = HT.sIx n d o:=by cases o <;> rfl
theorem zJD {G:Hp}:∀ {ds:List Dt} {xs:List V} (i:Nat),RepL G ds xs → RepL G (ds.drop i) (xs.drop i)
  | ds,xs,0,r=>by simpa using r
  | [],xs,i + 1,r=>by cases (show xs = [] from r); exact rfl
  | d :: ds,xs,i + 1,r=>by
    obtain ⟨x,q,rfl,a,b⟩:=r
    exact zJD i b
theorem zJC {G:Hp}:∀ {ds:List Dt} {xs:List V} (i:Nat),RepL G ds xs → RepL G (ds.take i) (xs.take i)
  | ds,xs,0,r=>by simp; exact rfl
  | [],xs,i + 1,r=>by cases (show xs = [] from r); exact rfl
  | d :: ds,xs,i + 1,r=>by
    obtain ⟨x,q,rfl,a,b⟩:=r
    exact ⟨x,_,rfl,a,zJC i b⟩
theorem zQ3 {G:Hp} {ds:List Dt} {xs:List V} (r:RepL G ds xs) (lo hi:Option Int):RepL G (Mi.cutA ds lo hi) (cutV xs lo hi):=by
  unfold Mi.cutA cutV
  rw [zM9,zM9,r.length]
  exact zJC _ (zJD _ r)
def RSl (r:V → Option Int → Option Int → Hp → VK → Prop) (n:Nat):Prop:=∀ (mg:Str → Option Value) (E:XK) (G H:Hp) (d:Dt) (x:V) (lo hi:Option Int) (Q:VK),Same G H → Rep G d x → PostE mg E G H n (optR (Mi.slD d lo hi)) Q → r x lo hi H Q
theorem zXD {r:V → Option Int → Option Int → Hp → VK → Prop} {tl th:TO} {ml mh:OM} (hr:RSl r n) (A:DE mg E te e k) (B:DO mg E tl ml) (C:DO mg E th mh):DE mg E (tSl r te tl th) (Mi.eSl e ml mh) n:=by
  intro G H σ ρ Q s w p
  refine (zAK A).step errE s w p fun d v G1 H1 S _ fr o p1=>?_
  refine B.step (errE.from fr.ext) fr.ext.in' (w.mono fr.ext.g) p1 fun lo H2 _ s2 p2=>?_
  have x2:=fr.ext.trans (Ext.same fr.ext.in' s2)
  refine C.step (errE.from x2) x2.in' (w.mono fr.ext.g) p2 fun hi H3 _ s3 p3=>?_
  have x3:=x2.trans (Ext.same x2.in' s3)
  exact hr mg E G1 H3 d v lo hi Q x3.in' o (PostE.from p3 x3)
end
end L3
namespace L3
open PySem PySem.Spec
open L2 hiding Rep RepL
open Mi (Dt Xn R okR zA2 optR bindR_ok zAA zAD zAB zAC Rh Sl Ro EM TM AM FM IM SM OM Tg Out zAZ zAR zB4 full frz frz1 frzAt)
section
variable [Kc] {mg:Str → Option Value} {E:XK} {L n k l:Nat} {te ta tb:TE} {e ea eb ma:EM} {t:TA} {m:AM}
theorem rs_u:RSl (rSlU Kc.K) 1:=by
  intro mg E G H d x lo hi Q s h p
  cases d with
  | lst ds =>
    obtain ⟨a,xs,rfl,ha,r⟩:=h
    exact ⟨xs,SqL.of (s _ _ ha),fun q hq=>PostE.lst p (Ext.refl s) (zQ3 r lo hi) hq⟩
  | str z =>
    cases (show x = .str z from h)
    rw [Mi.slD] at p
    by_cases hz:z.length ≤ 100000
    · rw [if_pos hz] at p; exact ⟨big' hz,PostE.val p (Ext.refl s) rfl rfl⟩
    · rw [if_neg hz] at p; exact p.elim
  | _=>exact p.elim
theorem zDH {tl th:TO} {ml mh:OM} (A:DE mg E te e k) (B:DO mg E tl ml) (C:DO mg E th mh):DE mg E (tSl (rSlU Kc.K) te tl th) (Mi.eSl e ml mh) 1:=zXD rs_u A B C
theorem zWZ {G:Hp} (z:Str):ItOk (Its z) G (Mi.signsD z):=by
  intro i G1 H1 s1 s2
  have hl:(Mi.signsD z).length = z.cps.size:=by simp [Mi.signsD]
  refine ⟨fun hi=>by rw [hl] at hi; exact hi,fun hi=>by rw [hl] at hi; exact hi,fun x H2 d hd hy=>?_⟩
  obtain ⟨rfl,c,hc,rfl⟩:=hy
  refine ⟨G1,Ext.refl s2,?_⟩
  unfold Mi.signsD at hd
  rw [qAl] at hd
  have hc':z.cps.toList[i]? = some c:=by simpa using hc
  rw [hc'] at hd
  cases hd
  rfl
theorem zHP (A:DE mg E ta ma k):DI mg E (iAny Kc.K ta) (Mi.iSq ma) false:=by
  intro G H σ ρ Q s w p
  refine (zAK A).step errI s w p fun d v G1 H1 S _ fr o p1=>?_
  cases d with
  | lst ds =>
    obtain ⟨a,xs,rfl,ha,r⟩:=o
    exact .inl ⟨⟨xs,SqL.of (fr.ext.in' _ _ ha)⟩,p1 _ G1 H1 fr.ext (zS7 (SqL.of ha) r)⟩
  | tup ds =>
    obtain ⟨a,xs,rfl,ha,r⟩:=o
    exact .inr ⟨⟨xs,SqT.of (fr.ext.in' _ _ ha)⟩,p1 _ G1 H1 fr.ext (zS6 (SqT.of ha) r)⟩
  | scr ns =>
    obtain ⟨a,rfl,ha⟩:=o
    rcases ha with ha | ha
    · exact .inl ⟨⟨_,fr.ext.in'.seq ha⟩,p1 _ G1 H1 fr.ext (zS7 ha (zCD ns))⟩
    · exact .inr ⟨⟨_,zFW fr.ext.in' ha⟩,p1 _ G1 H1 fr.ext (zS6 ha (zCD ns))⟩
  | str z =>
    cases (show v = .str z from o)
    exact p1 _ G1 H1 fr.ext (zWZ z)
  | _=>exact p1.elim
def RMt (r:V → List V → Hp → VK → Prop) (f:Dt → List Dt → Option Dt) (n:Nat):Prop:=∀ (mg:Str → Option Value) (E:XK) (G H:Hp) (z:Str) (ds:List Dt) (vs:List V) (Q:VK),Same G H → RepL G ds vs → PostE mg E G H n (optR (f (.str z) ds)) Q → r (.str z) vs H Q
theorem zF0 {r:V → List V → Hp → VK → Prop} {f:Dt → List Dt → Option Dt} (hr:RMt r f n) (A:DE mg E te e k) (B:DA mg E t m 0):DE mg E (tBM Kc.K "str" r te t) (Mi.eMt f e m) n:=by
  intro G H σ ρ Q s w p
  refine (zAK A).step errE s w p fun d v G1 H1 S _ fr o p1=>?_
  cases d with
  | str z =>
    cases (show v = .str z from o)
    refine ⟨rfl,?_⟩
    have p2:PostE mg E G H n (zA2 (m ρ) fun xs=>optR (f (.str z) xs)) Q:=p1
    refine B.step (errE.from fr.ext) fr.ext.in' (w.mono fr.ext.g) p2 fun ds vs G2 H2 S2 T2 _ fr2 o2 p3=>?_
    exact hr mg E G2 H2 z ds vs Q fr2.ext.in' o2.repL (PostE.from p3 (fr.ext.trans fr2.ext))
  | _=>exact p1.elim
theorem zRU {r:V → List V → Hp → VK → Prop} {f:Dt → List Dt → Option Dt} (hf:∀ z ds,(∀ c,ds ≠ [.str ⟨#[c]⟩]) → f (.str z) ds = none)
    (hr:∀ (mg:Str → Option Value) (E:XK) (G H:Hp) (z:Str) (c:Nat) (Q:VK),Same G H → PostE mg E G H n (optR (f (.str z) [.str ⟨#[c]⟩])) Q → r (.str z) [.str ⟨#[c]⟩] H Q):RMt r f n:=by
  intro mg E G H z ds vs Q s h p
  by_cases hd:∃ c,ds = [.str ⟨#[c]⟩]
  · obtain ⟨c,rfl⟩:=hd
    obtain ⟨x,rfl,hx⟩:=zDG h
    cases (show x = .str ⟨#[c]⟩ from hx)
    exact hr mg E G H z c Q s p
  · rw [hf z ds fun c e=>hd ⟨c,e⟩] at p
    exact p.elim
theorem zLX {f:Dt → List Dt → Option Dt} {z:Str} (h1:f (.str z) [] = none) (h2:∀ d,(∀ y,d ≠ .str y) → f (.str z) [d] = none) (h3:∀ d e r,f (.str z) (d :: e :: r) = none) (h4:f (.str z) [.str ⟨#[]⟩] = none) (h5:∀ a b r,f (.str z) [.str ⟨⟨a :: b :: r⟩⟩] = none) :
    ∀ ds,(∀ c,ds ≠ [.str ⟨#[c]⟩]) → f (.str z) ds = none:=by
  intro ds h
  match ds,h with
  | [],_=>exact h1
  | [.str ⟨⟨[]⟩⟩],_=>exact h4
  | [.str ⟨⟨[c]⟩⟩],h=>exact absurd rfl (h c)
  | [.str ⟨⟨a :: b :: r⟩⟩],_=>exact h5 a b r
  | [.non],_=>exact h2 _ fun _ e=>by cases e
  | [.bl _],_=>exact h2 _ fun _ e=>by cases e
  | [.int _],_=>exact h2 _ fun _ e=>by cases e
  | [.lst _],_=>exact h2 _ fun _ e=>by cases e
  | [.tup _],_=>exact h2 _ fun _ e=>by cases e
  | [.scr _],_=>exact h2 _ fun _ e=>by cases e
  | [.exc _ _ _],_=>exact h2 _ fun _ e=>by cases e
  | [.ins _ _],_=>exact h2 _ fun _ e=>by cases e
  | [.dct _],_=>exact h2 _ fun _ e=>by cases e
  | d :: e :: r,_=>exact h3 d e r
theorem zI3:RMt zX6 Mi.findD n:=zRU (fun z=>zLX rfl (fun d h=>by cases d <;> first | rfl | exact absurd rfl (h _)) (fun d e r=>by cases d <;> rfl) rfl fun a b r=>rfl) fun mg E G H z c Q s p=>by
  show Q (.int (Txt.find z ⟨#[c]⟩)) H
  rw [zQX]
  exact PostE.val p (Ext.refl s) rfl rfl
theorem zLO {G:Hp}:∀ {ds:List Dt} {zs:List Str} {xs:List V},Mi.strsD ds = some zs → RepL G ds xs → xs = zs.map V.str
  | [],zs,xs,h,r=>by cases h; exact r
  | .str b :: ds,zs,xs,h,r=>by
    obtain ⟨x,q,rfl,a,c⟩:=r
    rw [Mi.strsD] at h
    cases e:Mi.strsD ds with
    | none=>rw [e] at h; cases h
    | some cs =>
      rw [e] at h
      cases h
      rw [zLO e c,show x = .str b from a]
      rfl
  | .non :: _,_,_,h,_=>by simp [Mi.strsD] at h
  | .int _ :: _,_,_,h,_=>by simp [Mi.strsD] at h
  | .bl _ :: _,_,_,h,_=>by simp [Mi.strsD] at h
  | .lst _ :: _,_,_,h,_=>by simp [Mi.strsD] at h
  | .tup _ :: _,_,_,h,_=>by simp [Mi.strsD] at h
  | .scr _ :: _,_,_,h,_=>by simp [Mi.strsD] at h
  | .exc _ _ _ :: _,_,_,h,_=>by simp [Mi.strsD] at h
  | .ins _ _ :: _,_,_,h,_=>by simp [Mi.strsD] at h
  | .dct _ :: _,_,_,h,_=>by simp [Mi.strsD] at h
theorem zFY:RMt zWV Mi.joinD n:=by
  intro mg E G H z ds vs Q s h p
  match ds,h,p with
  | [.lst es],h,p =>
    obtain ⟨x,rfl,a,xs,rfl,ha,ra⟩:=zDG h
    have p':PostE mg E G H n (optR (match Mi.strsD es with
      | some zs=>@ite _ ((zs.map (·.length)).sum + zs.length * z.length ≤ 100000) (qA0 _) (some (.str (Str.join z zs))) none
      | none=>none)) Q:=p
    cases e:Mi.strsD es with
    | none=>rw [e] at p'; exact p'.elim
    | some zs =>
      rw [e] at p'
      dsimp only at p'
      split at p'
      · rename_i hz
        exact ⟨zs,by rw [← zLO e ra]; exact s _ _ ha,by omega,PostE.val p' (Ext.refl s) rfl rfl⟩
      · exact p'.elim
  | [],_,p=>exact p.elim
  | [.non],_,p=>exact p.elim
  | [.bl _],_,p=>exact p.elim
  | [.int _],_,p=>exact p.elim
  | [.str _],_,p=>exact p.elim
  | [.tup _],_,p=>exact p.elim
  | [.scr _],_,p=>exact p.elim
  | [.exc _ _ _],_,p=>exact p.elim
  | [.ins _ _],_,p=>exact p.elim
  | [.dct _],_,p=>exact p.elim
  | x :: _ :: _,_,p=>cases x <;> exact p.elim
end
end L3
namespace Mi
open PySem
noncomputable section
def noE {α:Type} (r:R α):R α:=match r with
  | some (.ok a)=>okR a
  | _=>none
def eCallN (f:FM) (am:AM):EM:=fun ρ=>zA2 (am ρ) fun ds=>noE (f ds)
def eMkX (c f:Str) (am:AM):EM:=fun ρ=>zA2 (am ρ) fun ds=>match ds with
  | [d]=>okR (.exc c f d)
  | _=>none
def sRaise (c f:Str) (am:AM):SM:=fun r=>zA2 (am (full r)) fun ds=>match ds with
  | [d]=>some (.error ⟨c,f,d⟩)
  | _=>none
def eAtX (hs:List Str) (f:Str) (a:EM):EM:=fun ρ=>zA2 (a ρ) fun d=>match d with
  | .exc c g x=>if c ∈ hs ∧ g = f then okR x else none
  | _=>none
def eIsX (ys ns:List Str) (a:EM):EM:=fun ρ=>zA2 (a ρ) fun d=>match d with
  | .exc c _ _=>if c ∈ ys then okR (.bl true) else if c ∈ ns then okR (.bl false) else none
  | _=>none
noncomputable def goneO (i:Nat):Out → Out
  | .nx r=>.nx (r.set i none)
  | .rt d=>.rt d
  | .bk r=>.bk (r.set i none)
  | .ct r=>.ct (r.set i none)
def sTry (vs:List Nat) (j:Option Nat) (e:EM) (hs:List Str) (i:Nat) (s:SM):SM:=fun r=>match e (frz (frzAt vs r)) with
  | none=>none
  | some (.ok d)=>okR (.nx (match j with | none=>frzAt vs r | some j=>(frzAt vs r).set j (some (d,0))))
  | some (.error x)=>if x.cls ∈ hs then zA2 (s ((frzAt vs r).set i (some (.exc x.cls x.f x.d,0)))) fun o=>okR (goneO i o) else none
end
end Mi
namespace L3
open PySem PySem.Spec
open L2 hiding Rep RepL
open Mi (Dt Xn R okR zA2 optR bindR_ok zAA zAD zAB zAC Rh Sl Ro EM TM AM FM IM SM OM Tg Out zAZ zAR zB4 full frz frz1 frzAt)
section
variable [Kc] {mg:Str → Option Value} {E:XK} {L n k l:Nat} {te ta tb:TE} {e ea eb ma:EM} {t:TA} {m:AM}
theorem zR6 {f:FM} (A:DA mg E t m 0):DE mg E (zGV (spM mg n f) [] E0 t) (Mi.eCallN f m) n:=by
  intro G H σ ρ Q s w p
  refine A.step errE s w p fun ds vs G1 H1 S T _ fr o p1=>?_
  refine ⟨G1,ds,fr.ext.in',by rw [qCp]; exact o.repL,?_⟩
  have p2:=PostE.from p1 fr.ext
  cases e:f ds with
  | none=>rw [e] at p2; exact p2
  | some r =>
    rw [e] at p2
    cases r with
    | error x=>exact p2.elim
    | ok d=>exact p2
def zFT (K:qA1) (f:Str):Sp:=fun vs H Q _=>∃ e C y,vs = [.ref e,y] ∧ H e = some (xn e (.ref C) none) ∧ PySem.W.xcIn K C = true ∧ XSet K C f ∧ ∀ d,H d = none → d ≠ e → Q .non (upd (upd H d (.xd [(f,y)])) e (xn e (.ref C) (some d)))
theorem madeX {G H:Hp} {a e C:Addr} {f:Str} {y:V} {d:Dt} {o:HO} (s:Same G H) (ha:H a = none) (he:H e = none) (hne:a ≠ e) (r:Rep G d y) :
    Ext G H (upd (upd G a (.xd [(f,y)])) e o) (upd (upd H a (.xd [(f,y)])) e o) ∧ Rep (upd (upd G a (.xd [(f,y)])) e o) d y:=by
  have sg:Same G (upd (upd G a (.xd [(f,y)])) e o):=fun b u hb=>by
    have h1:b ≠ e:=fun z=>by rw [z] at hb; rw [s _ _ hb] at he; cases he
    have h2:b ≠ a:=fun z=>by rw [z] at hb; rw [s _ _ hb] at ha; cases ha
    rw [zAG h1,zAG h2]; exact hb
  have sh:Same H (upd (upd H a (.xd [(f,y)])) e o):=fun b u hb=>by
    have h1:b ≠ e:=fun z=>by rw [z,he] at hb; cases hb
    have h2:b ≠ a:=fun z=>by rw [z,ha] at hb; cases hb
    rw [zAG h1,zAG h2]; exact hb
  refine ⟨⟨sg,sh,fun b u hb=>?_,fun b hb=>?_⟩,Rep.mono sg r⟩
  · by_cases h1:b = e
    · rw [h1,zAH] at hb; rw [h1,zAH]; exact hb
    · rw [zAG h1] at hb; rw [zAG h1]
      by_cases h2:b = a
      · rw [h2,zAH] at hb; rw [h2,zAH]; exact hb
      · rw [zAG h2] at hb; rw [zAG h2]; exact s _ _ hb
  · have h1:b ≠ e:=fun z=>hb (by rw [z]; exact he)
    have h2:b ≠ a:=fun z=>hb (by rw [z]; exact ha)
    rw [zAG h1,zAG h2]
theorem zVT {G:Hp} {ds:List Dt} {vs:List V} (r:RepL G ds vs) {d:Dt} (h:ds = [d]):∃ y,vs = [y] ∧ Rep G d y:=by
  subst h
  obtain ⟨x,q,rfl,a,b⟩:=r
  cases (show q = [] from b)
  exact ⟨x,rfl,a⟩
theorem zR1 {c f:Str} {C:Addr} {E':XK} (hC:clK Kc.K c = some C) (hx:PySem.W.xcIn Kc.K C = true) (hs:XSet Kc.K C f) (A:DA mg E t m 0):DS mg E L (zNJ Kc.K E (zLN C (zFT Kc.K f) E' t)) (Mi.sRaise c f m):=by
  intro G0 H0 S0 σ ρ G H As D a p
  obtain ⟨J,x,s,w⟩:=a.full
  refine A.step (errS.from x) x.in' w p fun ds vs G1 H1 S T _ fr o p1=>?_
  match ds,o,p1 with
  | [d],o,p1 =>
    obtain ⟨y,rfl,r⟩:=zVT o.repL rfl
    refine ⟨by show 1 ≤ sizeLine; decide,fun e he=>⟨e,C,y,rfl,zAH,hx,hs,fun b hb hne=>⟨rfl,e,C,some b,rfl,zAH,hx,?_⟩⟩⟩
    have hb':H1 b = none:=by rw [zAG hne] at hb; exact hb
    have hu:upd (upd (upd (upd H1 e (xn e (.ref C) none)) b (.xd [(f,y)])) e (xn e (.ref C) (some b))) e (xo e (.ref C) (some b)) = upd (upd H1 b (.xd [(f,y)])) e (xo e (.ref C) (some b)):=by
      funext z
      by_cases h1:z = e
      · rw [h1,zAH,zAH]
      · rw [zAG h1,zAG h1,zAG h1]
        by_cases h2:z = b
        · rw [h2,zAH,zAH]
        · rw [zAG h2,zAG h2,zAG h1]
    rw [hu]
    obtain ⟨x2,r'⟩:=madeX (C:=C) (f:=f) (o:=xo e (.ref C) (some b)) fr.ext.in' hb' he hne r
    exact p1 (.ref e) (some b) _ _ ((x.trans fr.ext).trans x2) ⟨e,C,rfl,zAH,hC,.inr ⟨b,_,y,rfl,by rw [zAG hne,zAH],by simp [qDb],r'⟩⟩
  | [],_,p=>exact p.elim
  | _ :: _ :: _,_,p=>exact p.elim
theorem Sat.del {G0 H0 S0:Hp} {σ:St} {ρ:Ro} {G H:Hp} {As:Nat → Addr → Prop} (a:Sat G0 H0 S0 σ ρ G H As) (i:Nat):Sat G0 H0 S0 (σ.set i none) (ρ.set i none) G H As:=by
  refine ⟨a.ext,a.stb,by simp [a.len],fun j d n e=>?_,a.dis,a.new⟩
  by_cases z:i = j
  · subst z
    have hj:i < ρ.length:=by
      have:=(qA2.mp e).1
      simpa using this
    rw [qAj hj] at e
    cases e
  · rw [qAk z] at e
    rw [qAk z]
    exact a.at j d n e
theorem zOT {G0 H0 S0:Hp} {i:Nat} {r:R Out} {D:Ends} (p:zDI mg E G0 H0 S0 L (zA2 r fun o=>okR (Mi.goneO i o)) D):zDI mg E G0 H0 S0 L r (zQT i D):=by
  cases r with
  | none=>exact p
  | some r =>
    cases r with
    | error x=>exact p
    | ok o =>
      cases o with
      | nx ρ=>exact fun σ G H As a=>p _ G H As (a.del i)
      | rt d=>exact p
      | bk ρ=>exact fun σ G H As a=>p _ G H As (a.del i)
      | ct ρ=>exact fun σ G H As a=>p _ G H As (a.del i)
theorem zX9 {te:XK → TE} {hs:List Str} {c:Value} {i:Nat} {ts:TS} {sm:SM} (j:Option Nat) (vs:List Nat) (hh:∀ c' ∈ hs,∃ C,clK Kc.K c' = some C ∧ qCg Kc.K (.ref C) c = some true) (A:∀ E',DE mg E' (te E') e 0) (B:DS mg E L ts sm) :
    DS mg E L (zRL Kc.K c i (fun D E' σ H=>te (E' σ) σ H (fun v H1=>match j with | none=>D.nx σ H1 | some j=>D.nx (σ.set j (some v)) H1)) ts) (Mi.sTry vs j e hs i sm):=by
  intro G0 H0 S0 σ ρ G H As D a p
  obtain ⟨G1,As1,a1⟩:=Sat.frzAt vs a
  unfold Mi.sTry at p
  refine (A _) G1 H σ (frz (frzAt vs ρ)) _ a1.ext.in' a1.frz ?_
  cases ee:e (frz (frzAt vs ρ)) with
  | none=>rw [ee] at p; exact p
  | some r =>
    rw [ee] at p
    cases r with
    | ok d =>
      intro v G2 H2 S fr o
      cases j with
      | none=>exact p σ G1 H2 As1 (a1.grow fr.ext.h)
      | some j=>exact p _ G2 H2 _ ((a1.wider fr.ext).put (i:=j) (S:=fun _=>False) (n:=0) (d:=d) (v:=v) o (fun _ z=>z.elim) (fun _ _ _ _ z=>z.elim))
    | error x =>
      by_cases hm:x.cls ∈ hs
      · have p':zDI mg E G0 H0 S0 L (zA2 (sm ((frzAt vs ρ).set i (some (.exc x.cls x.f x.d,0)))) fun o=>okR (Mi.goneO i o)) D:=by
          have p2:zDI mg E G0 H0 S0 L (if x.cls ∈ hs then zA2 (sm ((frzAt vs ρ).set i (some (.exc x.cls x.f x.d,0)))) fun o=>okR (Mi.goneO i o) else none) D:=p
          rw [if_pos hm] at p2; exact p2
        intro c' da G2 H2 x2 hX
        obtain ⟨e',C,rfl,h1,h2,h3⟩:=hX
        obtain ⟨C',hc1,hc2⟩:=hh _ hm
        rw [h2] at hc1
        cases hc1
        refine ⟨e',.ref C,rfl,x2.in' _ _ h1,hc2,?_⟩
        exact B G0 H0 S0 _ _ G2 H2 _ (zQT i D) ((a1.wider x2).put (i:=i) (S:=fun _=>False) (n:=0) (d:=.exc x.cls x.f x.d) (v:=.ref e') ⟨e',C,da,rfl,.inr h1,h2,h3⟩ (fun _ z=>z.elim) (fun _ _ _ _ z=>z.elim)) (zOT p')
      · have p2:zDI mg E G0 H0 S0 L (if x.cls ∈ hs then zA2 (sm ((frzAt vs ρ).set i (some (.exc x.cls x.f x.d,0)))) fun o=>okR (Mi.goneO i o) else none) D:=p
        rw [if_neg hm] at p2
        exact p2.elim
theorem zSQ {f:Str} {hs:List Str} (hf:∀ c ∈ hs,∃ C,clK Kc.K c = some C ∧ Xc.XIs Kc.K C ∧ qA8 Kc.K (.ref C) f = some none) (A:DE mg E ta ma k) (hne:f ≠ "":=by decide):DE mg E (zRP Kc.K ta f) (Mi.eAtX hs f ma) 0:=by
  intro G H σ ρ Q s w p
  refine (zAK A).step errE s w p fun d v G1 H1 S _ fr o p1=>?_
  cases d with
  | exc c g x =>
    obtain ⟨e,C,da,rfl,hx,hc,r⟩:=o
    dsimp only at p1
    split at p1
    · rename_i hg
      obtain ⟨hm,rfl⟩:=hg
      obtain ⟨C',hc',c1,c2⟩:=hf c hm
      rw [hc] at hc'
      cases hc'
      rcases r with ⟨_,z⟩ | ⟨a,gs,y,rfl,h1,h2,h3⟩
      · exact absurd z hne
      · exact ⟨e,C,a,gs,y,rfl,hx.imp (fun z=>fr.ext.in' _ _ z) fun z=>fr.ext.in' _ _ z,fr.ext.in' _ _ h1,c1,c2,h2,PostE.kept p1 fr.ext h3⟩
    · exact p1.elim
  | _=>exact p1.elim
noncomputable def kitV (K:qA1) (C:Addr):V → Option Bool
  | .ref c=>qB0 K (.ref C) (.ref c)
  | .ty n=>qB0 K (.ref C) (.type n)
  | _=>none
theorem zS9 {ys ns:List Str} {ρ:Rh} {P:V → Hp → (V → Hp → Prop) → Prop} {b0:Addr → Bool → Prop} {G H:Hp} {σ:St} {Q:VK} (hy:∀ c ∈ ys,∃ C,clK Kc.K c = some C ∧ Xc.XIs Kc.K C ∧ b0 C true) (hn:∀ c ∈ ns,∃ C,clK Kc.K c = some C ∧ Xc.XIs Kc.K C ∧ b0 C false) (A:DE mg E ta ma k) (s:Same G H) (w:View G σ ρ)
    (p:PostE mg E G H 0 (Mi.eIsX ys ns ma ρ) Q) (h:∀ e C d G1 H1 b,Ext G H G1 H1 → isX H1 e C d → (∀ a,d = some a → ∃ fs,H1 a = some (.xd fs)) → Xc.XIs Kc.K C → b0 C b → (∀ G2 H2,Ext G1 H1 G2 H2 → Q (.bl b) H2) → P (.ref e) H1 Q):ta σ H fun x H1=>P x H1 Q:=by
  refine (zAK A).step errE s w p fun d v G1 H1 S _ fr o p1=>?_
  cases d with
  | exc c g x =>
    obtain ⟨e,C,da,rfl,hx,hc,r⟩:=o
    have hx':isX H1 e C da:=hx.imp (fun z=>fr.ext.in' _ _ z) fun z=>fr.ext.in' _ _ z
    have hd:∀ a,da = some a → ∃ fs,H1 a = some (.xd fs):=fun a ea=>by
      rcases r with ⟨z,_⟩ | ⟨a',gs,y,z,h1,_⟩
      · rw [z] at ea; cases ea
      · rw [z] at ea; cases ea; exact ⟨gs,fr.ext.in' _ _ h1⟩
    dsimp only at p1
    split at p1
    · rename_i hm
      obtain ⟨C',hc',c1,c2⟩:=hy c hm
      rw [hc] at hc'
      cases hc'
      exact h e C da G1 H1 true fr.ext hx' hd c1 c2 fun G2 H2 x2=>PostE.val p1 (fr.ext.trans x2) rfl rfl
    · split at p1
      · rename_i hm
        obtain ⟨C',hc',c1,c2⟩:=hn c hm
        rw [hc] at hc'
        cases hc'
        exact h e C da G1 H1 false fr.ext hx' hd c1 c2 fun G2 H2 x2=>PostE.val p1 (fr.ext.trans x2) rfl rfl
      · exact p1.elim
  | _=>exact p1.elim
theorem zSN {ys ns:List Str} {y:V} (hy:∀ c ∈ ys,∃ C,clK Kc.K c = some C ∧ Xc.XIs Kc.K C ∧ kitV Kc.K C y = some true) (hn:∀ c ∈ ns,∃ C,clK Kc.K c = some C ∧ Xc.XIs Kc.K C ∧ kitV Kc.K C y = some false) (A:DE mg E ta ma k) :
    DE mg E (tCB (zNX Kc.K) (zDF ta (zDF (tC y) tNil))) (Mi.eIsX ys ns ma) 0:=by
  intro G H σ ρ Q s w p
  refine zS9 (P:=fun x H1 Q=>zNX Kc.K [x,y] H1 Q) (b0:=fun C b=>kitV Kc.K C y = some b) hy hn A s w p fun e C d G1 H1 b x1 hx hd c1 c2 q=>?_
  refine ⟨e,C,d,y,b,rfl,hx,hd,c1,q G1 H1 (Ext.refl x1.in'),?_⟩
  cases y with
  | ref c=>exact .inl ⟨c,rfl,c2⟩
  | ty n=>exact .inr (.inl ⟨n,rfl,c2⟩)
  | _=>cases c2
def tVs:List V → TA
  | []=>tNil
  | v :: r=>zDF (tC v) (tVs r)
theorem zRK:∀ (vs:List V) (σ:St) (H:Hp) (Q:List V → Hp → Prop),Q vs H → tVs vs σ H Q
  | [],_,_,_,h=>h
  | v :: r,σ,H,Q,h=>zRK r σ H (fun xs H2=>Q (v :: xs) H2) h
theorem zUP {ys ns:List Str} {vs:List V} {its:List Value} (hv:clsV vs = some its) (hz:vs.length ≤ 1000) (hy:∀ c ∈ ys,∃ C,clK Kc.K c = some C ∧ Xc.XIs Kc.K C ∧ qAw Kc.K (.ref C) its = some true) (hn:∀ c ∈ ns,∃ C,clK Kc.K c = some C ∧ Xc.XIs Kc.K C ∧ qAw Kc.K (.ref C) its = some false) (A:DE mg E ta ma k) :
    DE mg E (tCB (zNX Kc.K) (zDF ta (zDF (tTup (tVs vs)) tNil))) (Mi.eIsX ys ns ma) 0:=by
  intro G H σ ρ Q s w p
  refine zS9 (P:=fun x H1 Q=>tTup (tVs vs) σ H1 fun y H2=>zNX Kc.K [x,y] H2 Q) (b0:=fun C b=>qAw Kc.K (.ref C) its = some b) hy hn A s w p fun e C d G1 H1 b x1 hx hd c1 c2 q=>?_
  refine zRK vs σ H1 _ ⟨qAo hz (by decide),fun pt hp=>?_⟩
  have x2:=Ext.new x1.in' hp (.tup vs)
  exact ⟨e,C,d,.ref pt,b,rfl,hx.imp (fun z=>x2.h _ _ z) fun z=>x2.h _ _ z,fun a ea=>let ⟨fs,h1⟩:=hd a ea; ⟨fs,x2.h _ _ h1⟩,c1,q _ _ x2,.inr (.inr ⟨pt,vs,its,rfl,zAH,hv,c2⟩)⟩
end
end L3
namespace L3
open PySem PySem.Spec
open L2 hiding Rep RepL
open Mi (Dt Xn R okR zA2 optR bindR_ok zAA zAD zAB zAC Rh Sl Ro EM TM AM FM IM SM OM Tg Out zAZ zAR zB4 full frz frz1 frzAt)
section
variable {K:qA1} {C D:Addr} {dd:Option Addr} {cd:ClassData} {sl:Array (Option Value)} {b:Bool}
def xcD (C:Addr) (cd:ClassData) (sl:Array (Option Value)):Bool:=match cd.mro,sl.toList with
  | .ref C' :: bm,[_,_,_,_,some (.builtin n),_]=>C' == C && !cd.hasDel && PySem.W.excTail bm && n == "ValueError.__new__" && cd.hasDict
  | _,_=>false
theorem zEV (h:K.lookup C = some ⟨.type "type",dd,.cls cd,sl⟩) (h':xcD C cd sl = true):PySem.W.xcIn K C = true:=by
  unfold PySem.W.xcIn
  rw [h]
  exact h'
theorem zTV (h:qB5 K C = some cd) (h':PySem.W.excTail cd.mro = true):PySem.W.excOver K C = true:=by
  unfold PySem.W.excOver
  rw [h]
  exact h'
theorem zGD (h1:qB5 K D = some cd) (h2:qB9 K (.ref D) = some (.type "type")) (h3:qA5 K (.ref C) (.ref D) = some b):PySem.W.kitCls K (.ref C) (.ref D) = some b:=by
  show (if ((qB5 K D).isSome && qB9 K (.ref D) == some (.type "type")) = true then qA5 K (.ref C) (.ref D) else none) = some b
  rw [h1,h2,if_pos (by rw [qDh,Bool.true_and]; exact beq_self_eq_true _)]
  exact h3
theorem zEN (h1:qB5 K D = some cd) (h2:qB9 K (.ref D) = some (.type "type")) (h3:qA5 K (.ref C) (.ref D) = some true):qB0 K (.ref C) (.ref D) = some true:=by
  unfold qB0
  split
  · rfl
  · exact zGD h1 h2 h3
theorem zB0 (h1:qB5 K D = some cd) (h2:qB9 K (.ref D) = some (.type "type")) (h3:qA5 K (.ref C) (.ref D) = some false) (ne:(C == D) = false):qB0 K (.ref C) (.ref D) = some false:=by
  unfold qB0
  split
  · rename_i z
    have:C = D:=Value.ref.inj (beq_iff_eq.mp z)
    rw [this,beq_self_eq_true] at ne
    cases ne
  · exact zGD h1 h2 h3
theorem zCZ (h3:qA5 K (.ref C) (.type "ValueError") = some true):qB0 K (.ref C) (.type "ValueError") = some true:=by
  unfold qB0
  split
  · rfl
  · show (if PySem.W.kitMeta "ValueError" = true then qA5 K (.ref C) (.type "ValueError") else none) = some true
    rw [if_pos (by decide +kernel)]
    exact h3
theorem zFF {t c:Value} {cs:List Value} (h:qB0 K t c = some true):qAw K t (c :: cs) = some true:=by unfold qAw; rw [h]
theorem zBC {t c:Value} {cs:List Value} (h:qB0 K t c = some false) (h':qAw K t cs = some b):qAw K t (c :: cs) = some b:=by unfold qAw; rw [h]; exact h'
theorem zM1 {t:Value}:qAw K t [] = some false:=rfl
theorem zD0 (h0:qA5 K (.ref D) (.type "BaseException") = some true) (h1:qB5 K D = some cd) (h2:qB9 K (.ref D) = some (.type "type")) (h3:qA5 K (.ref C) (.ref D) = some true):qCg K (.ref C) (.ref D) = some true:=by
  unfold qCg
  rw [h0,if_pos (beq_self_eq_true _)]
  exact zGD h1 h2 h3
end
structure XCls (K:qA1) (mg:Str → Option Value) (c:Str) (C:Addr):Prop where
  cl:clK K c = some C
  gm:mg c = some (.ref C)
  is:Xc.XIs K C
structure XIni (P:Program) (w:World) (K:qA1) (mg:Str → Option Value) (base:Heap) (c f:Str) (C:Addr):Prop extends XCls K mg c C where
  kp:qAv K (.ref C) = true
  st:XSet K C f
  fa:qA8 K (.ref C) f = some none
  ini:∃ fI fd ps,qA8 K (.ref C) "__init__" = some (some (.ref fI)) ∧ qCy K (.ref fI) = true ∧ FnOk P w K mg base (CXe P w) 1 fI fd ps (zFT K f) ∧ Binds K fd ps []
theorem zRZ {X:Cx} {c f:Str} {C:Addr} {k:Nat} {E:XK} {e:Expr} {es:List Expr} {t:TA} {p pos:Pos} (h:XIni X.prog X.w X.K X.mg X.base c f C) (hr:Room k X.A) (hk:2 ≤ k) (hf:Flies X E) (hg:Gl X c) (ha:PA X (e :: es) t) (hdb:(c == ("__debug__":Str)) = false:=by decide)
    (he:starEach (e :: es) X.env = (false,eval e X.env) :: starEach es X.env:=by rfl) (hpl:(backTo pos (starEach es X.env)).any (·.1) = false:=by rfl):PE X (.Call (.Name c p) (e :: es) [] pos) (zLN C (zFT X.K f) E t):=by
  obtain ⟨fI,fd,ps,h1,h2,F,hb⟩:=h.ini
  exact zQC h.is.xc h1 h2 F (hr.mono hk) hb hf.passes hg h.gm h.kp ha hdb he hpl
theorem zQQ {K:qA1} {f a0 a1:Str} {vs:List V} {H:Hp} {Q:VK} {E:XK} (h:zFT K f vs H Q E) :
    tSeq (zNL (zRO K (zDF (tVar 0) (zDF (tVar 1) tNil)))) (zRR K (tVar 0) (tVar 1) f) { nx:=fun _ H'=>Q .non H',rt:=Q } (start [a0,a1] vs) H:=by
  obtain ⟨e,C,y,rfl,he,hx,hs,q⟩:=h
  exact ⟨.ref e,rfl,y,rfl,e,C,none,[y],rfl,he,hx,(by show 1 ≤ sizeLine; decide),y,rfl,.ref e,rfl,e,C,rfl,he,hs,q⟩
theorem zQR {K:qA1} {f:Str} {ps:List Str} (hp:ps.length = 2):∀ vs H Q E,zFT K f vs H Q E → vs.length = ps.length:=by
  rintro vs H Q E ⟨e,C,y,rfl,_⟩
  rw [hp]; rfl
theorem zBL {K:qA1} {c:Str} {C:Addr} (h:qB8 K mainGlobals c = some (some (.ref C))):clK K c = some C:=by unfold clK; rw [h]
theorem zGO:bootBuiltins "ValueError" = some (.type "ValueError"):=by decide +kernel
theorem zYC:qDx (.builtin "ValueError.__init__") = true:=by decide +kernel
noncomputable def zYB:Stmt → Stmt
  | .ClassDef _ _ _ body _ _ _ _ _ _ _=>body.getD 0 (.Pass ⟨0,0,0,0⟩)
  | s=>s
theorem zTU {P:Program} {w:World} {K:qA1} {mg:Str → Option Value} {base:Heap} {N:List Str} {qual:Str} {scope:Scope} {f:Addr} {cd:Value} {A:Around} {outer:List Env} {s:Shared} {H:Hp} {E:XK} :
    PassesOwn (model P w) (A.deeper (qEj qual scope s.heap.objs.size f cd)) (qEj qual scope s.heap.objs.size f cd) (cxOf (CXe P w) P w K mg base N qual scope f cd A outer s H E).xe:=PassesOwn.leaving
def spE (K:qA1) (mg:Str → Option Value) (L:Nat) (f:Mi.FM):Sp:=fun vs H Q E=>@spM ⟨K⟩ mg L f vs H Q E
section
variable [Kc] {mg:Str → Option Value} {E:XK} {L n k l:Nat} {te ta tb:TE} {e ea eb ma:EM} {t:TA} {m:AM}
theorem zIR {f:FM} {E':XK} (A:DA mg E t m 0):DE mg E (zGV (sp0 Kc.K mg n f) [] E' t) (Mi.eCallN f m) n:=zR6 A
theorem zM7 {f:FM} (A:DA mg E t m 0):DE mg E (zGV (spE Kc.K mg n f) [] E t) (Mi.eCall f m) n:=zAS A
theorem zK5 {P:Program} {w:World} {base:Heap} {c f:Str} {C:Addr} {E':XK} (h:XIni P w Kc.K mg base c f C) (A:DA mg E t m 0):DS mg E L (zNJ Kc.K E (zLN C (zFT Kc.K f) E' t)) (Mi.sRaise c f m):=zR1 h.cl h.is.xc h.st A
end
noncomputable def zJ9 (K:qA1):Sp:=fun vs H Q _=>∃ (a:Addr) (ns:List Int),vs = [.ref a] ∧ SqL K H a (ns.map V.int) ∧ ns.length ≤ 63 ∧ (∀ i ∈ ns,i.natAbs.log2 < 2 ^ 20) ∧ ∀ H',Q (.bl true) H'
theorem zQK {K:qA1} {mg:Str → Option Value} {L:Nat} {f:FM} (hf:∀ ns:List Int,ns.length ≤ 63 → (∀ i ∈ ns,i.natAbs.log2 < 2 ^ 20) → f [.scr ns] = okR (.bl true)):∀ vs H Q E,zJ9 K vs H Q E → sp0 K mg L f vs H Q E:=by
  letI:Kc:=⟨K⟩
  rintro vs H Q E ⟨a,ns,rfl,hS,hl,hw,q⟩
  refine ⟨H,[.scr ns],Same.refl _,⟨_,_,rfl,⟨a,rfl,.inl hS⟩,rfl⟩,?_⟩
  rw [hf ns hl hw]
  intro v G' H' S fr o
  cases (show v = .bl true by cases L <;> exact o)
  exact q H'
end L3
namespace Mi
open PySem
section
variable (ρ:Rh) (r:Ro) (a b c:EM) (s t:SM) (q q':TM) (am:AM)
@[simp] theorem x_eC (d:Dt):eC d ρ = okR d:=rfl
@[simp] theorem x_eV (i:Nat):eV i ρ = match ρ[i]? with | some (some d)=>okR d | _=>none:=rfl
@[simp] theorem x_eB (f:Dt → Dt → Option Dt):eB f a b ρ = zA2 (a ρ) fun x=>zA2 (b ρ) fun y=>optR (f x y):=rfl
@[simp] theorem x_eU (f:Dt → Option Dt):eU f a ρ = zA2 (a ρ) fun x=>optR (f x):=rfl
@[simp] theorem zED:aNil ρ = okR []:=rfl
@[simp] theorem zCC:aCons a am ρ = zA2 (a ρ) fun x=>zA2 (am ρ) fun xs=>okR (x :: xs):=rfl
@[simp] theorem zHU (f:FM):eCall f am ρ = zA2 (am ρ) f:=rfl
@[simp] theorem zT0 (f:List Dt → Option Dt):eBi f am ρ = zA2 (am ρ) fun xs=>optR (f xs):=rfl
@[simp] theorem x_eLst:eLst am ρ = zA2 (am ρ) fun xs=>@ite _ (xs.length ≤ 100000) (qA0 _) (okR (.lst xs)) none:=rfl
@[simp] theorem x_eTup:eTup am ρ = zA2 (am ρ) fun xs=>@ite _ (xs.length ≤ 100000) (qA0 _) (okR (.tup xs)) none:=rfl
@[simp] theorem x_eIsi (n:String):eIsi n a ρ = zA2 (a ρ) fun x=>optR (isiD n x):=rfl
@[simp] theorem x_eAnd:eAnd a b ρ = zA2 (a ρ) fun x=>match x with | .bl k=>if k = true then b ρ else okR (.bl false) | _=>none:=rfl
@[simp] theorem x_eOr:eOr a b ρ = zA2 (a ρ) fun x=>match x with | .bl k=>if k = true then okR (.bl true) else b ρ | _=>none:=rfl
@[simp] theorem x_eNot:eNot a ρ = zA2 (a ρ) fun x=>match x with | .bl k=>okR (.bl (!k)) | _=>none:=rfl
@[simp] theorem x_eChain (f g:Dt → Dt → Option Dt):eChain f g a b c ρ = zA2 (a ρ) fun x=>zA2 (b ρ) fun y=>zA2 (optR (f x y)) fun z=>match z with | .bl k=>if k = true then zA2 (c ρ) fun w=>optR (g y w) else okR (.bl false) | _=>none:=rfl
@[simp] theorem x_eIf:eIf q a b ρ = zA2 (q ρ) fun k=>if k = true then a ρ else b ρ:=rfl
@[simp] theorem x_tB:tB a ρ = zA2 (a ρ) fun x=>match x with | .bl k=>okR k | _=>none:=rfl
@[simp] theorem x_tM:tM a ρ = zA2 (a ρ) fun x=>match x with | .bl k=>okR k | .int i=>okR (i != 0) | .non=>okR false | _=>none:=rfl
@[simp] theorem zV1:tAn q q' ρ = zA2 (q ρ) fun k=>if k = true then q' ρ else okR false:=rfl
@[simp] theorem zV0:tOr q q' ρ = zA2 (q ρ) fun k=>if k = true then okR true else q' ρ:=rfl
@[simp] theorem x_tNo:tNo q ρ = zA2 (q ρ) fun k=>okR (!k):=rfl
@[simp] theorem x_tYes:tYes ρ = okR true:=rfl
@[simp] theorem zRH:sNil r = okR (.nx r):=rfl
@[simp] theorem zAP:sSeq s t r = zA2 (s r) fun o=>match o with | .nx ρ'=>t ρ' | o=>okR o:=rfl
@[simp] theorem zPP:sIf q s t r = zA2 (q (full r)) fun k=>if k = true then s r else t r:=rfl
@[simp] theorem x_sDrop:zXV a r = zA2 (a (full r)) fun _=>okR (.nx r):=rfl
@[simp] theorem x_sBreak:zVK r = okR (.bk r):=rfl
@[simp] theorem x_sCont:zXW r = okR (.ct r):=rfl
@[simp] theorem x_sNever:zVI r = none:=rfl
@[simp] theorem x_sRetN:zXT r = okR (.rt .non):=rfl
@[simp] theorem zFL (i n:Nat) (vs:List Nat):sSet i n vs a r = zA2 (a (full r)) fun d=>if d.dep ≤ n then okR (.nx (r.set i (some (d,n)))) else zA2 (a (frz (frzAt vs r))) fun d'=>okR (.nx ((frzAt vs r).set i (some (d',n)))):=rfl
@[simp] theorem zLK (L n:Nat) (vs:List Nat):sRet L n vs a r = zA2 (a (full r)) fun d=>if d.dep ≤ n ∧ d.dep ≤ L then okR (.rt d) else if n = L then zA2 (a (frz (frzAt vs r))) fun d'=>okR (.rt d') else none:=rfl
@[simp] theorem zSX (L i:Nat):sRetV L i r = match r[i]? with | some (some (d,k))=>if k = L ∨ L = 0 ∨ (d.dep ≤ k ∧ d.dep ≤ L ∧ k < 1000) then okR (.rt d) else none | _=>none:=rfl
@[simp] theorem zH5:full [] = []:=rfl
@[simp] theorem zFM (o:Option Sl) (r:Ro):full (o :: r) = o.map qGe :: full r:=rfl
@[simp] theorem x_frz_nil:frz [] = []:=rfl
@[simp] theorem x_frz_none (r:Ro):frz (none :: r) = none :: frz r:=rfl
@[simp] theorem x_frz_some (d:Dt) (n:Nat) (r:Ro):frz (some (d,n) :: r) = (if n = 0 ∨ d.dep = 0 then some d else none) :: frz r:=rfl
@[simp] theorem x_frzAt_nil (r:Ro):frzAt [] r = r:=rfl
@[simp] theorem x_frzAt_cons (i:Nat) (v:List Nat) (r:Ro):frzAt (i :: v) r = frzAt v (frz1 i r):=rfl
@[simp] theorem x_frz1 (i:Nat) (r:Ro):frz1 i r = match r[i]? with | some (some (d,_))=>r.set i (some (d,0)) | _=>r:=rfl
@[simp] theorem x_startO (n:Nat) (ds:List Dt):startO n ds = ds.map (fun d=>some (d,0)) ++ qA6 (n - ds.length) none:=rfl
@[simp] theorem x_runF (P n:Nat) (ds:List Dt):runF P n s ds = if ds.length = P then zA2 (s (startO n ds)) endF else none:=rfl
@[simp] theorem x_end1 (r:Ro):endF (.nx r) = okR .non:=rfl
@[simp] theorem x_end2 (d:Dt):endF (.rt d) = okR d:=rfl
end
@[simp] theorem v_add (i j:Int):addD (.int i) (.int j) = some (.int (i + j)):=rfl
@[simp] theorem zV6 (i j:Str):addD (.str i) (.str j) = @ite _ (i.length + j.length ≤ 100000) (qA0 _) (some (.str (i ++ j))) none:=rfl
@[simp] theorem v_addL (i j:List Dt):addD (.lst i) (.lst j) = @ite _ (i.length + j.length ≤ 100000) (qA0 _) (some (.lst (i ++ j))) none:=rfl
@[simp] theorem v_sub (i j:Int):subD (.int i) (.int j) = some (.int (i - j)):=rfl
@[simp] theorem zT5 (i j:Int):mulD (.int i) (.int j) = @ite _ (((-18446744073709551616 < i ∧ i < 18446744073709551616) ∨ (-18446744073709551616 < j ∧ j < 18446744073709551616)) ∨ i.natAbs.log2 + j.natAbs.log2 ≤ 67108864) (qA0 _) (some (.int (i * j))) none:=rfl
@[simp] theorem v_div (i j:Int):divD (.int i) (.int j) = @ite _ (0 < j ∧ j < 1000000000000000000000000) (qA0 _) (some (.int (i / j))) none:=rfl
@[simp] theorem v_mod (i j:Int):modD (.int i) (.int j) = if 0 < j then some (.int (i % j)) else none:=rfl
@[simp] theorem v_pow (i j:Int):powD (.int i) (.int j) = @ite _ (0 ≤ j ∧ j ≤ 1000000 ∧ i.natAbs < 18446744073709551616) (qA0 _) (some (.int (i ^ j.toNat))) none:=rfl
@[simp] theorem v_neg (i:Int):negD (.int i) = some (.int (-i)):=rfl
@[simp] theorem v_cmp (p:Int → Int → Bool) (i j:Int):cmpD p (.int i) (.int j) = some (.bl (p i j)):=rfl
@[simp] theorem v_eq (x y:Dt):eqD x y = if x.dep ≤ 40 ∧ y.dep ≤ 40 then some (.bl (Dt.eq x y)) else none:=rfl
@[simp] theorem v_ne (x y:Dt):neD x y = if x.dep ≤ 40 ∧ y.dep ≤ 40 then some (.bl (!Dt.eq x y)) else none:=rfl
@[simp] theorem v_is (x:Dt):isD x .non = some (.bl (isNonD x)):=rfl
@[simp] theorem v_isnt (x:Dt):isntD x .non = some (.bl (!isNonD x)):=rfl
@[simp] theorem v_isN1:isNonD .non = true:=rfl
@[simp] theorem v_isN2 (i:Int):isNonD (.int i) = false:=rfl
@[simp] theorem v_isN3 (i:List Dt):isNonD (.lst i) = false:=rfl
@[simp] theorem v_isN4 (i:List Dt):isNonD (.tup i) = false:=rfl
@[simp] theorem v_isN5 (i:Str):isNonD (.str i) = false:=rfl
@[simp] theorem v_isN6 (i:Bool):isNonD (.bl i) = false:=rfl
@[simp] theorem v_ixL (xs:List Dt) (i:Int):ixD (.lst xs) (.int i) = itA xs i:=rfl
@[simp] theorem v_ixT (xs:List Dt) (i:Int):ixD (.tup xs) (.int i) = itA xs i:=rfl
@[simp] theorem v_ixS (ns:List Int) (i:Int):ixD (.scr ns) (.int i) = (itA ns i).map .int:=rfl
@[simp] theorem v_lenL (xs:List Dt):lenD [.lst xs] = some (.int xs.length):=rfl
@[simp] theorem v_lenT (xs:List Dt):lenD [.tup xs] = some (.int xs.length):=rfl
@[simp] theorem v_lenS (ns:List Int):lenD [.scr ns] = some (.int ns.length):=rfl
@[simp] theorem v_listL (xs:List Dt):listD [.lst xs] = some (.lst xs):=rfl
@[simp] theorem v_listT (xs:List Dt):listD [.tup xs] = some (.lst xs):=rfl
@[simp] theorem v_listS (ns:List Int):listD [.scr ns] = some (.lst (ns.map .int)):=rfl
theorem zNB {j:Int} (h0:0 ≤ j) (h1:j ≤ 100000):rangeD [.int j] = some (.lst (nums 0 j.toNat)):=by
  show (@ite _ ((-4611686018427387904 ≤ j ∧ j < 4611686018427387904) ∧ j ≤ 100000) (qA0 _) (some (Dt.lst (nums 0 j.toNat))) none) = _
  rw [if_pos ⟨⟨by omega,by omega⟩,h1⟩]
@[simp] theorem v_dn:Dt.non.dep = 0:=rfl
@[simp] theorem v_db (b:Bool):(Dt.bl b).dep = 0:=rfl
@[simp] theorem v_di (b:Int):(Dt.int b).dep = 0:=rfl
@[simp] theorem v_ds (b:Str):(Dt.str b).dep = 0:=rfl
@[simp] theorem v_dS (b:List Int):(Dt.scr b).dep = 1000:=by rw [Dt.dep]
@[simp] theorem v_dl (xs:List Dt):(Dt.lst xs).dep = Dt.depL xs + 1:=by rw [Dt.dep]
@[simp] theorem v_dt (xs:List Dt):(Dt.tup xs).dep = Dt.depL xs + 1:=by rw [Dt.dep]
@[simp] theorem v_dnil:Dt.depL [] = 0:=by rw [Dt.depL]
@[simp] theorem zFO (x:Dt) (r:List Dt):Dt.depL (x :: r) = max x.dep (Dt.depL r):=by rw [Dt.depL]
@[simp] theorem v_e1 (i j:Int):Dt.eq (.int i) (.int j) = decide (i = j):=by rw [Dt.eq]; by_cases h:i = j <;> simp [h]
@[simp] theorem v_e2 (i j:Str):Dt.eq (.str i) (.str j) = decide (i = j):=by rw [Dt.eq]; by_cases h:i = j <;> simp [h]
@[simp] theorem v_e3 (i j:Bool):Dt.eq (.bl i) (.bl j) = decide (i = j):=by rw [Dt.eq]; by_cases h:i = j <;> simp [h]
@[simp] theorem v_e4 (i j:List Dt):Dt.eq (.lst i) (.lst j) = Dt.eqL i j:=by rw [Dt.eq]
@[simp] theorem v_e5 (i j:List Dt):Dt.eq (.tup i) (.tup j) = Dt.eqL i j:=by rw [Dt.eq]
@[simp] theorem v_e6:Dt.eq .non .non = true:=by rw [Dt.eq]
@[simp] theorem zGL:∀ (ns:List Int),Dt.depL (ns.map Dt.int) = 0
  | []=>by simp
  | n :: r=>by rw [qAp,zFO,zGL r]; rfl
@[simp] theorem zR4:∀ (xs ys:List Dt),Dt.depL (xs ++ ys) = max (Dt.depL xs) (Dt.depL ys)
  | [],ys=>by simp
  | x :: r,ys=>by rw [qD4,zFO,zFO,zR4 r ys]; exact (Nat.max_assoc _ _ _).symm
@[simp] theorem zFI:∀ (ns ms:List Int),Dt.eqL (ns.map Dt.int) (ms.map Dt.int) = decide (ns = ms)
  | [],[]=>by simp [Dt.eqL]
  | [],_ :: _=>by simp [Dt.eqL]
  | _ :: _,[]=>by simp [Dt.eqL]
  | n :: r,m :: q=>by rw [qAp,qAp,Dt.eqL,zFI r q,v_e1]; simp
theorem zJW {α:Type} {xs:List α} {i:Int} {j:Nat} {v:α} (e:i = (j:Int)) (h:xs[j]? = some v):itA xs i = some v:=by
  have hj:j < xs.length:=(qA2.mp h).1
  subst e
  unfold itA ixA
  rw [if_pos (by omega),if_pos (by omega)]
  simpa using h
theorem zOM {n:Nat} {i:Int} (h0:0 ≤ i) (h1:i < n):ixA n i = some i.toNat:=by
  unfold ixA; rw [if_pos h0,if_pos h1]
theorem zUC {ns:List Int} {i:Int} (h0:0 ≤ i) (h1:i < ns.length):itA ns i = some (ns.getD i.toNat 0):=by
  refine zJW (j:=i.toNat) (by omega) ?_
  rw [qA3,qAa (by omega)]
  rfl
@[simp] theorem set_int (ns:List Int) (i:Nat) (x:Int):(ns.map Dt.int).set i (.int x) = (ns.set i x).map Dt.int:=by rw [qEv]
theorem zD7 {ρ:Rh} {k:Nat} {tg:Tg} {c:TM} {e:EM} (f:Dt → Dt):∀ (ds acc:List Dt),(∀ d ∈ ds,∃ bs,zAZ tg d = some bs ∧ c (zAR (ρ ++ qA6 k none) bs) = okR true ∧ e (zAR (ρ ++ qA6 k none) bs) = okR (f d)) → compGo ρ k tg c e ds acc = okR (acc ++ ds.map f)
  | [],acc,_=>by simp [compGo]
  | d :: ds,acc,h=>by
    obtain ⟨bs,h1,h2,h3⟩:=h d (by simp)
    rw [compGo,h1]
    simp only
    rw [h2,bindR_ok,if_pos rfl,h3,bindR_ok,zD7 f ds (acc ++ [f d]) fun d hd=>h d (by simp [hd])]
    simp
theorem zD8 {ρ:Rh} {k:Nat} {tg:Tg} {c:TM} {e:EM} (p:Dt → Bool) (f:Dt → Dt):∀ (ds acc:List Dt),(∀ d ∈ ds,∃ bs,zAZ tg d = some bs ∧ c (zAR (ρ ++ qA6 k none) bs) = okR (p d) ∧ (p d = true → e (zAR (ρ ++ qA6 k none) bs) = okR (f d))) → compGo ρ k tg c e ds acc = okR (acc ++ (ds.filter p).map f)
  | [],acc,_=>by simp [compGo]
  | d :: ds,acc,h=>by
    obtain ⟨bs,h1,h2,h3⟩:=h d (by simp)
    rw [compGo,h1]
    simp only
    rw [h2,bindR_ok]
    cases hp:p d with
    | true =>
      rw [if_pos rfl,h3 hp,bindR_ok,zD8 p f ds (acc ++ [f d]) fun d hd=>h d (by simp [hd])]
      simp [hp]
    | false =>
      rw [if_neg (by decide),zD8 p f ds acc fun d hd=>h d (by simp [hd])]
      simp [hp]
theorem zOW {tg:Tg} {b:SM} (Pv:Nat → Ro → Prop):∀ (ds:List Dt) (i:Nat) (r:Ro),Pv i r → (∀ (j:Nat) (d:Dt) (r:Ro),ds[j]? = some d → Pv (i + j) r → ∃ bs r',zAZ tg d = some bs ∧ b (zB4 r bs) = okR (.nx r') ∧ Pv (i + j + 1) r') →
    ∃ r',forGo tg b ds r = okR (.nx r') ∧ Pv (i + ds.length) r'
  | [],i,r,h,_=>⟨r,by simp [forGo],by simpa using h⟩
  | d :: ds,i,r,h,hs=>by
    obtain ⟨bs,r1,h1,h2,h3⟩:=hs 0 d r (by simp) (by simpa using h)
    obtain ⟨r2,h4,h5⟩:=zOW Pv ds (i + 1) r1 (by simpa using h3) fun j e r he hp=>by
      have:=hs (j + 1) e r (by simpa using he) (by rw [show i + (j + 1) = i + 1 + j by omega]; exact hp)
      rw [show i + 1 + j + 1 = i + (j + 1) + 1 by omega]
      exact this
    refine ⟨r2,?_,by rw [qAi,show i + (ds.length + 1) = i + 1 + ds.length by omega]; exact h5⟩
    rw [forGo,h1]
    simp only
    rw [h2,bindR_ok]
    exact h4
theorem zJ1 {c:TM} {b:SM} (Pv:Ro → Prop) (μ:Ro → Nat) (Rv:Ro → Prop) (hc:∀ r,Pv r → (c (full r) = okR false ∧ Rv r) ∨ (c (full r) = okR true ∧ ∃ r',b r = okR (.nx r') ∧ Pv r' ∧ μ r' < μ r)) :
    ∀ (m:Nat) (r:Ro),Pv r → μ r < m → ∃ r',whGo c b m r = okR (.nx r') ∧ Rv r'
  | 0,r,_,h=>by omega
  | m + 1,r,h,hm=>by
    rw [whGo]
    rcases hc r h with ⟨h1,h2⟩ | ⟨h1,r1,h2,h3,h4⟩
    · rw [h1,bindR_ok,if_neg (by decide)]; exact ⟨r,rfl,h2⟩
    · rw [h1,bindR_ok,if_pos rfl,h2,bindR_ok]
      exact zJ1 Pv μ Rv hc m r1 h3 (by omega)
theorem zH9 {c:TM} {b:SM} (Pv:Ro → Prop) (μ:Ro → Nat) (Rv:Ro → Prop) {r:Ro} (h0:Pv r) (hm:μ r < 1000000) (hc:∀ r,Pv r → (c (full r) = okR false ∧ Rv r) ∨ (c (full r) = okR true ∧ ∃ r',b r = okR (.nx r') ∧ Pv r' ∧ μ r' < μ r)):∃ r',sWhile c b r = okR (.nx r') ∧ Rv r' :=
  zJ1 Pv μ Rv hc WN r h0 (by rw [zYF]; exact hm)
end Mi
namespace Mi
open PySem
section
variable (ρ:Rh) (r:Ro) (a:EM) (am:AM) (s:SM)
@[simp] theorem x_noE_ok {α:Type} (x:α):noE (okR x) = okR x:=rfl
@[simp] theorem x_noE_none {α:Type}:noE (none:R α) = none:=rfl
@[simp] theorem x_noE_err {α:Type} (e:Xn):noE (some (.error e):R α) = none:=rfl
@[simp] theorem x_eCallN (f:FM):eCallN f am ρ = zA2 (am ρ) fun ds=>noE (f ds):=rfl
@[simp] theorem x_eMkX (c f:Str):eMkX c f am ρ = zA2 (am ρ) fun ds=>match ds with | [d]=>okR (.exc c f d) | _=>none:=rfl
@[simp] theorem x_sRaise (c f:Str):sRaise c f am r = zA2 (am (full r)) fun ds=>match ds with | [d]=>some (.error ⟨c,f,d⟩) | _=>none:=rfl
@[simp] theorem x_eAtX (hs:List Str) (f:Str):eAtX hs f a ρ = zA2 (a ρ) fun d=>match d with | .exc c g x=>if c ∈ hs ∧ g = f then okR x else none | _=>none:=rfl
@[simp] theorem x_eIsX (ys ns:List Str):eIsX ys ns a ρ = zA2 (a ρ) fun d=>match d with | .exc c _ _=>if c ∈ ys then okR (.bl true) else if c ∈ ns then okR (.bl false) else none | _=>none:=rfl
@[simp] theorem x_gone_nx (i:Nat):goneO i (.nx r) = .nx (r.set i none):=rfl
@[simp] theorem x_gone_rt (i:Nat) (d:Dt):goneO i (.rt d) = .rt d:=rfl
theorem zTC {vs:List Nat} {j:Option Nat} {hs:List Str} {i:Nat} {x:Xn} (h:a (frz (frzAt vs r)) = some (.error x)) (hm:x.cls ∈ hs):sTry vs j a hs i s r = zA2 (s ((frzAt vs r).set i (some (.exc x.cls x.f x.d,0)))) fun o=>okR (goneO i o):=by
  unfold sTry
  rw [h]
  exact if_pos hm
end
example (d:Dt):True:=trivial
end Mi
namespace L2
open PySem PySem.Spec PyProof.Rows
section
variable {X:Cx}
end
section
variable {X:Cx} {K:qA1}
end
end L2
namespace Mi
open PySem
noncomputable section
noncomputable def xorD:Dt → Dt → Option Dt
  | .int i,.int j=>some (.int (Builtin.bitXor i j))
  | _,_=>none
noncomputable def repD:Dt → Dt → Option Dt
  | .lst xs,.int k=>@ite _ ((-4611686018427387904 ≤ k ∧ k < 4611686018427387904) ∧ xs.length * k.toNat ≤ 100000) (qA0 _) (some (.lst (qA6 k.toNat xs).flatten)) none
  | _,_=>none
def tL (a:EM):TM:=fun ρ=>zA2 (a ρ) fun x=>match x with
  | .bl k=>okR k
  | .int i=>okR (i != 0)
  | .non=>okR false
  | .lst xs=>okR (!xs.isEmpty)
  | .tup xs=>okR (!xs.isEmpty)
  | _=>none
def iRv (e:AM):IM:=fun ρ=>zA2 (e ρ) fun vs=>match vs with
  | [.lst xs]=>okR xs.reverse
  | _=>none
noncomputable def intsD:List Dt → Option (List Int)
  | []=>some []
  | .int i :: r=>(intsD r).map (i :: ·)
  | _ :: _=>none
def eMl (f:List Dt → List Dt → Option Dt) (a:EM) (am:AM):EM:=fun ρ=>zA2 (a ρ) fun x=>match x with
  | .lst xs=>zA2 (am ρ) fun ds=>optR (f xs ds)
  | _=>none
def sExt (i n:Nat) (e:EM):SM:=fun ρ=>match ρ[i]? with
  | some (some (.lst ds,k + 1))=>zA2 (e (full ρ)) fun d=>match d with
    | .lst es=>@ite _ (ds.length + es.length ≤ 100000 ∧ Dt.depL es ≤ n ∧ Dt.depL es ≤ k) (qA0 _) (okR (.nx (ρ.set i (some (.lst (ds ++ es),k + 1))))) none
    | _=>none
  | _=>none
noncomputable def low (i:Nat) (ρ:Ro):Ro:=match ρ[i]? with
  | some (some (.lst ds,_ + 1))=>ρ.set i (some (.lst ds,1))
  | _=>ρ
def zVL (i:Nat) (vs:List Nat) (e:EM):SM:=fun ρ=>match (frzAt vs (low i ρ))[i]? with
  | some (some (.lst ds,1))=>zA2 (e (frz (frzAt vs (low i ρ)))) fun d=>@ite _ (ds.length ≤ 100000) (qA0 _) (okR (.nx ((frzAt vs (low i ρ)).set i (some (.lst (ds ++ [d]),1))))) none
  | _=>none
end
end Mi
namespace L3
open PySem PySem.Spec
open L2 hiding Rep RepL
open Mi (Dt Xn R okR zA2 optR bindR_ok zAA zAD zAB zAC Rh Sl Ro EM TM AM FM IM SM Tg Out zAZ zAR zB4 full frz frz1 frzAt)
section
variable [Kc] {mg:Str → Option Value} {E:XK} {L n k l:Nat} {te ta tb:TE} {e ea eb ma:EM} {t:TA} {m:AM}
theorem zJY {G:Hp}:∀ {ds:List Dt} {ns:List Int} {xs:List V},Mi.intsD ds = some ns → RepL G ds xs → xs = ns.map V.int
  | [],ns,xs,h,r=>by cases h; exact r
  | d :: q,ns,xs,h,r=>by
    cases d with
    | int i =>
      rw [Mi.intsD] at h
      cases e:Mi.intsD q with
      | none=>rw [e] at h; cases h
      | some ms =>
        rw [e] at h
        cases h
        obtain ⟨x,t,rfl,a,b⟩:=r
        cases (show x = .int i from a)
        rw [zJY e b]
        rfl
    | _=>cases h
end
end L3
namespace L3
open PySem PySem.Spec
open L2 hiding Rep RepL
open Mi (Dt Xn R okR zA2 optR bindR_ok zAA zAD zAB zAC Rh Sl Ro EM TM AM FM IM SM Tg Out zAZ zAR zB4 full frz frz1 frzAt)
section
variable [Kc] {G0 H0 S0:Hp} {σ:St} {ρ:Ro} {G H:Hp} {As:Nat → Addr → Prop}
theorem Sat.low (a:Sat G0 H0 S0 σ ρ G H As) (i:Nat):∃ G1 As1,Sat G0 H0 S0 σ (Mi.low i ρ) G1 H As1:=by
  unfold Mi.low
  split
  · rename_i ds k e1
    obtain ⟨v,h1,q,xs,T,rfl,hq,kd⟩:=a.at i _ _ e1
    obtain ⟨s1,s2⟩:=zDL (S:=fun b=>∃ r,T r b) a.ext.in'
    have ui:∀ b,(∃ r,T r b) → As i b:=fun b ⟨r,z⟩=>kd.sub r b z
    have x:Ext G0 H0 (over G H fun b=>∃ r,T r b) H:=⟨a.ext.g.trans s1,a.ext.h,s2,fun b hb=>by
      have z:¬ ∃ r,T r b:=fun z=>hb (a.new i b (ui b z)).1
      rw [zC8 z]; exact a.ext.old b hb⟩
    refine ⟨over G H fun b=>∃ r,T r b,fun j b=>As j b ∧ ¬ ∃ r,T r b,x,a.stb.trans s1,by simp [a.len],fun j e n h=>?_,fun j l b p q=>a.dis j l b p.1 q.1,fun j b p=>?_⟩
    · have hj:j < ρ.length:=by
        have:=(qA2.mp h).1
        simpa using this
      by_cases z:i = j
      · subst z
        rw [qAj hj] at h
        cases h
        exact ⟨.ref q,h1,q,xs,fun _ _=>False,rfl,hq,⟨kd.len,fun r d x g1 g2=>(kd.own r d x g1 g2).rep s1 fun b o hb e=>by rw [zEB ⟨r,hb⟩]; exact e,⟨kd.top,fun ⟨r,z⟩=>kd.out r z⟩,fun _ z=>z,fun _ _ _ z=>z.elim,fun _ _ z=>z.elim⟩⟩
      · rw [qAk z] at h
        obtain ⟨u,q1,q2⟩:=a.at j e n h
        exact ⟨u,q1,(q2.mono s1 (Same.refl _)).sub fun b hb=>⟨hb,fun w=>z (a.dis i j b (ui b w) hb)⟩⟩
    · obtain ⟨n1,n2,n3⟩:=a.new j b p.1
      exact ⟨n1,by rw [zC8 p.2]; exact n2,n3⟩
  · exact ⟨G,As,a⟩
end
section
variable [Kc] {mg:Str → Option Value} {E:XK} {L n k l:Nat} {te ta tb:TE} {e ea eb ma:EM} {t:TA} {m:AM}
end
end L3
namespace L3
open PySem PySem.Spec
open L2 hiding Rep RepL
open Mi (Dt Xn R okR zA2 optR bindR_ok zAA zAD zAB zAC Rh Sl Ro EM TM AM FM IM SM Tg Out zAZ zAR zB4 full frz frz1 frzAt)
structure XNo (K:qA1) (mg:Str → Option Value) (c:Str) (C:Addr):Prop extends XCls K mg c C where
  kp:qAv K (.ref C) = true
  ini:qA8 K (.ref C) "__init__" = some (some (.builtin "ValueError.__init__"))
section
variable [Kc] {mg:Str → Option Value} {E:XK} {L n k l:Nat} {te ta tb:TE} {e ea eb ma:EM} {t:TA} {m:AM}
end
end L3
namespace L2
open PySem PySem.Spec PyProof.Rows
section
variable {X:Cx}
noncomputable def zVH (z:Str):List V:=z.cps.toList.map fun c=>.str ⟨#[c]⟩
def rListX (K:qA1):List V → Hp → VK → Prop:=fun vs H Q=>match vs with
  | [.str z]=>z.length ≤ sizeLine ∧ ∀ l,H l = none → Q (.ref l) (upd H l (.lst (zVH z)))
  | _=>zHA K vs H Q
def rStrU:List V → Hp → VK → Prop:=fun vs H Q=>match vs with
  | [.int i]=>i.natAbs.log2 < 1920 ∧ Q (.str (toString i)) H
  | _=>False
def zVZ:List V → Hp → VK → Prop:=fun vs H Q=>match vs with
  | [.int i,.int j]=>Q (.int (if j > i then j else i)) H
  | [.ref a]=>∃ ns:List Int,H a = some (.lst (ns.map V.int)) ∧ 0 < ns.length ∧ ∀ M,M ∈ ns → (∀ a,a ∈ ns → a ≤ M) → Q (.int M) H
  | _=>False
theorem zWT (hc:X.calm = true):zCK X (.builtin "max") zVZ:=by
  intro pins s σ H vs us Q I r h
  match vs,r,h with
  | [.int i,.int j],r,h=>exact zPG hc pins s σ H _ us Q I r ⟨i,j,rfl,h⟩
  | [.ref a],r,h =>
    obtain ⟨ns,ha,hz,q⟩:=h
    obtain ⟨u,rfl,rx⟩:=zEF r
    cases rx
    obtain ⟨its,rv,hl⟩:=zAW I.hok ha
    have hi:IntsAre its ns:=zJX rv
    obtain ⟨xs,e⟩:=hi.allInts.items
    have en2:numsOf (intItems xs).toList = ns:=by rw [← e]; exact hi.numsOf
    rw [nums_intItems] at en2
    have hl':s.heap.IsList a (intItems xs):=by rw [← e]; exact hl
    have hxl:xs.size = ns.length:=by rw [← en2]; simp
    refine max_intList (I.ok.hd hc) hl' (by omega) fun v h' tk hv hk=>?_
    obtain ⟨t,rfl⟩:=intItems_at hv
    obtain ⟨h1,h2⟩:=argBest_gt (numAt xs) (xs.size - 1)
    refine ⟨.int _,H,I.kept (t':=tk) hk,⟨_,rfl⟩,q _ ?_ fun b hb=>?_⟩
    · rw [numAt_eq,en2]; exact getD_mem (by omega)
    · rw [← en2] at hb
      obtain ⟨j,hj,rfl⟩:=mem_getD hb
      rw [qAm,qBn] at hj
      rw [← numAt_eq]; exact h2 j (by omega)
end
section
variable {X:Cx} {K:qA1}
end
end L2
namespace Mi
open PySem
noncomputable section
def listXD (ds:List Dt):Option Dt:=match ds with
  | [.str z]=>@ite _ (z.length ≤ 100000) (qA0 _) (some (.lst (signsD z))) none
  | ds=>listD ds
noncomputable def strD:List Dt → Option Dt
  | [.int i]=>@ite _ (i.natAbs.log2 < 1920) (qA0 _) (some (.str (toString i:String))) none
  | _=>none
noncomputable def topI:List Int → Int
  | []=>0
  | [x]=>x
  | x :: y :: r=>max x (topI (y :: r))
def maxL:List Dt → Option Dt
  | [.int i,.int j]=>some (.int (if j > i then j else i))
  | [.lst ds]=>match intsD ds with
    | some (n :: ns)=>some (.int (topI (n :: ns)))
    | _=>none
  | _=>none
noncomputable def sortI (ns:List Int):List Int:=ns.mergeSort fun a b=>decide (a ≤ b)
end
end Mi
namespace L3
open PySem PySem.Spec
open L2 hiding Rep RepL
open Mi (Dt Xn R okR zA2 optR bindR_ok zAA zAD zAB zAC Rh Sl Ro EM TM AM FM IM SM Tg Out zAZ zAR zB4 full frz frz1 frzAt)
section
variable [Kc] {mg:Str → Option Value} {E:XK} {L n k l:Nat} {te ta tb:TE} {e ea eb ma:EM} {t:TA} {m:AM}
theorem zJ3:∀ (ns:List Int) (M:Int),M ∈ ns → (∀ a,a ∈ ns → a ≤ M) → Mi.topI ns = M
  | [],M,h,_=>by cases h
  | [x],M,h,_=>by simp at h; rw [h]; rfl
  | x :: y :: r,M,h,hb=>by
    have hx:=hb x (by simp)
    show max x (Mi.topI (y :: r)) = M
    rcases qA9.mp h with rfl | h
    · have key:∀ (l:List Int),l ≠ [] → (∀ a,a ∈ l → a ≤ M) → Mi.topI l ≤ M:=by
        intro l
        induction l with
        | nil=>intro h; exact absurd rfl h
        | cons a q ih =>
          intro _ hb
          cases q with
          | nil=>exact hb a (by simp)
          | cons b q =>
            have h1:=ih (by simp) fun c hc=>hb c (by simp [hc])
            have h2:=hb a (by simp)
            show max a (Mi.topI (b :: q)) ≤ M
            omega
      have:=key (y :: r) (by simp) fun a ha=>hb a (by simp [ha])
      omega
    · rw [zJ3 (y :: r) M h fun a ha=>hb a (by simp [ha])]
      omega
theorem zUS:CBi zVZ Mi.maxL n:=by
  intro mg E G H ds vs Q s h p
  cases ds with
  | nil=>exact p.elim
  | cons a0 r0 =>
    cases a0 with
    | int i =>
      cases r0 with
      | nil=>exact p.elim
      | cons b0 r1 =>
        cases b0 with
        | int j =>
          cases r1 with
          | nil =>
            obtain ⟨x,y,rfl,hx,hy⟩:=zVS h
            cases (show x = .int i from hx)
            cases (show y = .int j from hy)
            exact PostE.val p (Ext.refl s) rfl rfl
          | cons _ _=>exact p.elim
        | _=>cases r1 <;> exact p.elim
    | lst es =>
      cases r0 with
      | nil =>
        obtain ⟨x,rfl,a,xs,rfl,ha,ra⟩:=zDG h
        rw [Mi.maxL] at p
        cases ei:Mi.intsD es with
        | none=>rw [ei] at p; exact p.elim
        | some ns =>
          rw [ei] at p
          cases ns with
          | nil=>exact p.elim
          | cons q ns =>
            refine ⟨q :: ns,by rw [s _ _ ha,zJY ei ra],by simp,fun M h1 h2=>?_⟩
            rw [← zJ3 _ M h1 h2]
            exact PostE.val p (Ext.refl s) rfl rfl
      | cons _ r1=>cases r1 <;> exact p.elim
    | _=>rcases r0 with _ | ⟨_,_ | _⟩ <;> exact p.elim
theorem zMJ (ns:List Int):(Mi.sortI ns).Perm ns:=qDc ns _
theorem zNO (ns:List Int):(Mi.sortI ns).Pairwise (· ≤ ·):=by
  have:=qDs (le:=fun a b:Int=>decide (a ≤ b)) (fun a b c h1 h2=>by simp at h1 h2 ⊢; omega) (fun a b=>by simp; omega) ns
  exact this.imp fun h=>by simpa using h
end
end L3
namespace L3
open PySem PySem.Spec
open L2 hiding Rep RepL
open Mi (Dt Xn R okR zA2 optR bindR_ok zAA zAD zAB zAC Rh Sl Ro EM TM AM FM IM SM Tg Out zAZ zAR zB4 full frz frz1 frzAt)
section
variable [Kc] {G0 H0 S0:Hp} {σ:St} {ρ:Ro} {G H:Hp} {As:Nat → Addr → Prop}
end
section
variable [Kc] {mg:Str → Option Value} {E:XK} {L n k l:Nat} {te ta tb:TE} {e ea eb ma:EM} {t:TA} {m:AM}
end
end L3
namespace L2
open PySem PySem.Spec PyProof.Rows
section
variable {X:Cx}
end
end L2
namespace Mi
open PySem
noncomputable section
end
end Mi
namespace L3
open PySem PySem.Spec
open L2 hiding Rep RepL
open Mi (Dt Xn R okR zA2 optR bindR_ok zAA zAD zAB zAC Rh Sl Ro EM TM AM FM IM SM Tg Out zAZ zAR zB4 full frz frz1 frzAt)
section
variable [Kc] {mg:Str → Option Value} {E:XK} {L n k l:Nat} {te ta tb:TE} {e ea eb ma:EM} {t:TA} {m:AM}
end
end L3
namespace L2
open PySem PySem.Spec PyProof.Rows
structure RoomH (k:Nat) (A:Around):Prop where
  dp:A.depth + 3 * k + 5 < recursionLimit
  un:A.units + 16 * k + 200 < cLine
structure FnOkH (P:Program) (w:World) (K:qA1) (mg:Str → Option Value) (base:Heap) (k:Nat) (f:Addr) (fd:FuncData) (ps:List Str) (sp:Sp):Prop where
  len:∀ vs H Q E,sp vs H Q E → vs.length = ps.length
  run:∀ (A:Around) (outer:List Env) (s:Shared) (H:Hp) (args:Args) (us:List Value) (vs:List V) (Q:VK) (E:XK),RoomH k A → Env0 P w K mg base A outer s H → BindsTo s fd args (ps.zip us) → Vals vs us → sp vs H Q E →
    codeAny (model P w) A (.call (.ref f) args) (CR CX0 outer P w H s Q E) s
section
variable {X:Cx} {x:Str} {j k:Nat} {ps:List Str} {sp:Sp} {e:Expr} {es:List Expr} {t:TA} {p pos:Pos}
end
end L2
namespace L2
open PySem PySem.Spec PyProof.Rows
end L2
namespace Mi
end Mi
namespace L3
open PySem PySem.Spec
open L2 hiding Rep RepL
open Mi (Dt Xn R okR zA2 optR bindR_ok zAA zAD zAB zAC Rh Sl Ro EM TM AM FM IM SM Tg Out zAZ zAR zB4 full frz frz1 frzAt)
section
variable [Kc] {mg:Str → Option Value} {E:XK} {L n n1:Nat} {t1 t2:TE} {e1 e2:EM}
end
end L3
namespace Mi
end Mi
namespace L3
open PySem PySem.Spec
open L2 hiding Rep RepL
open Mi (Dt Xn R okR zA2 optR bindR_ok zAA zAD zAB zAC Rh Sl Ro EM TM AM FM IM SM Tg Out zAZ zAR zB4 full frz frz1 frzAt)
section
variable [Kc] {mg:Str → Option Value} {E:XK} {L n:Nat} {te:TE} {e:EM}
end
end L3
namespace L2
open PySem PySem.Spec PyProof.Rows
section
variable {X:Cx} {e m1:Expr} {te ts:TE} {pos p2:Pos}
end
end L2
namespace Mi
open PySem
noncomputable section
end
end Mi
namespace L3
open PySem PySem.Spec
open PyProof.Rows (risingS sortedS ltCps_eq)
open L2 hiding Rep RepL
open Mi (Dt Xn R okR zA2 optR bindR_ok zAA zAD zAB zAC Rh Sl Ro EM TM AM FM IM SM OM Tg Out zAZ zAR zB4 full frz frz1 frzAt)
section
variable [Kc] {mg:Str → Option Value} {E:XK} {L n k l:Nat} {te ta tb:TE} {e ea eb ma:EM} {t:TA} {m:AM}
end
end L3
namespace L2
open PySem PySem.Spec PyProof.Rows
section
variable {X:Cx} {x:Str} {C:Addr} {p pos:Pos}
end
def zXR (K:qA1) (fl:List Str):Sp:=fun vs H Q _=>∃ (x C dx:Addr) (ys:List V),vs = .ref x :: ys ∧ ys.length = fl.length ∧ H x = some (.ins C dx []) ∧ Cls K C ∧ (∀ f ∈ fl,zSU K C f) ∧ Q .non (upd H x (.ins C dx (fl.zip ys)))
section
variable {X:Cx} {m:Str} {k:Nat} {E:XK} {o e:Expr} {es:List Expr} {ta:TE} {t:TA} {apos pos:Pos} {tb:List (Addr × Sp)}
end
structure OIs (K:qA1) (C:Addr):Prop where
  cl:Cls K C
  ha:qA8 K (.ref C) "__class__" = some (some (.builtin "object.__class__"))
  hn:qBs K (.builtin "object.__class__") "__get__" = some (some (.builtin "getset_descriptor.__get__"))
  htk:qE6 K (.builtin "object.__class__") = some true
  hm:qBz K C (.type "object") = some true
end L2
namespace Mi
open PySem
noncomputable section
end
end Mi
namespace L3
open PySem PySem.Spec
open L2 hiding Rep RepL
open Mi (Dt Xn R okR zA2 optR bindR_ok zAA zAD zAB zAC Rh Sl Ro EM TM AM FM IM SM OM Tg Out zAZ zAR zB4 full frz frz1 frzAt)
structure OCls (K:qA1) (mg:Str → Option Value) (c:Str) (C:Addr):Prop where
  cl:clK K c = some C
  gm:mg c = some (.ref C)
  is:OIs K C
structure ONew (K:qA1) (mg:Str → Option Value) (c:Str) (C:Addr):Prop extends OCls K mg c C where
  mks:qF7 K C = true
  ini:qA8 K (.ref C) "__init__" = some (some (.builtin "object.__init__"))
  kp:qAv K (.ref C) = true
structure OIni (P:Program) (w:World) (K:qA1) (mg:Str → Option Value) (base:Heap) (c:Str) (fl:List Str) (C:Addr):Prop extends OCls K mg c C where
  na:∀ f ∈ fl,zSU K C f
  ini:∃ fI fd ps,Mk K C fI ∧ FnOk P w K mg base (CXe P w) 1 fI fd ps (zXR K fl) ∧ Binds K fd ps []
section
variable {X:Cx} {c:Str} {fl:List Str} {C:Addr} {k:Nat} {E:XK} {e:Expr} {es:List Expr} {t:TA} {p pos:Pos}
end
section
variable [Kc] {mg:Str → Option Value} {E:XK} {L n k l:Nat} {te ta tb:TE} {e ea eb ma:EM} {t:TA} {m:AM}
end
end L3
namespace Mi
open PySem
noncomputable section
end
end Mi
namespace L2
open PySem PySem.Spec PyProof.Rows
section
variable {X:Cx} {m:Str} {k:Nat} {o e:Expr} {es:List Expr} {ta:TE} {t:TA} {apos pos:Pos} {tb:List (Addr × Sp)}
end
section
variable {prog:Program} {w:World} {A:Around} {E:Value → Shared → Prop} {s:Shared}
end
section
variable {X:Cx} {pos:Pos}
end
end L2
namespace L3
open PySem PySem.Spec
open L2 hiding Rep RepL
open Mi (Dt Xn R okR zA2 optR bindR_ok zAA zAD zAB zAC Rh Sl Ro EM TM AM FM IM SM OM Tg Out zAZ zAR zB4 full frz frz1 frzAt)
section
variable [Kc] {mg:Str → Option Value} {E:XK} {L n k l:Nat} {te ta tb:TE} {e ea eb ma:EM} {t:TA} {m:AM}
end
end L3
namespace L2
open PySem PySem.Spec PyProof.Rows
section
variable {prog:Program} {w:World} {A:Around} {E:Value → Shared → Prop} {s:Shared}
end
end L2
namespace L2
open PySem PySem.Spec PyProof.Rows
section
variable {prog:Program} {w:World} {A:Around} {R:Result → Shared → Prop} {I:Addr} {fp wr:List Addr} {G:Array GenState → Array GenState → Prop} {n:Nat} {St:Nat → Shared → Prop} {led:Bool} {z:Str}
end
end L2
namespace PySem
open PyProof.Rows
end PySem
namespace L2
open PySem PySem.Spec PyProof.Rows
section
variable {prog:Program} {w:World} {A:Around} {E:Value → Shared → Prop} {s:Shared}
end
end L2
namespace Mi
open PySem
noncomputable section
end
end Mi
namespace L2
open PySem PySem.Spec PyProof.Rows
section
variable {X:Cx} {pins:List (Addr × Obj)} {σ:List (Option V)} {H:Hp} {s:Shared}
end
end L2
namespace L3
open PySem PySem.Spec
open PyProof.Rows (risingS sortedS ltCps_eq)
open L2 hiding Rep RepL
open Mi (Dt Xn R okR zA2 optR bindR_ok zAA zAD zAB zAC Rh Sl Ro EM TM AM FM IM SM OM Tg Out zAZ zAR zB4 full frz frz1 frzAt)
section
variable [Kc] {mg:Str → Option Value} {E:XK} {L n k l:Nat} {te ta tb:TE} {e ea eb ma:EM} {t:TA} {m:AM}
end
end L3
namespace Mi
open PySem
noncomputable section
end
end Mi
namespace PySem
open Builtin Builtin.Str PySem.Spec
end PySem
namespace L2
open PySem PySem.Spec PyProof.Rows
section
variable {X:Cx} {pins:List (Addr × Obj)} {σ:List (Option V)} {H:Hp} {s:Shared}
end
end L2
namespace L3
open PySem PySem.Spec
open PyProof.Rows (risingS sortedS ltCps_eq)
open L2 hiding Rep RepL
open Mi (Dt Xn R okR zA2 optR bindR_ok zAA zAD zAB zAC Rh Sl Ro EM TM AM FM IM SM OM Tg Out zAZ zAR zB4 full frz frz1 frzAt)
section
variable [Kc] {mg:Str → Option Value} {E:XK} {L n k l:Nat} {te ta tb:TE} {e ea eb ma:EM} {t:TA} {m:AM}
end
end L3
namespace Mi
open PySem
noncomputable section
end
end Mi
namespace L2
open PySem PySem.Spec PyProof.Rows
section
variable {prog:Program} {w:World} {A:Around} {E:Value → Shared → Prop} {s:Shared}
end
section
variable {X:Cx} {pins:List (Addr × Obj)} {σ:List (Option V)} {H:Hp} {s:Shared}
end
end L2
namespace L3
open PySem PySem.Spec
open L2 hiding Rep RepL
open Mi (Dt Xn R okR zA2 optR bindR_ok zAA zAD zAB zAC Rh Sl Ro EM TM AM FM IM SM OM Tg Out zAZ zAR zB4 full frz frz1 frzAt)
section
variable [Kc] {mg:Str → Option Value} {E:XK} {L n k l:Nat} {te ta tb:TE} {e ea eb ma:EM} {t:TA} {m:AM}
end
end L3
namespace L2
open PySem PySem.Spec
structure Dr (p:Prop):Prop where
  h:p
section
variable {X:Cx}
end
end L2
namespace Mi
open PySem
noncomputable section
end
end Mi
namespace L2
open PySem PySem.Spec PyProof.Rows
structure Walk1 (prog:Program) (w:World) (A:Around) (I:Addr) (fp:List Addr) (n:Nat) (P:Nat → Value → Prop) (St:Nat → Heap → Prop):Prop where
  me:I ∈ fp
  frame:∀ i h h',St i h → (∀ b ∈ fp,∀ o,h.get? b = some o → h'.get? b = some o) → St i h'
  item:∀ i (s:Shared) (Q:Option Value → Shared → Prop) (E:Value → Shared → Prop),i < n → St i s.heap →
    (∀ v h' tk,P i v → St (i + 1) h' → (∀ b o,b ≠ I → s.heap.get? b = some o → h'.get? b = some o) → Q (some v) { s with heap:=h',toks:=tk }) → wpAny (model prog w) A (pyNext (.ref I)) Q E s
  done:∀ (s:Shared) (Q:Option Value → Shared → Prop) (E:Value → Shared → Prop),St n s.heap →
    (∀ h' tk,(∀ b o,b ≠ I → s.heap.get? b = some o → h'.get? b = some o) → (∃ u,h'.get? I = some u) → Q none { s with heap:=h',toks:=tk }) → wpAny (model prog w) A (pyNext (.ref I)) Q E s
  self:∀ i (s:Shared) (Q:Value → Shared → Prop) (E:Value → Shared → Prop),St i s.heap → Q (.ref I) s → wpAny (model prog w) A (pyIter (.ref I)) Q E s
structure Once (prog:Program) (w:World) (T:String) (r:Addr) (fp:List Addr) (n:Nat) (P:Nat → Value → Prop) (St:Nat → Heap → Prop):Prop where
  ty:∀ (s:Shared) i,St i s.heap → s.TypeIs (.ref r) T
  nl:(Value.type T == Value.type "list") = false
  nt:(Value.type T == Value.type "tuple") = false
  me:r ∈ fp
  hint:∀ (A:Around) (E:Value → Shared → Prop) (s:Shared) (Q:Bool → Shared → Prop),A.handled = none → St 0 s.heap → (∀ b tk,Q b { s with toks:=tk }) → wpAny (model prog w) A (Builtin.List.listLengthHint (.ref r)) Q E s
  walk:∀ (A:Around),A.handled = none → Walk1 prog w A r fp n P St
section
variable {prog:Program} {w:World} {A:Around} {E:Value → Shared → Prop} {s:Shared} {T:String} {r:Addr} {fp:List Addr} {n:Nat} {P:Nat → Value → Prop} {St:Nat → Heap → Prop}
end
section
variable {prog:Program} {w:World} {A:Around} {E:Value → Shared → Prop} {s:Shared} {x:Str} {t:Tok}
end
end L2
namespace L2
open PySem PySem.Spec PyProof.Rows
section
variable {X:Cx} {pins:List (Addr × Obj)} {σ:List (Option V)} {H:Hp} {s:Shared}
end
end L2
namespace L3
open PySem PySem.Spec
open L2 hiding Rep RepL
open Mi (Dt Xn R okR zA2 optR bindR_ok zAA zAD zAB zAC Rh Sl Ro EM TM AM FM IM SM OM Tg Out zAZ zAR zB4 full frz frz1 frzAt)
section
variable [Kc] {mg:Str → Option Value} {E:XK} {L n k l:Nat} {te ta tb:TE} {e ea eb ma:EM} {t:TA} {m:AM}
end
end L3
namespace Mi
open PySem
noncomputable section
end
end Mi
namespace L3
open PySem PySem.Spec
open L2 hiding Rep RepL
open Mi (Dt Xn R okR zA2 optR bindR_ok zAA zAD zAB zAC Rh Sl Ro EM TM AM FM IM SM OM Tg Out zAZ zAR zB4 full frz frz1 frzAt)
section
variable [Kc] {mg:Str → Option Value} {E:XK} {L n k l:Nat}
end
end L3
namespace Mi
open PySem
noncomputable section
end
end Mi
namespace PySem
open Builtin Builtin.Str PySem.Spec
end PySem
namespace L2
open PySem PySem.Spec PyProof.Rows
section
variable {X:Cx} {pins:List (Addr × Obj)} {σ:List (Option V)} {H:Hp} {s:Shared}
end
end L2
namespace L3
open PySem PySem.Spec
open L2 hiding Rep RepL
open Mi (Dt Xn R okR zA2 optR bindR_ok zAA zAD zAB zAC Rh Sl Ro EM TM AM FM IM SM OM Tg Out zAZ zAR zB4 full frz frz1 frzAt)
section
variable [Kc] {mg:Str → Option Value} {E:XK} {L n k l:Nat}
end
end L3
namespace PySem
open Sem (wp)
section
variable {prog:Program} {w:World} {A:Around} {K:Type} [DecidableEq K] {knd:KeyKind prog w K}
end
end PySem
namespace Mi
open PySem
noncomputable section
noncomputable def kyD:Dt → Option (Sum Int Str)
  | .int i=>some (.inl i)
  | .str x=>some (.inr x)
  | _=>none
noncomputable def swD:Dt → Option Sw
  | .non=>some .non
  | .bl b=>some (.bl b)
  | .int i=>some (.int i)
  | .str x=>some (.str x)
  | _=>none
noncomputable def swT:Sw → Dt
  | .non=>.non
  | .bl b=>.bl b
  | .int i=>.int i
  | .str x=>.str x
noncomputable def getW (kvs:List (Sum Int Str × Sw)) (k:Sum Int Str):Option Sw:=(kvs.find? fun p=>decide (p.1 = k)).map (·.2)
noncomputable def putW (kvs:List (Sum Int Str × Sw)) (k:Sum Int Str) (v:Sw):List (Sum Int Str × Sw) :=
  if (kvs.any fun p=>decide (p.1 = k)) = true then kvs.map (fun p=>if p.1 = k then (p.1,v) else p) else kvs ++ [(k,v)]
def eDct0:EM:=fun _=>okR (.dct [])
def dinD (ng:Bool) (x y:Dt):Option Dt:=match y with
  | .dct kvs=>match kyD x with
    | some k=>some (.bl (if ng = true then !(getW kvs k).isSome else (getW kvs k).isSome))
    | none=>none
  | _=>none
def sDput (i:Nat) (e1 e2:EM):SM:=fun ρ=>zA2 (e2 (full ρ)) fun v=>match ρ[i]? with
  | some (some (.dct kvs,k + 1))=>zA2 (e1 (full ρ)) fun y=>match kyD y,swD v with
    | some q,some u=>@ite _ (kvs.length ≤ 100000) (qA0 _) (okR (.nx (ρ.set i (some (.dct (putW kvs q u),k + 1))))) none
    | _,_=>none
  | _=>none
def zS2:List Dt → Option (List (Sum Int Str × Sw))
  | []=>some []
  | .tup [a,b] :: r=>match kyD a,swD b,zS2 r with
    | some k,some v,some q=>some ((k,v) :: q)
    | _,_,_=>none
  | _ :: _=>none
def zXU (i:Nat) (e:EM):SM:=fun ρ=>match ρ[i]? with
  | some (some (.dct kvs,k + 1))=>zA2 (e (full ρ)) fun d=>match d with
    | .lst ds=>match zS2 ds with
      | some ps=>@ite _ (kvs.length + ps.length ≤ 50000) (qA0 _) (okR (.nx (ρ.set i (some (.dct (ps.foldl (fun m p=>putW m p.1 p.2) kvs),k + 1))))) none
      | none=>none
    | _=>none
  | _=>none
end
end Mi
namespace L2
open PySem PySem.Spec PyProof.Rows
section
variable {X:Cx}
variable {o e:Expr} {es:List Expr} {to:TE} {t:TA} {name:Str} {apos cpos:Pos} {T id:String} {r:V → List V → Hp → VK → Prop}
end
end L2
namespace L3
open PySem PySem.Spec
open L2 hiding Rep RepL
open Mi (Dt Xn R okR zA2 optR bindR_ok zAA zAD zAB zAC Rh Sl Ro EM TM AM FM IM SM OM Tg Out zAZ zAR zB4 full frz frz1 frzAt)
abbrev wk (kvs:List (Sum Int Str × Mi.Sw)):List (Key × V):=kvs.map fun p=>(p.1,swV p.2)
theorem zT4 (kvs:List (Sum Int Str × Mi.Sw)) (k:Key):valV (wk kvs) k = (Mi.getW kvs k).map swV:=by
  unfold valV Mi.getW wk
  induction kvs with
  | nil=>rfl
  | cons p r ih =>
    simp only [qAp,qBu]
    by_cases h:p.1 = k
    · simp [h]
    · simp only [h,decide_false]
      exact ih
theorem zXY (kvs:List (Sum Int Str × Mi.Sw)) (k:Key) (u:Mi.Sw):putK (wk kvs) k (swV u) = wk (Mi.putW kvs k u):=by
  unfold putK Mi.putW wk
  have e:(kvs.map fun p=>((p.1,swV p.2):Key × V)).any (fun kv=>decide (kv.1 = k)) = kvs.any fun p=>decide (p.1 = k):=by
    rw [List.any_map]; rfl
  rw [e]
  split
  · rw [qB1,qB1]
    refine qB2 fun p _=>?_
    by_cases h:p.1 = k
    · simp [h]
    · simp [h]
  · simp
section
variable [Kc] {mg:Str → Option Value} {E:XK} {L n k l:Nat} {te ta tb tx td:TE} {e ea eb ex ed ma:EM} {t:TA} {m:AM}
theorem ky_rep {G:Hp} {d:Dt} {v:V} {q:Sum Int Str} (h:Rep G d v) (e:Mi.kyD d = some q):v = kV q:=by
  cases d with
  | int i=>cases e; exact h
  | str x=>cases e; exact h
  | _=>cases e
theorem sw_rep {G:Hp} {d:Dt} {v:V} {u:Mi.Sw} (h:Rep G d v) (e:Mi.swD d = some u):v = swV u:=by
  cases d with
  | non=>cases e; exact h
  | bl _=>cases e; exact h
  | int i=>cases e; exact h
  | str x=>cases e; exact h
  | _=>cases e
theorem zTK {G:Hp} (u:Mi.Sw):Rep G (Mi.swT u) (swV u):=by cases u <;> rfl
theorem zUO (u:Mi.Sw):(Mi.swT u).dep = 0:=by cases u <;> rfl
theorem zP9:DE mg E zRM Mi.eDct0 1:=by
  intro G H σ ρ Q s w p a ha
  have fr:Fr G H G H (fun _=>False):=⟨Ext.refl s,fun _ z=>z.elim⟩
  exact p (.ref a) G _ _ (fr.add ha (.dK [])) ⟨a,rfl,zAH,.inl rfl⟩
theorem dt_B (A:DE mg E te e k):DT mg E (L2.tB te) (Mi.tB e):=by
  intro G H σ ρ Q s w p
  refine (zAK A).step errT s w p fun d v G1 H1 S _ fr o p1=>?_
  cases d with
  | bl b =>
    cases (show v = .bl b from o)
    exact ⟨b,rfl,p1 H1 fr.ext.h⟩
  | _=>exact p1.elim
theorem zSP (A:DE mg E ta ea k) (B:DE mg E tb eb l):DE mg E (tDIn ta tb) (Mi.eB (Mi.dinD false) ea eb) n:=by
  intro G H σ ρ Q s w p
  refine (zAK A).step errE s w p fun d v G1 H1 S _ fr o p1=>?_
  refine (zAK B).step (errE.from fr.ext) fr.ext.in' (w.mono fr.ext.g) p1 fun e u G2 H2 S2 _ fr2 o2 p2=>?_
  cases e with
  | dct kvs =>
    obtain ⟨a,rfl,ha⟩:=o2
    have p3:PostE mg E G H n (optR (match Mi.kyD d with | some k=>some (.bl (if false = true then !(Mi.getW kvs k).isSome else (Mi.getW kvs k).isSome)) | none=>none)) Q:=p2
    cases ek:Mi.kyD d with
    | none=>rw [ek] at p3; exact p3.elim
    | some q =>
      rw [ek] at p3
      cases ky_rep o ek
      refine ⟨a,_,rfl,DGet.k (fr2.ext.in' _ _ ha),?_⟩
      rw [zT4,qBv]
      exact PostE.val (PostE.from p3 (fr.ext.trans fr2.ext)) (Ext.refl fr2.ext.in') rfl rfl
  | _=>exact p2.elim
theorem zP8 (A:DE mg E ta ea k) (B:DE mg E tb eb l):DE mg E (zNM ta tb) (Mi.eB (Mi.dinD true) ea eb) n:=by
  intro G H σ ρ Q s w p
  refine (zAK A).step errE s w p fun d v G1 H1 S _ fr o p1=>?_
  refine (zAK B).step (errE.from fr.ext) fr.ext.in' (w.mono fr.ext.g) p1 fun e u G2 H2 S2 _ fr2 o2 p2=>?_
  cases e with
  | dct kvs =>
    obtain ⟨a,rfl,ha⟩:=o2
    have p3:PostE mg E G H n (optR (match Mi.kyD d with | some k=>some (.bl (if true = true then !(Mi.getW kvs k).isSome else (Mi.getW kvs k).isSome)) | none=>none)) Q:=p2
    cases ek:Mi.kyD d with
    | none=>rw [ek] at p3; exact p3.elim
    | some q =>
      rw [ek] at p3
      cases ky_rep o ek
      refine ⟨a,_,rfl,DGet.k (fr2.ext.in' _ _ ha),?_⟩
      rw [zT4,qBv]
      exact PostE.val (PostE.from p3 (fr.ext.trans fr2.ext)) (Ext.refl fr2.ext.in') rfl rfl
  | _=>exact p2.elim
theorem zIQ (i:Nat) {n1 n2:Nat} {t1 t2:TE} {e1 e2:EM} (A:DE mg E t1 e1 n1) (B:DE mg E t2 e2 n2):DS mg E L (zVJ (vM i) t1 t2) (Mi.sDput i e1 e2):=by
  intro G0 H0 S0 σ ρ G H As D a p
  obtain ⟨J,x,s,w⟩:=a.full
  refine (zAK B).step (errS.from x) x.in' w p fun d y G1 H1 S _ fr o p1=>?_
  cases er:ρ[i]? with
  | none=>rw [er] at p1; exact p1.elim
  | some sl =>
    rw [er] at p1
    match sl,er,p1 with
    | none,_,p=>exact p.elim
    | some (.dct kvs,k + 1),er,p1 =>
      obtain ⟨v,h1,q,rfl,hq,hs⟩:=a.at i _ _ er
      unfold vM
      rw [h1]
      have x1:Ext J H J H1:=Ext.same x.in' fr.ext.h
      refine (zAK A).step (errS.from (x.trans x1)) x1.in' w p1 fun z u G2 H2 S2 _ fr2 o2 p2=>?_
      cases ek:Mi.kyD z with
      | none=>rw [ek] at p2; exact p2.elim
      | some c =>
        cases ev:Mi.swD d with
        | none=>rw [ek,ev] at p2; exact p2.elim
        | some uu =>
          rw [ek,ev] at p2
          dsimp only at p2
          split at p2
          · rename_i hz
            cases ky_rep o2 ek
            cases sw_rep o ev
            have sH:=fr.ext.h.trans fr2.ext.h
            have a1:=a.grow sH
            refine ⟨q,_,rfl,DPut.k (sH _ _ hq) (by rw [qAm,sizeLine_eq]; omega),?_⟩
            rw [zXY]
            exact p2 σ G _ _ (a1.store (o:=.dK (wk (Mi.putW kvs c uu))) (n:=k + 1) (d:=.dct (Mi.putW kvs c uu)) (S:=As i) hs h1 ⟨q,rfl,zAH,hs⟩ fun b z=>.inl z)
          · exact p2.elim
    | some (.dct _,0),_,p=>exact p.elim
    | some (.lst _,_),_,p=>exact p.elim
    | some (.non,_),_,p=>exact p.elim
    | some (.bl _,_),_,p=>exact p.elim
    | some (.int _,_),_,p=>exact p.elim
    | some (.str _,_),_,p=>exact p.elim
    | some (.tup _,_),_,p=>exact p.elim
    | some (.scr _,_),_,p=>exact p.elim
    | some (.exc _ _ _,_),_,p=>exact p.elim
    | some (.ins _ _,_),_,p=>exact p.elim
end
end L3
namespace Mi
open PySem
noncomputable section
end
end Mi
namespace L2
open PySem PySem.Spec PyProof.Rows
section
variable {X:Cx} {pins:List (Addr × Obj)} {σ:List (Option V)} {H:Hp} {s:Shared}
end
section
variable {X:Cx}
end
end L2
namespace L3
open PySem PySem.Spec
open L2 hiding Rep RepL
open Mi (Dt Xn R okR zA2 optR bindR_ok zAA zAD zAB zAC Rh Sl Ro EM TM AM FM IM SM OM Tg Out zAZ zAR zB4 full frz frz1 frzAt)
section
variable [Kc] {mg:Str → Option Value} {E:XK} {L n k l:Nat} {te ta tb:TE} {e ea eb ma:EM} {t:TA} {m:AM}
end
end L3
namespace Mi
open PySem
noncomputable section
end
end Mi
namespace L2
open PySem PySem.Spec PyProof.Rows
section
variable {X:Cx} {e m1:Expr} {te ts:TE} {pos p2:Pos}
end
end L2
namespace L3
open PySem PySem.Spec
open L2 hiding Rep RepL
open Mi (Dt Xn R okR zA2 optR bindR_ok zAA zAD zAB zAC Rh Sl Ro EM TM AM FM IM SM OM Tg Out zAZ zAR zB4 full frz frz1 frzAt)
section
variable [Kc] {mg:Str → Option Value} {E:XK} {L n k l:Nat}
end
end L3
namespace Mi
open PySem
noncomputable section
end
end Mi
namespace L2
open PySem PySem.Spec PyProof.Rows
section
variable {X:Cx}
end
end L2
namespace L3
open PySem PySem.Spec PyProof.Rows
open L2 hiding Rep RepL
open Mi (Dt R Rh EM TM SM AM IM Xn Sl Ro Out okR zA2 optR full frz frzAt)
section
variable [Kc] {mg:Str → Option Value} {E:XK} {n L:Nat} {te ta tb:TE} {e:EM} {m m':SM}
end
end L3
namespace Mi
open PySem
noncomputable section
end
end Mi
namespace L2
open PySem PySem.Spec PyProof.Rows
section
variable {X:Cx} {tg:Expr}
end
section
variable {prog:Program} {w:World} {A:Around} {E:Value → Shared → Prop} {s:Shared}
end
section
variable {X:Cx}
end
end L2
namespace L3
open PySem PySem.Spec
open PyProof.Rows (risingS sortedS ltCps_eq)
open L2 hiding Rep RepL
open Mi (Dt Xn R okR zA2 optR bindR_ok zAA zAD zAB zAC Rh Sl Ro EM TM AM FM IM SM OM Tg Out zAZ zAR zB4 full frz frz1 frzAt)
section
variable [Kc] {mg:Str → Option Value} {E:XK} {L n k l:Nat} {t:TA} {m:AM}
end
end L3
namespace Mi
open PySem
noncomputable section
end
end Mi
namespace L3
open PySem PySem.Spec
open L2 hiding Rep RepL
open Mi (Dt Xn R okR zA2 optR bindR_ok zAA zAD zAB zAC Rh Sl Ro EM TM AM FM IM SM OM Tg Out zAZ zAR zB4 full frz frz1 frzAt)
section
variable [Kc] {mg:Str → Option Value} {E:XK} {L n k l:Nat} {te:TE} {e:EM}
section
variable {G0 H0 S0:Hp} {σ:St} {ρ:Ro} {G H:Hp} {As:Nat → Addr → Prop}
end
end
end L3
namespace Mi
open PySem
noncomputable section
noncomputable def splitC (c:Nat):List Nat → List (List Nat)
  | []=>[[]]
  | x :: r=>if x = c then [] :: splitC c r else match splitC c r with
    | []=>[[x]]
    | p :: ps=>(x :: p) :: ps
def splitD (x:Dt) (ys:List Dt):Option Dt:=match x,ys with
  | .str z,[.str y]=>match y.cps.toList with
    | [c]=>@ite _ (z.length ≤ 1000) (qA0 _) (some (.lst ((splitC c z.cps.toList).map fun p=>.str ⟨p.toArray⟩))) none
    | _=>none
  | _,_=>none
noncomputable def kyT:Sum Int Str → Dt
  | .inl i=>.int i
  | .inr x=>.str x
noncomputable def dlenD:List Dt → Option Dt
  | [.dct kvs]=>some (.int (kvs.length:Int))
  | _=>none
def dkeysD:List Dt → Option Dt
  | [.dct kvs]=>some (.lst (kvs.map fun p=>kyT p.1))
  | _=>none
def eDIx (d k:EM):EM:=fun ρ=>zA2 (d ρ) fun D=>match D with
  | .dct kvs=>zA2 (k ρ) fun y=>match kyD y with
    | some q=>match getW kvs q with
      | some w=>okR (swT w)
      | none=>none
    | none=>none
  | _=>none
def sAppPopF (j i:Nat) (e:EM):SM:=fun ρ=>sAppPop j i e (low j ρ)
theorem zCV (c:Nat):∀ l:List Nat,splitC c l ≠ []
  | []=>by simp [splitC]
  | x :: r=>by
    unfold splitC
    split
    · simp
    · split <;> simp
noncomputable def joinC (c:Nat):List (List Nat) → List Nat
  | []=>[]
  | [x]=>x
  | x :: y :: r=>x ++ c :: joinC c (y :: r)
theorem zH8 (c:Nat) (r:List Nat):∀ p:List Nat,c ∉ p → splitC c (p ++ c :: r) = p :: splitC c r
  | [],_=>by simp [splitC]
  | x :: p,h=>by
    have h1:¬ x = c:=fun e=>h (by simp [e])
    show (if x = c then [] :: splitC c (p ++ c :: r) else match splitC c (p ++ c :: r) with | []=>[[x]] | q :: ps=>(x :: q) :: ps) = _
    rw [if_neg h1,zH8 c r p fun z=>h (by simp [z])]
theorem zH7 (c:Nat):∀ p:List Nat,c ∉ p → splitC c p = [p]
  | [],_=>rfl
  | x :: p,h=>by
    have h1:¬ x = c:=fun e=>h (by simp [e])
    show (if x = c then [] :: splitC c p else match splitC c p with | []=>[[x]] | q :: ps=>(x :: q) :: ps) = _
    rw [if_neg h1,zH7 c p fun z=>h (by simp [z])]
theorem splitC_join (c:Nat):∀ ps:List (List Nat),ps ≠ [] → (∀ p ∈ ps,c ∉ p) → splitC c (joinC c ps) = ps
  | [],h,_=>absurd rfl h
  | [p],_,h=>zH7 c p (h p (by simp))
  | p :: q :: r,_,h=>by
    show splitC c (p ++ c :: joinC c (q :: r)) = _
    rw [zH8 c _ p (h p (by simp)),splitC_join c (q :: r) (by simp) fun x hx=>h x (by simp [hx])]
end
end Mi
namespace L2
open PySem PySem.Spec PyProof.Rows
section
variable {X:Cx}
def zRQ:V → List V → Hp → VK → Prop:=fun x vs H Q=>match x,vs with
  | .str z,[.str y]=>y.length = 1 ∧ z.length ≤ 1000 ∧ ∀ l,H l = none → Q (.ref l) (upd H l (.lst ((Txt.split z y).map V.str)))
  | _,_=>False
theorem zHZ {l:List (Str × Tok)}:Vals ((l.map (·.1)).map V.str) (strValues l):=by
  induction l with
  | nil=>exact .nil
  | cons p l ih=>exact .cons ⟨_,rfl⟩ ih
theorem zEK:MtR X "str.split" zRQ:=by
  intro pins s σ H x vs v us Q I rx rv h
  match x,vs,rx,rv,h with
  | .str z,[.str y],rx,rv,h =>
    obtain ⟨t,rfl⟩:=rx
    obtain ⟨u,rfl,ru⟩:=zEF rv
    obtain ⟨t2,rfl⟩:=ru
    obtain ⟨hy,hz,q⟩:=h
    have hle:=split_le z y
    have fin:∀ (l:List (Str × Tok)) (tk n:Nat),l.map (·.1) = Txt.split z y → EP X pins σ Q (.ref s.heap.objs.size) { s with heap:=s.heap.push { cls:=.type "list",data:=.seq (strValues l).toArray n },toks:=tk }:=fun l tk n e=>by
      refine ⟨.ref _,_,I.laid (t':=tk) (o:=.lst ((Txt.split z y).map V.str)) (fun b o e=>Heap.get?_push_of_some _ e) (qA7 _) ⟨?_,strValues l,n,?_,Heap.get?_push_size _ rfl⟩,rfl,q _ I.fresh⟩
      · rw [qAm,sizeLine_eq]; omega
      · rw [← e]; exact zHZ
    have hy0:(y.length == 0) = false:=by rw [hy]; rfl
    cases h1:(decide (z.length < y.length) || decide (Builtin.Str.strKind z < Builtin.Str.strKind y))
    · cases hf:(Builtin.Str.occurrences z y 0 z.length (z.length + 1)).isEmpty
      · have hpt:Txt.split z y = Builtin.Str.partsBetween z (Builtin.Str.occurrences z y 0 z.length (z.length + 1)) y.length:=(if_neg (ne_true_of_eq_false h1)).trans (if_neg (ne_true_of_eq_false hf))
        refine call_meets qB4 (typeIs_str _ _ _) qCs (qCk _ _) (meets_str_split_sep z y t t2 h1 hy0 hf (by rw [sizeLine_eq]; omega) (by rw [← hpt,sizeLine_eq]; omega)) ?_
        show wants _ _ _ { s with toks:=_,heap:=s.heap.push { cls:=.type "list",data:=.seq (strsFrom s.toks (Builtin.Str.partsBetween z (Builtin.Str.occurrences z y 0 z.length (z.length + 1)) y.length)).toArray } }
        rw [strsFrom_eq]
        exact fin (numbered s.toks _) _ _ ((numbered_texts _ _).trans hpt.symm)
      · exact call_meets qB4 (typeIs_str _ _ _) qCs (qCk _ _) (meets_str_split_not_found z y t t2 h1 hy0 hf)
          (fin [(z,t)] _ _ ((if_neg (ne_true_of_eq_false h1)).trans (if_pos hf)).symm)
    · exact call_meets qB4 (typeIs_str _ _ _) qCs (qCk _ _) (meets_str_split_cannot_occur z y t t2 h1)
        (fin [(z,t)] _ _ (if_pos h1).symm)
def zRV:List V → Hp → VK → Prop:=fun vs H Q=>match vs with
  | [.ref p]=>∃ kvs,H p = some (.dK kvs) ∧ Q (.int (kvs.length:Int)) H
  | _=>False
theorem zIJ:zCK X (.builtin "len") zRV:=by
  intro pins s σ H vs us Q I r h
  match vs,r,h with
  | [.ref p],r,h =>
    obtain ⟨kvs,hp,q⟩:=h
    obtain ⟨u,rfl,rx⟩:=zEF r
    cases rx
    obtain ⟨hz,hs,vs,rel,dd⟩:=zR2 I.hok hp
    have hl:vs.length = kvs.length:=rel.length.symm
    refine call_len_dict hs dd (by rw [hl]; rw [sizeLine_eq] at hz; omega) ?_
    rw [hl]
    exact ⟨.int _,H,I.tok _,⟨_,rfl⟩,q⟩
def zNW:List V → Hp → VK → Prop:=fun vs H Q=>match vs with
  | [.ref p]=>∃ kvs,H p = some (.dK kvs) ∧ ∀ l,H l = none → Q (.ref l) (upd H l (.lst (kvs.map fun q=>kV q.1)))
  | _=>False
theorem zUA {P:Program} {w:World} {k:Key} {u:Value} (h:(zB6 P w).is k u = true):RelV (kV k) u:=by
  rcases zB5 h with ⟨i,t,rfl,rfl⟩ | ⟨x,t,rfl,rfl⟩
  · exact ⟨t,rfl⟩
  · exact ⟨t,rfl⟩
theorem zJS {P:Program} {w:World}:∀ {kvs:List (Key × V)} {vs:List (Key × Value)} {us:List Value},KV kvs vs → us.length = vs.length → (∀ (i:Nat) u,us[i]? = some u → ∃ k x,vs[i]? = some (k,x) ∧ (zB6 P w).is k u = true) → Vals (kvs.map fun q=>kV q.1) us
 :=by
  intro kvs vs us hk
  induction hk generalizing us with
  | nil =>
    intro hl _
    cases us with
    | nil=>exact .nil
    | cons _ _=>cases hl
  | cons e t ih =>
    intro hl h
    cases us with
    | nil=>cases hl
    | cons u us =>
      refine .cons ?_ (ih (qCl hl) fun i u hu=>h (i + 1) u hu)
      obtain ⟨k,x,e1,e2⟩:=h 0 u rfl
      have e3:=e.1.trans (congrArg qGe (qAx e1))
      dsimp only
      rw [e3]
      exact zUA e2
theorem zQN (hc:X.calm = true):zCK X (.type "list") zNW:=by
  intro pins s σ H vs us Q I r h
  match vs,r,h with
  | [.ref p],r,h =>
    obtain ⟨kvs,hp,q⟩:=h
    obtain ⟨u,rfl,rx⟩:=zEF r
    cases rx
    obtain ⟨hz,hs,vs,rel,o,es,ep,d1,d2,d3,d4⟩:=zR2 I.hok hp
    have dd:s.heap.DictAt (zB6 X.prog X.w) p vs ep:=⟨o,es,d1,d2,d3,d4⟩
    have hl:vs.length = kvs.length:=rel.length.symm
    refine PySem.W.kdl_call (qF5 (knd:=zB6 X.prog X.w) (kvs:=vs) (ep:=ep) hs) (I.ok.hd hc) dd (by rw [hl]; exact hz) fun h' tk acc c hk hS hacc=>?_
    refine ⟨.ref _,_,I.laid (t':=tk) (o:=.lst (kvs.map fun q=>kV q.1)) (fun b o e=>hk b o e) (qA7 _) ⟨by rw [qAm]; exact hz,acc.toList,c,?_,by simpa using hS⟩,rfl,q _ I.fresh⟩
    exact zJS rel (by rw [qBn]; exact hacc.1) fun j v e=>hacc.2 j v (by rw [← qC8]; exact e)
end
end L2
namespace L3
open PySem PySem.Spec
open L2 hiding Rep RepL
open Mi (Dt Xn R okR zA2 optR bindR_ok zAA zAD zAB zAC Rh Sl Ro EM TM AM FM IM SM OM Tg Out zAZ zAR zB4 full frz frz1 frzAt)
section
variable [Kc] {mg:Str → Option Value} {E:XK} {L n k l:Nat} {te ta tb tx td:TE} {e ea eb ex ed ma:EM} {t:TA} {m:AM}
theorem zS5 (c:Nat):∀ zs:List Str,(Str.join ⟨#[c]⟩ zs).cps.toList = Mi.joinC c (zs.map (·.cps.toList))
  | []=>rfl
  | [x]=>by simp [Str.join,Mi.joinC]
  | x :: y :: r=>by
    have e:∀ a b:Str,(a ++ b).cps.toList = a.cps.toList ++ b.cps.toList:=fun a b=>by
      show (a.cps ++ b.cps).toList = _
      simp
    rw [Str.join,e,e,zS5 c (y :: r)]
    · simp [Mi.joinC]
    · simp
theorem zPU (z:Str) (c:Nat):Txt.split z ⟨#[c]⟩ = (Mi.splitC c z.cps.toList).map fun p=>(⟨p.toArray⟩:Str):=by
  have h1:=StrLaws.join_split z ⟨#[c]⟩
  have h2:=StrLaws.split_free z c
  have h3:Txt.split z ⟨#[c]⟩ ≠ []:=fun e=>by
    have:=qG8 z ⟨#[c]⟩
    rw [e] at this
    simp at this
  have e:z.cps.toList = Mi.joinC c ((Txt.split z ⟨#[c]⟩).map (·.cps.toList)):=by
    rw [← zS5,h1]
  rw [e,Mi.splitC_join c _ (by simpa using h3) (by
    intro p hp
    obtain ⟨q,hq,rfl⟩:=qAs.mp hp
    exact h2 q hq),qB1]
  refine (qEk _).symm.trans (qB2 fun p _=>?_)
  simp
theorem zLR {G:Hp}:∀ ps:List (List Nat),RepL G (ps.map fun p=>.str ⟨p.toArray⟩) ((ps.map fun p=>(⟨p.toArray⟩:Str)).map V.str)
  | []=>rfl
  | p :: r=>⟨_,_,rfl,rfl,zLR r⟩
theorem zFD:RMt zRQ Mi.splitD 1:=zRU (fun z=>zLX rfl (fun d h=>by cases d <;> first | rfl | exact absurd rfl (h _)) (fun d e r=>by cases d <;> rfl) rfl fun a b r=>rfl) fun mg E G H z c Q s p=>by
  have p':PostE mg E G H 1 (optR (@ite _ (z.length ≤ 1000) (qA0 _) (some (.lst ((Mi.splitC c z.cps.toList).map fun p=>.str ⟨p.toArray⟩))) none)) Q:=p
  split at p'
  · rename_i hz
    refine ⟨rfl,hz,fun l hl=>?_⟩
    rw [zPU]
    exact PostE.lst p' (Ext.refl s) (zLR _) hl
  · exact p'.elim
theorem zSO (D:DE mg E td ed k) (A:DE mg E ta ea l):DE mg E (zVG td ta) (Mi.eDIx ed ea) n:=by
  intro G H σ ρ Q s w p
  refine (zAK D).step errE s w p fun d v G1 H1 S _ fr o p1=>?_
  cases d with
  | dct kvs =>
    obtain ⟨a,rfl,ha⟩:=o
    have p1':PostE mg E G H n (zA2 (ea ρ) fun y=>match Mi.kyD y with | some q=>(match Mi.getW kvs q with | some w=>okR (Mi.swT w) | none=>none) | none=>none) Q:=p1
    refine (zAK A).step (errE.from fr.ext) fr.ext.in' (w.mono fr.ext.g) p1' fun y u G2 H2 S2 _ fr2 o2 p2=>?_
    have x2:=fr.ext.trans fr2.ext
    cases ek:Mi.kyD y with
    | none=>rw [ek] at p2; exact p2.elim
    | some q =>
      rw [ek] at p2
      cases ky_rep o2 ek
      cases eg:Mi.getW kvs q with
      | none=>dsimp only at p2; rw [eg] at p2; exact p2.elim
      | some u =>
        dsimp only at p2
        rw [eg] at p2
        have p4:=PostE.from p2 x2
        have h:=DGet.k (k:=q) (fr2.ext.h _ _ (fr.ext.in' _ _ ha))
        rw [zT4,eg] at h
        exact ⟨a,swV u,rfl,h,PostE.val p4 (Ext.refl fr2.ext.in') (zUO u) (zTK u)⟩
  | _=>exact p1.elim
theorem zIT:CBi zRV Mi.dlenD n:=by
  intro mg E G H ds vs Q s h p
  match ds,h,p with
  | [.dct kvs],h,p =>
    obtain ⟨x,rfl,hx⟩:=zDG h
    obtain ⟨a,rfl,ha⟩:=hx
    refine ⟨_,s _ _ ha,?_⟩
    rw [qAm]
    exact PostE.val p (Ext.refl s) rfl rfl
  | [],_,p=>exact p.elim
  | [.non],_,p=>exact p.elim
  | [.bl _],_,p=>exact p.elim
  | [.int _],_,p=>exact p.elim
  | [.str _],_,p=>exact p.elim
  | [.lst _],_,p=>exact p.elim
  | [.tup _],_,p=>exact p.elim
  | [.scr _],_,p=>exact p.elim
  | [.exc _ _ _],_,p=>exact p.elim
  | [.ins _ _],_,p=>exact p.elim
  | a :: b :: r,_,p=>cases a <;> exact p.elim
theorem repL_keys {G:Hp}:∀ kvs:List (Sum Int Str × Mi.Sw),RepL G (kvs.map fun p=>Mi.kyT p.1) ((wk kvs).map fun q=>kV q.1)
  | []=>rfl
  | p :: r=>⟨_,_,rfl,by obtain ⟨k,u⟩:=p; cases k <;> rfl,repL_keys r⟩
theorem zR9:CBi zNW Mi.dkeysD 1:=by
  intro mg E G H ds vs Q s h p
  match ds,h,p with
  | [.dct kvs],h,p =>
    obtain ⟨x,rfl,hx⟩:=zDG h
    obtain ⟨a,rfl,ha⟩:=hx
    exact ⟨_,s _ _ ha,fun l hl=>PostE.lst p (Ext.refl s) (repL_keys kvs) hl⟩
  | [],_,p=>exact p.elim
  | [.non],_,p=>exact p.elim
  | [.bl _],_,p=>exact p.elim
  | [.int _],_,p=>exact p.elim
  | [.str _],_,p=>exact p.elim
  | [.lst _],_,p=>exact p.elim
  | [.tup _],_,p=>exact p.elim
  | [.scr _],_,p=>exact p.elim
  | [.exc _ _ _],_,p=>exact p.elim
  | [.ins _ _],_,p=>exact p.elim
  | a :: b :: r,_,p=>cases a <;> exact p.elim
theorem zMY (j i:Nat) (A:DE mg E te e n):DS mg E L (zNL (tML appM (vM j) (zDF (tML popM (vM i) (zDF te tNil)) tNil))) (Mi.sAppPopF j i e):=by
  intro G0 H0 S0 σ ρ G H As D a p
  obtain ⟨G1,As1,a1⟩:=a.low j
  exact zP0 j i A _ _ _ _ _ _ _ _ D a1 p
end
end L3
namespace Mi
open PySem
noncomputable section
noncomputable def intK:List (Sum Int Str × Sw) → Option (List Int)
  | []=>some []
  | (.inl i,_) :: r=>(intK r).map (i :: ·)
  | (.inr _,_) :: _=>none
def sodD:List Dt → Option Dt
  | [.dct kvs]=>match intK kvs with
    | some ns=>@ite _ (ns.length < 64) (qA0 _) (some (.lst ((sortI ns).map .int))) none
    | none=>none
  | _=>none
theorem intK_keys:∀ {kvs:List (Sum Int Str × Sw)} {ns:List Int},intK kvs = some ns → kvs.map (·.1) = ns.map qCm
  | [],ns,h=>by cases h; rfl
  | (.inl i,_) :: r,ns,h=>by
    unfold intK at h
    cases e:intK r with
    | none=>rw [e] at h; cases h
    | some ms =>
      rw [e] at h
      cases h
      rw [qAp,intK_keys e]
      rfl
  | (.inr _,_) :: _,ns,h=>by cases h
end
end Mi
namespace L2
open PySem PySem.Spec PyProof.Rows
section
variable {prog:Program} {w:World} {A:Around} {E:Value → Shared → Prop} {s:Shared}
theorem zLC {T:String} {r d:Addr} {n:Nat} {P:Nat → Value → Prop} {OK:Heap → Prop} (K:qFq prog w T r d n P OK) (hh:A.handled = none) (hok:OK s.heap) (hn:n ≤ sizeLine) {Q:List Value → Shared → Prop}
    (hQ:∀ (h':Heap) (tk:Nat) (acc:Array Value),ItemsOf P acc n → s.heap.objs.size < h'.objs.size → (∀ b o,s.heap.get? b = some o → h'.get? b = some o) → Q acc.toList { s with heap:=h',toks:=tk }) :
    wpAny (model prog w) A (collect (.ref r)) Q E s:=by
  unfold collect
  refine wpAny_bind (wpAny_runValue (codeAny_builtin PySem.F.entry_proto_collect ?_))
  rw [Around.under_plainId PySem.F.plain_proto_collect _]
  show wpAny _ A.in1 (newList [] >>= fun l=>again (.builtin "list.__iadd__" ⟨[l,.ref r],[]⟩)) _ _ s
  refine wpAny_bind (wpAny_newObj_type ?_)
  refine wpAny_pure ⟨plainId_quiet qDt _,codeAny_builtin PySem.F.entry_list_iadd ?_⟩
  rw [Around.under_plainId qDt _]
  show wpAny _ A.in1 (Builtin.List.listExtendWith (.ref s.heap.objs.size) (.ref r) (.ref s.heap.objs.size)) _ _ _
  obtain ⟨h1,h2⟩:=K.there _ hok
  have hL1:(s.heap.push { cls:=.type "list",data:=.seq ([]:List Value).toArray }).get? s.heap.objs.size = some { cls:=.type "list",data:=.seq ([]:List Value).toArray }:=Heap.get?_push_size _ rfl
  refine PySem.W.kdl_extend (R:=fun (x:Result) s'=>match x with | .ok (.ret v)=>wpAny (model prog w) A (match v with | Value.ref a=>do { let o ← load a; match o.data with | .seq xs _=>pure xs.toList | _=>unsupported "internal:collect" } | _=>unsupported "internal:collect") Q E s' | .ok _=>False | .error e=>E e s') (s:={ s with heap:=s.heap.push { cls:=.type "list",data:=.seq ([]:List Value).toArray } }) K hh (K.keep _ _ hok fun b _ o e=>Heap.get?_push_of_some _ e) s.heap.objs.size (qBo h1) (qBo h2) (.ref s.heap.objs.size) 0 hL1 (fun h' tk acc c' hk hS' hacc=>?_) hn
  show wpAny _ A (load s.heap.objs.size >>= _) _ _ _
  refine wpAny_bind (wpAny_load hS' ?_)
  refine wpAny_pure (hQ h' tk acc hacc (Heap.lt_size hS') fun b o e=>hk b o (qAn (Heap.lt_size e)) (Heap.get?_push_of_some _ e))
theorem zMH {T:String} {r d:Addr} {n:Nat} {P:Nat → Value → Prop} {OK:Heap → Prop} (K:qFq prog w T r d n P OK) (hh:A.handled = none) (hok:OK s.heap) (hn:n < 64) {ns:List Int} (hI:∀ acc:Array Value,ItemsOf P acc n → IntsAre acc.toList ns) {Q:Value → Shared → Prop}
    (hQ:∀ (h':Heap) (tk:Nat) (L:Addr) (out:Array Value) (e:Nat) (ms:List Int),IntsAre out.toList ms → ms.Perm ns → ms.Pairwise (· ≤ ·) → s.heap.objs.size ≤ L → h'.get? L = some (seqObj "list" out e) → (∀ b o,s.heap.get? b = some o → h'.get? b = some o) → Q (.ref L) { s with heap:=h',toks:=tk }) :
    wpAny (model prog w) A (call (.builtin "sorted") [.ref r]) Q E s:=by
  refine Calls.call_function_entry kind_sorted plain_sorted entry_sorted (args_sorted1 _) ?_
  unfold Builtin.«sorted»
  refine wpAny_bind (m:=checkCount "sorted" 1 1 _) (wpAny_pure ?_)
  refine wpAny_bind (zLC (A:=A.in1) K hh hok (by rw [sizeLine_eq]; omega) fun h' tk' acc hit hgr hkeep=>?_)
  have hsa:=hI acc hit
  have hal:acc.toList.length = n:=by rw [qBn]; exact hit.1
  refine wpAny_bind (wpAny_newList ?_ (hsz:=by rw [hal,sizeLine_eq]; omega))
  have hoL:(h'.push (seqObj "list" acc.toList.toArray 0)).get? h'.objs.size = some (seqObj "list" acc.toList.toArray 0):=Heap.get?_push_size _ rfl
  refine wpAny_bind (wpAny_holding (wpAny_call_entry slot_list_sort ⟨_,hoL,rfl⟩ entry_list_sort (list_sort_tree hoL hsa (by omega) fun out ms b1 b2 b3=>⟨_,rfl,?_⟩) (args_list_sort _)))
  obtain ⟨e,he⟩:=sortedHeap_at (vs:=acc.toList) (out:=out) hoL
  refine wpAny_pure ⟨_,rfl,hQ _ tk' h'.objs.size _ e ms b1 b2 b3 (qC6 hgr) he fun b o eb=>?_⟩
  have h1:=hkeep b o eb
  have hlt:b < h'.objs.size:=Heap.lt_size h1
  rw [sortedHeap_old (qAn hlt) (by rw [size_push']; exact qEs hlt)]
  exact Heap.get?_push_of_some _ h1
end
section
variable {X:Cx}
theorem zHM:∀ {ns:List Int} {us:List Value},Vals (ns.map V.int) us → IntsAre us ns
  | [],[],.nil=>.nil
  | n :: ns,u :: us,.cons ⟨t,e⟩ r=>by subst e; exact .cons _ _ (zHM r)
theorem zHN:∀ {ns:List Int} {us:List Value},IntsAre us ns → Vals (ns.map V.int) us
  | _,_,.nil=>.nil
  | _,_,.cons n t r=>.cons ⟨t,rfl⟩ (zHN r)
def zNU:List V → Hp → VK → Prop:=fun vs H Q=>match vs with
  | [.ref p]=>∃ (kvs:List (Key × V)) (ns:List Int),H p = some (.dK kvs) ∧ kvs.map (·.1) = ns.map qCm ∧ ns.length < 64 ∧ ∀ ms:List Int,ms.Perm ns → ms.Pairwise (· ≤ ·) → ∀ l,H l = none → Q (.ref l) (upd H l (.lst (ms.map V.int)))
  | _=>False
theorem zQM (hc:X.calm = true):zCK X (.builtin "sorted") zNU:=by
  intro pins s σ H vs us Q I r h
  match vs,r,h with
  | [.ref p],r,h =>
    obtain ⟨kvs,ns,hp,hkn,hlen,q⟩:=h
    obtain ⟨u,rfl,rx⟩:=zEF r
    cases rx
    obtain ⟨hz,hs,vs,rel,o,es,ep,d1,d2,d3,d4⟩:=zR2 I.hok hp
    have dd:s.heap.DictAt (zB6 X.prog X.w) p vs ep:=⟨o,es,d1,d2,d3,d4⟩
    have hl:vs.length = kvs.length:=rel.length.symm
    have hkl:kvs.length = ns.length:=by have:=congrArg qEh hkn; simpa using this
    refine zMH (qF5 (knd:=zB6 X.prog X.w) (kvs:=vs) (ep:=ep) hs) (I.ok.hd hc) dd (by rw [hl,hkl]; exact hlen) (ns:=ns) (fun acc hacc=>zHM ?_) fun h' tk L out e ms b1 b2 b3 hL hl' hk=>?_
    · have:=zJS rel (us:=acc.toList) (by rw [qBn]; exact hacc.1) fun j v e=>hacc.2 j v (by rw [← qC8]; exact e)
      rw [show (kvs.map fun q=>kV q.1) = (kvs.map (·.1)).map kV by rw [qB1]; rfl,hkn,qB1] at this
      exact this
    · have hz':ms.length ≤ sizeLine:=by rw [b2.length_eq,sizeLine_eq]; omega
      exact ⟨.ref _,_,I.laid (t':=tk) (o:=.lst (ms.map V.int)) (fun b o e=>hk b o e) hL ⟨by rw [qAm]; exact hz',out.toList,e,zHN b1,by simpa [seqObj] using hl'⟩,rfl,q ms b2 b3 _ (I.hok.fresh hL)⟩
end
end L2
namespace L3
open PySem PySem.Spec
open L2 hiding Rep RepL
open Mi (Dt Xn R okR zA2 optR bindR_ok zAA zAD zAB zAC Rh Sl Ro EM TM AM FM IM SM OM Tg Out zAZ zAR zB4 full frz frz1 frzAt)
section
variable [Kc] {mg:Str → Option Value} {E:XK} {L n k l:Nat}
theorem zXG:CBi zNU Mi.sodD 1:=by
  intro mg E G H ds vs Q s h p
  match ds,h,p with
  | [.dct kvs],h,p =>
    obtain ⟨x,rfl,hx⟩:=zDG h
    obtain ⟨a,rfl,ha⟩:=hx
    have p':PostE mg E G H 1 (optR (match Mi.intK kvs with | some ns=>@ite _ (ns.length < 64) (qA0 _) (some (.lst ((Mi.sortI ns).map .int))) none | none=>none)) Q:=p
    cases e:Mi.intK kvs with
    | none=>rw [e] at p'; exact p'.elim
    | some ns =>
      rw [e] at p'
      dsimp only at p'
      split at p'
      · rename_i hz
        refine ⟨_,ns,s _ _ ha,?_,hz,fun ms h1 h2 l hl=>?_⟩
        · rw [qB1,← Mi.intK_keys e]
          rfl
        · have:ms = Mi.sortI ns:=PySem.W.lks_uniq (h1.trans (zMJ ns).symm) h2 (zNO ns)
          subst this
          exact PostE.lst p' (Ext.refl s) (zCD _) hl
      · exact p'.elim
  | [],_,p=>exact p.elim
  | [.non],_,p=>exact p.elim
  | [.bl _],_,p=>exact p.elim
  | [.int _],_,p=>exact p.elim
  | [.str _],_,p=>exact p.elim
  | [.lst _],_,p=>exact p.elim
  | [.tup _],_,p=>exact p.elim
  | [.scr _],_,p=>exact p.elim
  | [.exc _ _ _],_,p=>exact p.elim
  | [.ins _ _],_,p=>exact p.elim
  | a :: b :: r,_,p=>cases a <;> exact p.elim
end
end L3
namespace Mi
open PySem
noncomputable section
end
end Mi
namespace L2
open PySem PySem.Spec PyProof.Rows
section
variable {prog:Program} {w:World} {A:Around} {E:Value → Shared → Prop} {s:Shared}
end
section
variable {X:Cx} {o:Expr} {td:TE} {p apos cpos pos:Pos}
end
end L2
namespace L3
open PySem PySem.Spec
open PyProof.Rows (risingS sortedS ltCps_eq)
open L2 hiding Rep RepL
open Mi (Dt Xn R okR zA2 optR bindR_ok zAA zAD zAB zAC Rh Sl Ro EM TM AM FM IM SM OM Tg Out zAZ zAR zB4 full frz frz1 frzAt)
section
variable [Kc] {mg:Str → Option Value} {E:XK} {L n k l:Nat} {te ta td:TE} {e ea ed:EM}
end
end L3
namespace Mi
open PySem
noncomputable section
end
end Mi
namespace L2
open PySem
end L2
namespace L2
open PySem PySem.Spec PyProof.Rows
section
variable {prog:Program} {w:World} {A:Around} {E:Value → Shared → Prop} {s:Shared}
end
section
variable {prog:Program} {w:World} {A:Around} {R:Result → Shared → Prop} {I:Addr} {fp wr:List Addr} {G:Array GenState → Array GenState → Prop} {n:Nat} {St:Nat → Shared → Prop} {led:Bool} {items:Array Value} {ns:List Int}
end
end L2
namespace PySem
open PyProof.Rows
end PySem
namespace L2
open PySem PySem.Spec PyProof.Rows
section
variable {prog:Program} {w:World} {A:Around} {E:Value → Shared → Prop} {s:Shared}
end
section
variable {X:Cx} {pins:List (Addr × Obj)} {σ:List (Option V)} {H:Hp} {s:Shared}
end
end L2
namespace L3
open PySem PySem.Spec
open L2 hiding Rep RepL
open Mi (Dt Xn R okR zA2 optR bindR_ok zAA zAD zAB zAC Rh Sl Ro EM TM AM FM IM SM OM Tg Out zAZ zAR zB4 full frz frz1 frzAt)
section
variable [Kc] {mg:Str → Option Value} {E:XK} {L n k l:Nat} {te ta tb:TE} {e ea eb ma:EM} {t:TA} {m:AM}
end
end L3
namespace Mi
open PySem
noncomputable section
end
end Mi
namespace L2
open PySem PySem.Spec PyProof.Rows
section
variable {prog:Program} {w:World} {A:Around} {E:Value → Shared → Prop} {s:Shared}
structure ZipX (z TI TO i1 i2:Addr):Prop where
  TIz:TI ≠ z
  TOz:TO ≠ z
  i1z:i1 ≠ z
  i2z:i2 ≠ z
  TITO:TI ≠ TO
  TIi1:TI ≠ i1
  TIi2:TI ≠ i2
  TOi1:TO ≠ i1
  TOi2:TO ≠ i2
  i12:i1 ≠ i2
end
section
variable {X:Cx} {K:qA1}
end
section
variable {X:Cx} {e m1:Expr} {te ts:TE} {pos p2:Pos}
end
end L2
namespace L2
open PySem PySem.Spec PyProof.Rows
section
variable {prog:Program} {w:World} {A:Around} {R:Result → Shared → Prop} {I:Addr} {fp wr:List Addr} {G:Array GenState → Array GenState → Prop} {n:Nat} {St:Nat → Shared → Prop} {led:Bool} {items:Array Value} {zs:List Str}
end
end L2
namespace PySem
open PyProof.Rows
end PySem
namespace L2
open PySem PySem.Spec PyProof.Rows
section
variable {X:Cx} {pins:List (Addr × Obj)} {σ:List (Option V)} {H:Hp} {s:Shared}
end
end L2
namespace L3
open PySem PySem.Spec
open L2 hiding Rep RepL
open Mi (Dt Xn R okR zA2 optR bindR_ok zAA zAD zAB zAC Rh Sl Ro EM TM AM FM IM SM OM Tg Out zAZ zAR zB4 full frz frz1 frzAt)
section
variable [Kc] {mg:Str → Option Value} {E:XK} {L n k l:Nat} {te ta tb:TE} {e ea eb ma:EM} {t:TA} {m:AM}
end
end L3
namespace L2
open PySem
theorem uw1 {P:List Value → Prop} (h:∀ a,P [a]):∀ us:List Value,us.length = 1 → P us
  | [a],_=>h a
theorem uw2 {P:List Value → Prop} (h:∀ a b,P [a,b]):∀ us:List Value,us.length = 2 → P us
  | a :: us,hl=>uw1 (P:=fun us=>P (a :: us)) (h a) us (qCl hl)
theorem uw3 {P:List Value → Prop} (h:∀ a b c,P [a,b,c]):∀ us:List Value,us.length = 3 → P us
  | a :: us,hl=>uw2 (P:=fun us=>P (a :: us)) (h a) us (qCl hl)
theorem uw4 {P:List Value → Prop} (h:∀ a b c d,P [a,b,c,d]):∀ us:List Value,us.length = 4 → P us
  | a :: us,hl=>uw3 (P:=fun us=>P (a :: us)) (h a) us (qCl hl)
theorem uw5 {P:List Value → Prop} (h:∀ a b c d e,P [a,b,c,d,e]):∀ us:List Value,us.length = 5 → P us
  | a :: us,hl=>uw4 (P:=fun us=>P (a :: us)) (h a) us (qCl hl)
theorem uw6 {P:List Value → Prop} (h:∀ a b c d e f,P [a,b,c,d,e,f]):∀ us:List Value,us.length = 6 → P us
  | a :: us,hl=>uw5 (P:=fun us=>P (a :: us)) (h a) us (qCl hl)
theorem uw7 {P:List Value → Prop} (h:∀ a b c d e f g,P [a,b,c,d,e,f,g]):∀ us:List Value,us.length = 7 → P us
  | a :: us,hl=>uw6 (P:=fun us=>P (a :: us)) (h a) us (qCl hl)
theorem oi {p q:Prop} (h:p ∨ q:=by first | exact qGb rfl | exact qG4 rfl):p ∨ q:=h
end L2
namespace L3
open PySem PyProof.Rows
open L2 hiding Rep RepL
theorem fsc {N P:List Str} {sc:Scope} (a:sc.kind = .function:=by rfl) (b:sc.isCoroutine = false:=by rfl) (c:sc.isGenerator = false:=by rfl) (d:N.Nodup:=by decide +kernel) (e:N.take P.length = P:=by rfl)
    (f:∀ x ∈ P,sc.names.lookup x = some .local ∨ sc.names.lookup x = some .cell:=by decide +kernel) (g:∀ y ∈ sc.names,y.2 ≠ .free:=by decide +kernel):FnScope N P sc:=⟨a,b,c,d,e,f,g⟩
section
variable {P:Program} {w:World} {K:qA1} {mg:Str → Option Value} {base:Heap} {x:Str} {st:Stmt} {N ps:List Str} {k:Nat} {sp:Sp}
theorem dfM (D:Def K mg x st) (S:FnScope N ps (zA7 st))
    (hbody:∀ {f:Addr} {cdv:Value} {A:Around} {outer:List Env} {s:Shared} {H:Hp} {vs:List V} {Q:VK} {E:XK},Room k (A.deeper (envOfC x (zA7 st) s.heap.objs.size f cdv)) → (A.deeper (envOfC x (zA7 st) s.heap.objs.size f cdv)).units + 64 < cLine → sp vs H Q E →
      ∃ t,PSs (cxOf CX0 P w K mg base N x (zA7 st) f cdv A outer s H E).nox (zBA st) t ∧ t { nx:=fun _ H'=>Q .non H',rt:=Q } (start N vs) H)
    (hb:∀ (kV doc pm:Value) (an:Option Addr) (cdv ct:Value) (us:List Value),us.length = ps.length → bindArgs (qB7 x x (zC7 st) (zBA st) (zA7 st) .none kV doc pm an cdv ct) ⟨us,[]⟩ = pure (ps.zip us):=by
      intro _ _ _ _ _ _; first | exact uw1 fun _=>rfl | exact uw2 fun _ _=>rfl | exact uw3 fun _ _ _=>rfl | exact uw4 fun _ _ _ _=>rfl | exact uw5 fun _ _ _ _ _=>rfl | exact uw6 fun _ _ _ _ _ _=>rfl | exact uw7 fun _ _ _ _ _ _ _=>rfl)
    (len:∀ vs H Q E,sp vs H Q E → vs.length = ps.length:=by exact fun _ _ _ _ h=>zKS h):Has P w K mg base x (k + 1) ps sp :=
  D.ok S hb len fun _ _ _ _ _ _ _ _ _ hr h=>hbody hr hr.units h
theorem dfX (D:Def K mg x st) (S:FnScope N ps (zA7 st))
    (hbody:∀ {f:Addr} {cdv:Value} {A:Around} {outer:List Env} {s:Shared} {H:Hp} {vs:List V} {Q:VK} {E:XK},Room k (A.deeper (envOfC x (zA7 st) s.heap.objs.size f cdv)) → (A.deeper (envOfC x (zA7 st) s.heap.objs.size f cdv)).units + 64 < cLine → sp vs H Q E →
      ∃ t,PSs (cxOf (CXe P w) P w K mg base N x (zA7 st) f cdv A outer s H E) (zBA st) t ∧ t { nx:=fun _ H'=>Q .non H',rt:=Q } (start N vs) H)
    (hb:∀ (kV doc pm:Value) (an:Option Addr) (cdv ct:Value) (us:List Value),us.length = ps.length → bindArgs (qB7 x x (zC7 st) (zBA st) (zA7 st) .none kV doc pm an cdv ct) ⟨us,[]⟩ = pure (ps.zip us):=by
      intro _ _ _ _ _ _; first | exact uw1 fun _=>rfl | exact uw2 fun _ _=>rfl | exact uw3 fun _ _ _=>rfl | exact uw4 fun _ _ _ _=>rfl | exact uw5 fun _ _ _ _ _=>rfl | exact uw6 fun _ _ _ _ _ _=>rfl | exact uw7 fun _ _ _ _ _ _ _=>rfl)
    (len:∀ vs H Q E,sp vs H Q E → vs.length = ps.length:=by exact fun _ _ _ _ h=>zKS h):HasX P w K mg base x (k + 1) ps sp :=
  D.okX S hb len fun _ _ _ _ _ _ _ _ _ hr h=>hbody hr hr.units h
theorem mkD {K:qA1} {h:Heap} {mg:Str → Option Value} {nm:Str} {st:Stmt} {f:Addr} {oc kV dc pm cd ct:Value} {od an:Option Addr} {sl:Array (Option Value)} (X:K.In h) (G:h.Ns mainGlobals mg) (a:qB8 K mainGlobals nm = some (some (.ref f))) (l:K.lookup f = some ⟨oc,od,.func (qB7 nm nm (zC7 st) (zBA st) (zA7 st) .none kV dc pm an cd ct),sl⟩) (c:qCe K cd nm = true) (k:qAv K (.ref f) = true):Def K mg nm st:=⟨f,_,zOV (st:=st) l c k,qBc X G a⟩
end
section
variable {X:Cx} {pos:Pos}
theorem pgn (i:Nat) {x:Str} (hN:decide X.N.Nodup = true:=by kernel_rfl) (hi:X.N[i]? = some x:=by rfl) (hx:Loc X.env.scope x:=by exact oi) (hf:X.fn x = true ∨ X.env.scope.names.lookup x = some .local:=by first | exact .inl rfl | exact .inr rfl | assumption):PG X (.Name x pos) (zGH i):=zDK (of_decide_eq_true hN) hi hx hf
theorem pst (i:Nat) {x:Str} {e:Expr} {te:TE} {pos':Pos} (hN:X.N.Nodup) (he:PE X e te) (hi:X.N[i]? = some x:=by rfl) (hx:Loc X.env.scope x:=by exact oi) (hs:swapsWith e (some (.Name x pos')) pos.line X.env = pure false:=by rfl) (hf:X.fn x = true ∨ X.env.scope.names.lookup x = some .local:=by first | exact .inl rfl | exact .inr rfl | assumption):PS X (.Assign [.Name x pos'] e pos) (tAsg te (zGH i)):=zW5 hN hi hx he hs hf
end
end L3
namespace Mi
open PySem
noncomputable section
end
end Mi
namespace L3
open PySem PySem.Spec
open L2 hiding Rep RepL
open Mi (Dt Xn R okR zA2 optR bindR_ok zAA zAD zAB zAC Rh Sl Ro EM TM AM FM IM SM Tg Out zAZ zAR zB4 full frz frz1 frzAt)
section
variable [Kc]
section
variable {G0 H0 S0:Hp} {σ:St} {ρ:Ro} {G H:Hp} {As:Nat → Addr → Prop}
end
variable {mg:Str → Option Value} {E:XK} {L n k l:Nat} {te ta tb:TE} {e ea eb ma:EM} {t:TA} {m:AM}
end
end L3
namespace Mp
noncomputable section
open Mi PySem
def zGS:SM:=(sSeq (sSet 2 0 [] (eC (.int 0)))
  (sSeq (sIf (tB (eB (cmpD fun i j=>decide (i < j)) (eV 1) (eBi lenD (aCons (eV 0) aNil)))) (sSet 2 0 [0,1] (eB ixD (eV 0) (eV 1))) sNil)
  (sSeq (sSet 3 0 [2,1] (eB modD (eB mulD (eB addD (eB addD (eB modD (eV 2) (eC (.int 2147483647))) (eB mulD (eC (.int 7919)) (eV 1))) (eC (.int 1))) (eC (.int 48271))) (eC (.int 2147483647))))
  (sRet 0 0 [1,3] (eB modD (eB addD (eB mulD (eV 3) (eC (.int 69621))) (eV 1)) (eC (.int 2147483647)))))))
def zAN:FM:=runF 2 4 zGS
def zEU:SM:=(sRet 1 1 [0,1] (eB addD (eV 0) (eComp (iSq (eV 1)) 1 (.one 2) Mi.tYes (eB addD (eV 2) (eBi lenD (aCons (eV 0) aNil))))))
def zBJ:FM:=runF 2 2 zEU
def zN7:SM:=(sSeq (sSet 2 1 [1] (eBi rangeD (aCons (eB mulD (eC (.int 4)) (eV 1)) aNil)))
  (sSeq (sSet 3 1 [2] (eComp (iSq (eV 2)) 1 (.one 6) Mi.tYes (eC (.int 0))))
  (sSeq (sWhile (tB (eB neD (eV 2) (eLst aNil))) (sSeq (sPop 4 2 (eC (.int 0)))
  (sSeq (sSet 0 0 [0] (eB modD (eB addD (eB mulD (eV 0) (eC (.int 48271))) (eC (.int 7919))) (eC (.int 2147483647))))
  (sSeq (sPop 5 2 (eB modD (eB divD (eV 0) (eC (.int 64))) (eBi lenD (aCons (eV 2) aNil))))
  (sSeq (sItem 3 0 (eV 4) (eV 5))
  (sItem 3 0 (eV 5) (eV 4)))))))
  (sRetV 1 3))))
def zCY:FM:=runF 2 6 zN7
def zKL:SM:=(sSeq (sSet 2 0 [0,1] (eCall zAN (aCons (eV 0) (aCons (eV 1) aNil))))
  (sSeq (sSet 3 1 [2] (eB addD (eC (.int 1)) (eB modD (eV 2) (eC (.int 8)))))
  (sSeq (sSet 4 1 [3,0,1] (eCall zCY (aCons (eCall zAN (aCons (eV 0) (aCons (eB addD (eV 1) (eC (.int 1))) aNil))) (aCons (eV 3) aNil))))
  (sSeq (sIf (tAn (tB (eB eqD (eB modD (eB divD (eV 2) (eC (.int 8))) (eC (.int 3))) (eC (.int 0)))) (tB (eB (cmpD fun i j=>decide (i < j)) (eV 3) (eC (.int 8))))) (sRet 1 1 [4,0,1,2,3] (eCall zBJ (aCons (eV 4) (aCons (eCall zCY (aCons (eCall zAN (aCons (eV 0) (aCons (eB addD (eV 1) (eC (.int 2))) aNil))) (aCons (eB addD (eC (.int 1)) (eB modD (eB divD (eV 2) (eC (.int 24))) (eB subD (eC (.int 8)) (eV 3)))) aNil))) aNil)))) sNil)
  (sRetV 1 4)))))
def zC6:FM:=runF 2 5 zKL
def zF8:SM:=(sRet 0 0 [0] (eAnd (eIsi "int" (eV 0)) (eNot (eIsi "bool" (eV 0)))))
def zBT:FM:=runF 1 1 zF8
def zES:SM:=(sSeq (sIf (Mi.tOr (tNo (tM (eIsi "list" (eV 0)))) (tB (eB neD (eV 0) (eV 1)))) (sRet 0 0 [] (eC (.bl false))) sNil)
  (sRet 0 0 [0] (eBi allD (aCons (eComp (iSq (eV 0)) 1 (.one 2) Mi.tYes (eCall zBT (aCons (eV 2) aNil))) aNil))))
def zBI:FM:=runF 2 2 zES
def zE7:SM:=(sRet 0 0 [0] (eAnd (eB eqD (eB modD (eV 0) (eC (.int 4))) (eC (.int 0))) (eChain (cmpD fun i j=>decide (i ≤ j)) (cmpD fun i j=>decide (i ≤ j)) (eC (.int 1)) (eB divD (eV 0) (eC (.int 4))) (eC (.int 8)))))
def zC3:FM:=runF 1 1 zE7
def zDQ:SM:=(sSeq (sSet 1 0 [] (eC (.str " !#$&'()*+,-./0123456789:;<=>?@ABCDEFGHIJKLMNOPQRSTUVWXYZ[]^_abcdefghijklmnopqrstuvwxyz{|}~")))
  (sRet 0 0 [1,0] (eB ixD (eV 1) (eB modD (eV 0) (eBi lenD (aCons (eV 1) aNil))))))
def zBW:FM:=runF 1 2 zDQ
def zIW:SM:=(sSeq (sSet 2 0 [0,1] (eB ixD (eLst (aCons (eTup (aCons (eC (.int 1)) (aCons (eC (.int 0)) (aCons (eC (.int 3)) (aCons (eC (.int 2)) aNil))))) (aCons (eTup (aCons (eC (.int 2)) (aCons (eC (.int 3)) (aCons (eC (.int 0)) (aCons (eC (.int 1)) aNil))))) (aCons (eTup (aCons (eC (.int 3)) (aCons (eC (.int 2)) (aCons (eC (.int 1)) (aCons (eC (.int 0)) aNil))))) aNil)))) (eB ixD (eV 0) (eB divD (eV 1) (eC (.int 4))))))
  (sRet 1 1 [1,2] (eB addD (eB subD (eV 1) (eB modD (eV 1) (eC (.int 4)))) (eB ixD (eV 2) (eB modD (eV 1) (eC (.int 4)))))))
def zII:FM:=runF 2 3 zIW
def zKK:SM:=(sSeq (sSet 3 9 [] (eLst aNil))
  (sSeq (sSet 4 0 [2] (eV 2))
  (sSeq (sWhile (Mi.tOr (tB (eB eqD (eV 3) (eLst aNil))) (tB (eB neD (eV 4) (eV 2)))) (sSeq (sApp 3 0 (eV 4))
  (sSeq (sApp 3 1 (eCall zII (aCons (eV 1) (aCons (eV 4) aNil))))
  (sSet 4 0 [0,3] (eB ixD (eV 0) (eB ixD (eV 3) (eU negD (eC (.int 1)))))))))
  (sRetV 9 3))))
def zJO:FM:=runF 3 5 zKK
def zIV:SM:=(sSeq (sSet 2 1 [] eDct0)
  (sSeq (sSet 3 9 [] (eLst aNil))
  (sSeq (sForR (iR1 (aCons (eBi lenD (aCons (eV 0) aNil)) aNil)) 4 (sIf (tB (eB (dinD true) (eV 4) (eV 2))) (sSeq (sSet 5 9 [0,1,4] (eCall zJO (aCons (eV 0) (aCons (eV 1) (aCons (eV 4) aNil)))))
  (sSeq (sFor [5] (iSq (eV 5)) (.one 6) (sDput 2 (eV 6) (eC (.bl true))))
  (zVL 3 [5] (eV 5)))) sNil))
  (sRetV 1 3))))
def zIH:FM:=runF 2 7 zIV
def zRD:SM:=(sRet 0 0 [1,0] (eB xorD (eV 1) (eB addD (eV 0) (eC (.int 1)))))
def zQH:FM:=runF 2 2 zRD
def zKJ:SM:=(sSeq (sSet 2 0 [1] (eB divD (eV 1) (eC (.int 4))))
  (sRet 1 1 [2,0,1] (eB addD (eB mulD (eV 2) (eC (.int 4))) (eCall zQH (aCons (eB ixD (eV 0) (eV 2)) (aCons (eB modD (eV 1) (eC (.int 4))) aNil))))))
def zF5:FM:=runF 2 3 zKJ
def zN5:SM:=(sSeq (sSet 3 1 [2,1] (eLst (aCons (eV 2) (aCons (eCall zF5 (aCons (eV 1) (aCons (eV 2) aNil))) aNil))))
  (sSeq (sWhile (tB (eB neD (eB ixD (eV 0) (eB ixD (eV 3) (eU negD (eC (.int 1))))) (eV 2))) (sSeq (sSet 4 0 [0,3] (eB ixD (eV 0) (eB ixD (eV 3) (eU negD (eC (.int 1))))))
  (sExt 3 0 (eLst (aCons (eV 4) (aCons (eCall zF5 (aCons (eV 1) (aCons (eV 4) aNil))) aNil))))))
  (sRetV 1 3)))
def zHH:FM:=runF 3 5 zN5
def zLG:SM:=(sSeq (sSet 2 9 [] (eLst aNil))
  (sSeq (sSet 3 1 [] eDct0)
  (sSeq (sForR (iR1 (aCons (eBi lenD (aCons (eV 0) aNil)) aNil)) 4 (sIf (tB (eB (dinD true) (eV 4) (eV 3))) (sSeq (sSet 5 1 [0,1,4] (eCall zHH (aCons (eV 0) (aCons (eV 1) (aCons (eV 4) aNil)))))
  (sSeq (zVL 2 [5] (eV 5))
  (zXU 3 (eComp (iSq (eV 5)) 1 (.one 6) Mi.tYes (eTup (aCons (eV 6) (aCons (eC (.bl true)) aNil))))))) sNil))
  (sRetV 1 2))))
def zL2:FM:=runF 2 6 zLG
def zET:SM:=(sSeq (sSet 2 1 [0] (eBi listD (aCons (eV 0) aNil)))
  (sSeq (sSet 3 9 [] (eLst aNil))
  (sSeq (sWhile (tB (eB neD (eV 2) (eLst aNil))) (sSeq (sSet 1 0 [1] (eB modD (eB addD (eB mulD (eV 1) (eC (.int 48271))) (eC (.int 7919))) (eC (.int 2147483647))))
  (sAppPopF 3 2 (eB modD (eB divD (eV 1) (eC (.int 64))) (eBi lenD (aCons (eV 2) aNil))))))
  (sRetV 1 3))))
def zBB:FM:=runF 2 4 zET
def zGQ:SM:=(sRet 2 2 [0] (eComp (iEn (aCons (eV 0) aNil)) 2 (.tup [1,2]) (tB (eB (cmpD fun i j=>decide (i < j)) (eV 1) (eV 2))) (eTup (aCons (eV 1) (aCons (eV 2) aNil)))))
def zCF:FM:=runF 1 1 zGQ
def zGR:SM:=(sRet 1 1 [0] (eB addD (eB ixD (eC (.str "abcdefgh")) (eB divD (eV 0) (eC (.int 4)))) (eB ixD (eC (.str "0123")) (eB modD (eV 0) (eC (.int 4))))))
def zAJ:FM:=runF 1 1 zGR
def zCT:SM:=(sRet 0 0 [0] (eAnd (eCall zC3 (aCons (eBi lenD (aCons (eV 0) aNil)) aNil)) (eB eqD (eBi maxL (aCons (eV 0) aNil)) (eB subD (eBi lenD (aCons (eV 0) aNil)) (eC (.int 1))))))
def zAV:FM:=runF 1 1 zCT
def zGP:SM:=(sRet 0 0 [1,0] (eAnd (eB neD (eB ixD (eV 0) (eC (.int 0))) (eB ixD (eV 0) (eC (.int 1)))) (eAnd (eB (dinD true) (eB ixD (eV 0) (eC (.int 0))) (eV 1)) (eB (dinD true) (eB ixD (eV 0) (eC (.int 1))) (eV 1)))))
def zC5:FM:=runF 2 2 zGP
def zN6:SM:=(sSeq (sIf (tB (eB neD (eBi lenD (aCons (eV 0) aNil)) (eC (.int 2)))) (sRet 1 1 [] (eC .non)) sNil)
  (sSeq (sSet 1 0 [0] (eMt findD (eSl (eC (.str "abcdefghijklmnopqrstuvwxyz")) oNo (oE (eC (.int 8)))) (aCons (eB ixD (eV 0) (eC (.int 0))) aNil)))
  (sSeq (sSet 2 0 [0] (eMt findD (eC (.str "0123")) (aCons (eB ixD (eV 0) (eC (.int 1))) aNil)))
  (sSeq (sIf (Mi.tOr (tB (eB (cmpD fun i j=>decide (i < j)) (eV 1) (eC (.int 0)))) (tB (eB (cmpD fun i j=>decide (i < j)) (eV 2) (eC (.int 0))))) (sRet 1 1 [] (eC .non)) sNil)
  (sRet 1 1 [2,1] (eB addD (eB mulD (eV 1) (eC (.int 4))) (eV 2)))))))
def zBZ:FM:=runF 1 3 zN6
def zHS:SM:=(sSeq (sSet 1 2 [0] (eComp (iSq (eMt splitD (eV 0) (aCons (eC (.str "-")) aNil))) 1 (.one 2) Mi.tYes (eCall zBZ (aCons (eV 2) aNil))))
  (sSeq (sIf (Mi.tOr (tB (eB neD (eBi lenD (aCons (eV 1) aNil)) (eC (.int 2)))) (tB (eB (inD false) (eC .non) (eV 1)))) (sRet 2 2 [] (eC .non)) sNil)
  (sRetV 2 1)))
def zBS:FM:=runF 1 2 zHS
def zF3:SM:=(sSeq (sSet 1 1 [0] (eMt splitD (eV 0) (aCons (eC (.str " ")) aNil)))
  (sSeq (sSet 2 1 [] eDct0)
  (sSeq (sFor [1] (iEn (aCons (eV 1) aNil)) (.tup [3,4]) (sSeq (sSet 5 2 [4] (eCallN zBS (aCons (eV 4) aNil)))
  (sSeq (sIf (Mi.tOr (tB (eB isD (eV 5) (eC .non))) (tNo (tM (eCallN zC5 (aCons (eV 5) (aCons (eV 2) aNil)))))) (sRaise "NoText" "at" (aCons (eV 3) aNil)) sNil)
  (sSeq (sDput 2 (eB ixD (eV 5) (eC (.int 0))) (eB ixD (eV 5) (eC (.int 1))))
  (sDput 2 (eB ixD (eV 5) (eC (.int 1))) (eB ixD (eV 5) (eC (.int 0))))))))
  (sSeq (sIf (tNo (tM (eCallN zAV (aCons (eBi dkeysD (aCons (eV 2) aNil)) aNil)))) (sRaise "NoText" "at" (aCons (eBi lenD (aCons (eV 1) aNil)) aNil)) sNil)
  (sRet 1 1 [2] (eComp (iR1 (aCons (eBi dlenD (aCons (eV 2) aNil)) aNil)) 1 (.one 6) Mi.tYes (eDIx (eV 2) (eV 6))))))))
def zB8:FM:=runF 1 6 zF3
def zDA:SM:=(sSeq (sIf (Mi.tOr (tB (eB neD (eBi lenD (aCons (eV 0) aNil)) (eC (.int 2)))) (Mi.tOr (tB (eB (inD true) (eB ixD (eV 0) (eC (.int 0))) (eC (.str "abcdefgh")))) (tB (eB (inD true) (eB ixD (eV 0) (eC (.int 1))) (eC (.str "0123")))))) (sRet 1 1 [] (eC .non)) sNil)
  (sRet 1 1 [0] (eB addD (eB mulD (eC (.int 4)) (eMt findD (eC (.str "abcdefgh")) (aCons (eB ixD (eV 0) (eC (.int 0))) aNil))) (eMt findD (eC (.str "0123")) (aCons (eB ixD (eV 0) (eC (.int 1))) aNil)))))
def zAM:FM:=runF 1 1 zDA
def zDB:SM:=(sSeq (sSet 1 1 [] eDct0)
  (sSeq (sSet 2 1 [0] (eMt splitD (eV 0) (aCons (eC (.str " ")) aNil)))
  (sSeq (sFor [2] (iEn (aCons (eV 2) aNil)) (.tup [3,4]) (sSeq (sSet 5 1 [4] (eCall zAM (aCons (eSl (eV 4) oNo (oE (eC (.int 2)))) aNil)))
  (sSeq (sSet 6 1 [4] (eCall zAM (aCons (eSl (eV 4) (oE (eC (.int 3))) oNo) aNil)))
  (sSeq (sIf (Mi.tOr (tB (eB isD (eV 5) (eC .non))) (Mi.tOr (tB (eB isD (eV 6) (eC .non))) (tB (eB neD (eSl (eV 4) (oE (eC (.int 2))) (oE (eC (.int 3)))) (eC (.str "-")))))) (sRet 2 1 [3] (eTup (aCons (eV 3) (aCons (eC .non) aNil)))) sNil)
  (sSeq (sIf (Mi.tOr (tB (eB eqD (eV 5) (eV 6))) (Mi.tOr (tB (eB (dinD false) (eV 5) (eV 1))) (tB (eB (dinD false) (eV 6) (eV 1))))) (sRet 2 1 [3] (eTup (aCons (eV 3) (aCons (eC .non) aNil)))) sNil)
  (sSeq (sDput 1 (eV 5) (eV 6))
  (sDput 1 (eV 6) (eV 5))))))))
  (sSeq (sIf (Mi.tOr (tB (eB neD (eB modD (eBi dlenD (aCons (eV 1) aNil)) (eC (.int 4))) (eC (.int 0)))) (tB (eB neD (eBi sodD (aCons (eV 1) aNil)) (eBi rangeD (aCons (eBi dlenD (aCons (eV 1) aNil)) aNil))))) (sRet 2 1 [2] (eTup (aCons (eBi lenD (aCons (eV 2) aNil)) (aCons (eC .non) aNil)))) sNil)
  (sRet 2 2 [1] (eTup (aCons (eC .non) (aCons (eComp (iR1 (aCons (eBi dlenD (aCons (eV 1) aNil)) aNil)) 1 (.one 7) Mi.tYes (eDIx (eV 1) (eV 7))) aNil))))))))
def zBV:FM:=runF 1 7 zDB
def zD3:SM:=(sSeq (sSet 2 0 [] (eC .non))
  (sSeq (sTry [0] none (eCall zB8 (aCons (eV 0) aNil)) ["RoundError","NoNet","NoText","NoWord","NoLetter","TooMany"] 3 (sSet 2 0 [3] (eV 3)))
  (sSeq (sIf (Mi.tOr (tNo (tM (eIsX ["NoText"] ["RoundError","NoNet","NoWord","NoLetter","TooMany"] (eV 2)))) (tNo (tM (eIsX ["RoundError","NoNet","NoText","NoWord","NoLetter","TooMany"] [] (eV 2))))) (sRet 0 0 [] (eC (.bl false))) sNil)
  (sSeq (sIf (tM (eIsX ["NoNet","NoWord","NoLetter","TooMany"] ["RoundError","NoText"] (eV 2))) (sRet 0 0 [] (eC (.bl false))) sNil)
  (sRet 0 0 [1,2] (eAnd (eCall zBT (aCons (eAtX ["NoNet","NoText","NoWord"] "at" (eV 2)) aNil)) (eB eqD (eAtX ["NoNet","NoText","NoWord"] "at" (eV 2)) (eV 1))))))))
def zAT:FM:=runF 2 4 zD3
def zDE:SM:=(sSeq (sSet 3 1 [0] (eMt splitD (eV 0) (aCons (eC (.str " ")) aNil)))
  (sSeq (sSet 4 0 [2,3] (eB modD (eV 2) (eBi lenD (aCons (eV 3) aNil))))
  (sSeq (sSet 5 0 [2,0] (eB modD (eV 2) (eB addD (eBi lenD (aCons (eV 0) aNil)) (eC (.int 1)))))
  (sSeq (sSet 6 0 [1] (eCall zBW (aCons (eB divD (eV 1) (eC (.int 16))) aNil)))
  (sSeq (sIf (tB (eB eqD (eB modD (eV 1) (eC (.int 4))) (eC (.int 1)))) (sSet 6 0 [1] (eB ixD (eC (.str "abcdefghi0123456 --")) (eB modD (eB divD (eV 1) (eC (.int 16))) (eC (.int 19))))) sNil)
  (sSeq (sSet 7 0 [1] (eB modD (eB divD (eV 1) (eC (.int 4))) (eC (.int 8))))
  (sSeq (sIf (tB (eB eqD (eV 7) (eC (.int 0)))) (sRet 0 0 [6,0,5] (eB addD (eB addD (eSl (eV 0) oNo (oE (eV 5))) (eV 6)) (eSl (eV 0) (oE (eV 5)) oNo))) sNil)
  (sSeq (sIf (tB (eB eqD (eV 7) (eC (.int 1)))) (sRet 0 0 [0,5] (eB addD (eSl (eV 0) oNo (oE (eV 5))) (eSl (eV 0) (oE (eB addD (eV 5) (eC (.int 1)))) oNo))) sNil)
  (sSeq (sIf (tB (eB eqD (eV 7) (eC (.int 2)))) (sRet 0 0 [6,0,5] (eB addD (eB addD (eSl (eV 0) oNo (oE (eV 5))) (eV 6)) (eSl (eV 0) (oE (eB addD (eV 5) (eC (.int 1)))) oNo))) sNil)
  (sSeq (sIf (tB (eB eqD (eV 7) (eC (.int 3)))) (sRet 0 0 [3,4] (eMt joinD (eC (.str " ")) (aCons (eB addD (eSl (eV 3) oNo (oE (eV 4))) (eSl (eV 3) (oE (eB addD (eV 4) (eC (.int 1)))) oNo)) aNil))) sNil)
  (sSeq (sSet 8 0 [3,1] (eB ixD (eV 3) (eB modD (eB divD (eV 1) (eC (.int 32))) (eBi lenD (aCons (eV 3) aNil)))))
  (sSeq (sIf (tB (eB eqD (eV 7) (eC (.int 4)))) (sRet 0 0 [3,8,4] (eMt joinD (eC (.str " ")) (aCons (eB addD (eB addD (eSl (eV 3) oNo (oE (eV 4))) (eLst (aCons (eV 8) aNil))) (eSl (eV 3) (oE (eV 4)) oNo)) aNil))) sNil)
  (sSeq (sSet 8 1 [3,4] (eB addD (eB addD (eSl (eB ixD (eV 3) (eV 4)) oNo (oE (eC (.int 2)))) (eC (.str "-"))) (eSl (eB ixD (eV 3) (eV 4)) oNo (oE (eC (.int 2))))))
  (sSeq (sIf (tB (eB eqD (eV 7) (eC (.int 5)))) (sRet 0 0 [3,8,4] (eMt joinD (eC (.str " ")) (aCons (eB addD (eB addD (eSl (eV 3) oNo (oE (eV 4))) (eLst (aCons (eV 8) aNil))) (eSl (eV 3) (oE (eB addD (eV 4) (eC (.int 1)))) oNo)) aNil))) sNil)
  (sSeq (sIf (tB (eB eqD (eV 7) (eC (.int 6)))) (sRet 0 0 [3] (eMt joinD (eC (.str " ")) (aCons (eComp (iSq (eV 3)) 1 (.one 9) (tB (eB (inD false) (eC (.str "a")) (eV 9))) (eV 9)) aNil))) sNil)
  (sRetV 0 0))))))))))))))))
def zBR:FM:=runF 3 9 zDE
def zKI:SM:=(sSeq (sSet 1 1 [0] (eCall zBB (aCons (eCall zCF (aCons (eCall zC6 (aCons (eV 0) (aCons (eC (.int 0)) aNil))) aNil)) (aCons (eCall zAN (aCons (eV 0) (aCons (eC (.int 3)) aNil))) aNil))))
  (sSeq (sSet 2 0 [1] (eMt joinD (eC (.str " ")) (aCons (eComp (iSq (eV 1)) 2 (.tup [6,7]) Mi.tYes (eB addD (eB addD (eCall zAJ (aCons (eV 6) aNil)) (eC (.str "-"))) (eCall zAJ (aCons (eV 7) aNil)))) aNil)))
  (sSeq (sForR (iR1 (aCons (eB modD (eCall zAN (aCons (eV 0) (aCons (eC (.int 4)) aNil))) (eC (.int 3))) aNil)) 3 (sSet 2 0 [2,0,3] (eCall zBR (aCons (eV 2) (aCons (eCall zAN (aCons (eV 0) (aCons (eB addD (eC (.int 5)) (eB mulD (eC (.int 2)) (eV 3))) aNil))) (aCons (eCall zAN (aCons (eV 0) (aCons (eB addD (eC (.int 6)) (eB mulD (eC (.int 2)) (eV 3))) aNil))) aNil))))))
  (sSeq (sUnp [4,5] [2] (eCall zBV (aCons (eV 2) aNil)))
  (sSeq (sIf (tB (eB isntD (eV 5) (eC .non))) (sRet 0 0 [5,2] (eCall zBI (aCons (eCall zB8 (aCons (eV 2) aNil)) (aCons (eV 5) aNil)))) sNil)
  (sRet 0 0 [2,4] (eAnd (eCall zAT (aCons (eV 2) (aCons (eV 4) aNil))) (eCall zAT (aCons (eV 2) (aCons (eV 4) aNil))))))))))
def zG9:FM:=runF 1 6 zKI
end
end Mp
namespace Mp
open Mi PySem
theorem zF6 (i:Int):zBT [.int i] = okR (.bl true):=by
  unfold zBT zF8
  simp [isiD,tyD]
theorem zK0 (n:Int):zC3 [.int n] = okR (.bl (decide (n % 4 = 0 ∧ 1 ≤ n / 4 ∧ n / 4 ≤ 8))):=by
  unfold zC3 zE7
  simp
  by_cases h1:n % 4 = 0 <;> by_cases h2:1 ≤ n / 4 <;> by_cases h3:n / 4 ≤ 8 <;> simp [h1,h2,h3,Dt.eq]
noncomputable def tied (ns:List Int) (k:Nat):Bool :=
  let x:=ns.getD k 0
  decide (0 ≤ x ∧ x < ns.length) && (decide (x ≠ k) && decide (ns.getD x.toNat 0 = k))
theorem zD9 (ns:List Int) (k:Int) (h0:0 ≤ k) (h1:k < 1000):∃ c:Int,0 ≤ c ∧ c < 2147483647 ∧ zAN [.scr ns,.int k] = okR (.int c):=by
  unfold zAN zGS
  by_cases hk:k < ns.length
  · simp [hk,zUC h0 hk]
    refine ⟨_,?_,?_,rfl⟩
    · exact qBi _ (by decide)
    · exact qBj _ (by decide)
  · simp [hk]
    refine ⟨_,?_,?_,rfl⟩
    · exact qBi _ (by decide)
    · exact qBj _ (by decide)
theorem zG6 (n:Nat):nums 0 n = ((qA4 n).map fun i:Nat=>(i:Int)).map Dt.int:=by
  unfold nums
  rw [qB1]
  exact qB2 fun i _=>by simp
theorem zN0 (ρ:Rh) (c:Nat) (ns:List Int) (h:ρ[c]? = some (some (.lst (ns.map .int)))) (hz:ns.length ≤ 100000):eComp (iSq (eV c)) 1 (.one ρ.length) tYes (eC (.int 0)) ρ = okR (.lst ((qA6 ns.length 0).map .int)):=by
  unfold eComp iSq
  simp only [x_eV,h,bindR_ok]
  rw [if_pos ⟨by simpa using hz,by simp [Tg.idx]⟩,zD7 (fun _=>.int 0) _ [] fun d hd=>⟨_,rfl,rfl,rfl⟩]
  have z:List.map ((fun _=>Dt.int 0) ∘ Dt.int) ns = qA6 ns.length (Dt.int 0):=by
    clear h hz
    induction ns with
    | nil=>rfl
    | cons a r ih=>rw [qAp,ih,qAi,List.replicate_succ]; rfl
  simp [z]
theorem zLP (ms:List Int) (q:Nat) (v:Int):(ms.map Dt.int).set q (.int v) = (ms.set q v).map Dt.int:=by
  rw [qEv]
theorem zMX (ms:List Int) (q:Nat):(ms.map Dt.int).eraseIdx q = (ms.eraseIdx q).map Dt.int:=by
  induction ms generalizing q with
  | nil=>rfl
  | cons a r ih =>
    cases q with
    | zero=>rfl
    | succ q=>simp [ih]
theorem zLU {r:Ro} {j i l:Nat} {ls:List Int} {e:EM} {z:Int} (h:r[i]? = some (some (.lst (ls.map .int),l + 1))) (he:e (full r) = okR (.int z)) (h0:0 ≤ z) (h1:z < ls.length) (hij:i ≠ j) (hle:ls.length ≤ 1000000) :
    sPop j i e r = okR (.nx ((r.set i (some (.lst ((ls.eraseIdx z.toNat).map .int),l + 1))).set j (some (.int (ls.getD z.toNat 0),l)))):=by
  have hi:ixA (ls.map Dt.int).length z = some z.toNat:=zOM h0 (by simpa using h1)
  have hg:(ls.map Dt.int)[z.toNat]? = some (.int (ls.getD z.toNat 0)):=by
    have:z.toNat < ls.length:=by omega
    rw [qAl,qAa this,qA3,qAa this]
    rfl
  unfold sPop
  rw [h]
  dsimp only
  rw [he,bindR_ok]
  dsimp only
  rw [hi]
  dsimp only
  rw [hg]
  dsimp only
  rw [if_pos ⟨hij,by simpa using hle⟩,zMX]
theorem zJV {r:Ro} {i n l:Nat} {ls:List Int} {e1 e2:EM} {z v:Int} (h:r[i]? = some (some (.lst (ls.map .int),l + 1))) (he2:e2 (full r) = okR (.int v)) (he1:e1 (full r) = okR (.int z)) (h0:0 ≤ z) (h1:z < ls.length) :
    sItem i n e1 e2 r = okR (.nx (r.set i (some (.lst ((ls.set z.toNat v).map .int),l + 1)))):=by
  have hi:ixA (ls.map Dt.int).length z = some z.toNat:=zOM h0 (by simpa using h1)
  unfold sItem
  rw [he2,bindR_ok,h]
  dsimp only
  rw [he1,bindR_ok]
  dsimp only
  rw [hi]
  dsimp only
  rw [if_pos ⟨qAy _,qAy _⟩,zLP]
theorem zN4 (xs ys:List Int) (hx:xs.length ≤ 1000) (hy:ys.length ≤ 1000):zBJ [.lst (xs.map .int),.lst (ys.map .int)] = okR (.lst ((xs ++ ys.map fun e:Int=>e + (xs.length:Int)).map .int)):=by
  have hc:eComp (iSq (eV 1)) 1 (.one 2) Mi.tYes (eB addD (eV 2) (eBi lenD (aCons (eV 0) aNil))) [some (.lst (xs.map .int)),some (.lst (ys.map .int))] = okR (.lst ((ys.map fun e=>e + (xs.length:Int)).map .int)):=by
    unfold eComp iSq
    simp only [x_eV,qDu,qCt,bindR_ok]
    rw [if_pos ⟨by simp; omega,by simp [Tg.idx]⟩,zD7 (fun d=>match d with | .int e=>.int (e + (xs.length:Int)) | d=>d) _ [] fun d hd=>by
      obtain ⟨e,_,rfl⟩:=qAs.mp hd
      exact ⟨_,rfl,rfl,by simp [zAR]⟩]
    simp
    rfl
  unfold zBJ zEU
  have hlen:xs.length + ys.length ≤ 100000:=by omega
  simp [hc,hlen]
end Mp
namespace Mi
open PySem
section
variable (ρ:Rh) (r:Ro) (a:EM) (am:AM)
@[simp] theorem x_tL:tL a ρ = zA2 (a ρ) fun x=>match x with | .bl k=>okR k | .int i=>okR (i != 0) | .non=>okR false | .lst xs=>okR (!xs.isEmpty) | .tup xs=>okR (!xs.isEmpty) | _=>none:=rfl
@[simp] theorem x_eMl (f:List Dt → List Dt → Option Dt):eMl f a am ρ = zA2 (a ρ) fun x=>match x with | .lst xs=>zA2 (am ρ) fun ds=>optR (f xs ds) | _=>none:=rfl
@[simp] theorem x_iRv:iRv am ρ = zA2 (am ρ) fun vs=>match vs with | [.lst xs]=>okR xs.reverse | _=>none:=rfl
@[simp] theorem v_xor (i j:Int):xorD (.int i) (.int j) = some (.int (Builtin.bitXor i j)):=rfl
@[simp] theorem v_rep (xs:List Dt) (k:Int):repD (.lst xs) (.int k) = @ite _ ((-4611686018427387904 ≤ k ∧ k < 4611686018427387904) ∧ xs.length * k.toNat ≤ 100000) (qA0 _) (some (.lst (qA6 k.toNat xs).flatten)) none:=rfl
end
end Mi
namespace Mi
open PySem
@[simp] theorem okR_inj {α:Type} {a b:α}:okR a = okR b ↔ a = b:=⟨fun h=>by cases h; rfl,fun h=>by rw [h]⟩
@[simp] theorem zRI (vs:List Nat) (it:IM) (tg:Tg) (b:SM) (r:Ro):sFor vs it tg b r = zA2 (it (frz (frzAt vs r))) fun ds=>forGo tg b ds (frzAt vs r):=rfl
@[simp] theorem zSY (it:IM) (i:Nat) (b:SM) (r:Ro):sForR it i b r = zA2 (it (full r)) fun ds=>forGo (.one i) b ds r:=rfl
@[simp] theorem zV3 (e:EM) (ρ:Rh):iSq e ρ = zA2 (e ρ) fun d=>match d with | .lst xs=>okR xs | .tup xs=>okR xs | .scr ns=>okR (ns.map .int) | .str z=>okR (signsD z) | _=>none:=rfl
@[simp] theorem x_iEn (e:AM) (ρ:Rh):iEn e ρ = zA2 (e ρ) fun vs=>match vs with | [.lst xs]=>okR (enumD 0 xs) | _=>none:=rfl
@[simp] theorem x_iZi (e:AM) (ρ:Rh):iZi e ρ = zA2 (e ρ) fun vs=>match vs with | [.lst xs,.lst ys]=>okR (zipD xs ys) | _=>none:=rfl
theorem zV4 {e:AM} {ρ:Rh} {n:Nat} (h:e ρ = okR [.int n]) (hn:n ≤ 100000):iR1 e ρ = okR (nums 0 n):=by
  unfold iR1
  rw [h,bindR_ok]
  dsimp only
  rw [if_pos (by omega)]
  simp
theorem zG6 (n:Nat):nums 0 n = ((qA4 n).map fun i:Nat=>(i:Int)).map Dt.int:=by
  unfold nums
  rw [qB1]
  exact qB2 fun i _=>by simp
theorem zIE (n:Nat):nums 0 n = (qA4 n).map fun i:Nat=>Dt.int (i:Int):=by
  unfold nums
  exact qB2 fun i _=>by simp
def nxR (x:R Out) (P:Ro → Prop):Prop:=match x with
  | some (.ok (.nx r))=>P r
  | _=>False
@[simp] theorem x_nxR (r:Ro) (P:Ro → Prop):nxR (okR (.nx r)) P = P r:=rfl
theorem zID {x:R Out} {P:Ro → Prop} (h:nxR x P):∃ r',x = okR (.nx r') ∧ P r':=by
  unfold nxR at h
  split at h
  · exact ⟨_,rfl,h⟩
  · exact h.elim
theorem zS3 {x:R Out} {P:Ro → Prop} {r:Ro} (h:x = okR (.nx r)) (hp:P r):nxR x P:=by rw [h]; exact hp
theorem zU5 {i j:Int} (h:-18446744073709551616 < i) (h':i < 18446744073709551616):mulD (.int i) (.int j) = some (.int (i * j)):=by
  rw [zT5,if_pos (.inl (.inl ⟨h,h'⟩))]
theorem zY7 {i j:Int} (h:-18446744073709551616 < j) (h':j < 18446744073709551616):mulD (.int i) (.int j) = some (.int (i * j)):=by
  rw [zT5,if_pos (.inl (.inr ⟨h,h'⟩))]
theorem zHQ {ρ:Rh} {c:TM} {e:EM} {i:Nat} (g:Nat → Dt) (n:Nat) (hc:c = tYes) (hi:i = ρ.length) (h:∀ k,k < n → e (ρ ++ [some (.int (k:Nat))]) = okR (g k)) (it:IM) (hit:it ρ = okR (nums 0 n)) (hn:n ≤ 100000):eComp it 1 (.one i) c e ρ = okR (.lst ((qA4 n).map g)):=by
  subst hc hi
  unfold eComp
  rw [hit,bindR_ok,if_pos ⟨by simpa [nums] using hn,by simp [Tg.idx]⟩]
  rw [zD7 (fun d=>match d with | .int k=>g k.toNat | _=>.non) _ [] fun d hd=>?_]
  · rw [bindR_ok,zIE,qB1]
    simp only [qFe]
    congr 2
  · rw [zIE] at hd
    obtain ⟨k,hk,rfl⟩:=qAs.mp hd
    refine ⟨_,rfl,rfl,?_⟩
    have:zAR (ρ ++ qA6 1 none) [(ρ.length,Dt.int (k:Int))] = ρ ++ [some (.int (k:Nat))]:=by
      simp [zAR]
    rw [this]
    simpa using h k (by simpa using hk)
theorem zC4 {P n:Nat} {b:SM} {ds:List Dt} {d:Dt} (h:ds.length = P) (hb:b (startO n ds) = okR (.rt d)):runF P n b ds = okR d:=by
  unfold runF
  rw [if_pos h,hb]; rfl
theorem zRS {P n:Nat} {b:SM} {ds:List Dt} {x:Xn} (h:ds.length = P) (hb:b (startO n ds) = some (.error x)):runF P n b ds = some (.error x):=by
  unfold runF
  rw [if_pos h,hb]; rfl
theorem zY6 {j n:Nat} {b:SM} {r:Ro} {X:Ro → Prop} (Pv:Nat → Ro → Prop) (h:Pv 0 r) (hs:∀ k,k < n → ∀ r,Pv k r → nxR (b (r.set j (some (.int (k:Nat),0)))) (Pv (k + 1))) (hK:∀ r',Pv n r' → X r'):nxR (forGo (.one j) b (nums 0 n) r) X:=by
  obtain ⟨r',h1,h2⟩:∃ r',forGo (.one j) b (nums 0 n) r = okR (.nx r') ∧ Pv n r':=by
    obtain ⟨r',h1,h2⟩:=zOW (tg:=.one j) (b:=b) Pv (nums 0 n) 0 r h fun k d r hd hp=>by
      rw [zIE,qAl] at hd
      cases e:(qA4 n)[k]? with
      | none=>rw [e] at hd; cases hd
      | some q =>
        rw [e] at hd
        cases hd
        obtain ⟨h1,h2⟩:=qA2.mp e
        rw [qDk] at h2
        subst h2
        rw [qEw] at hp
        obtain ⟨r',g1,g2⟩:=zID (hs k (by simpa using h1) r hp)
        exact ⟨_,r',rfl,g1,by rw [qEw]; exact g2⟩
    exact ⟨r',h1,by simpa [nums] using h2⟩
  rw [h1]
  exact hK r' h2
theorem zQE {c:TM} {b:SM} {r:Ro} {X:Ro → Prop} (Pv:Ro → Prop) (μ:Ro → Nat) (Rv:Ro → Prop) (h0:Pv r) (hm:μ r < 1000000) (hc:∀ r,Pv r → (c (full r) = okR false ∧ Rv r) ∨ (c (full r) = okR true ∧ nxR (b r) fun r'=>Pv r' ∧ μ r' < μ r)) (hK:∀ r',Rv r' → X r'):nxR (sWhile c b r) X:=by
  obtain ⟨r',h1,h2⟩:=zH9 Pv μ Rv h0 hm fun r hr=>(hc r hr).imp (fun z=>z) fun z=>⟨z.1,zID z.2⟩
  rw [h1]
  exact hK r' h2
theorem zJN:∀ (a b:List Char),a.map qGg = b.map qGg → a = b
  | [],[],_=>rfl
  | [],_ :: _,h=>by simp at h
  | _ :: _,[],h=>by simp at h
  | x :: r,y :: q,h=>by
    simp only [qAp,List.cons.injEq] at h
    rw [zJN r q h.2]
    have:x = y:=Char.toNat_inj.mp h.1
    rw [this]
@[simp] theorem str_inj (a b:String):(Str.ofString a = Str.ofString b) ↔ a = b:=by
  constructor
  · intro h
    rw [Str.ofString_eq_toList,Str.ofString_eq_toList] at h
    simp only [Str.mk.injEq,List.toArray_inj] at h
    have:=zJN _ _ (by simpa using h)
    exact String.toList_inj.mp this
  · intro h; rw [h]
theorem zM3:∀ (ds:List Dt) (n:Nat),(enumD n ds).length = ds.length
  | [],_=>rfl
  | _ :: r,n=>by rw [enumD,qAi,qAi,zM3 r]
theorem zNN (s:String):(Str.ofString s).length = s.length:=by
  rw [Str.ofString_eq_toList]
  simp [Str.length]
  rfl
end Mi
namespace Mi
open PySem
section
variable (ρ:Rh) (a:EM) (am:AM) (lo hi:OM)
@[simp] theorem zSZ:eSl a lo hi ρ = zA2 (a ρ) fun x=>zA2 (lo ρ) fun l=>zA2 (hi ρ) fun h=>optR (slD x l h):=rfl
@[simp] theorem zV2:oNo ρ = okR none:=rfl
@[simp] theorem x_oE:oE a ρ = zA2 (a ρ) fun d=>match d with | .int i=>okR (some i) | _=>none:=rfl
@[simp] theorem zV5 (f:Dt → List Dt → Option Dt):eMt f a am ρ = zA2 (a ρ) fun x=>if zCP x = true then zA2 (am ρ) fun xs=>optR (f x xs) else none:=rfl
@[simp] theorem v_isStr (z:Str):zCP (.str z) = true:=rfl
end
@[simp] theorem v_slL (xs:List Dt) (l h:Option Int):slD (.lst xs) l h = some (.lst (cutA xs l h)):=rfl
@[simp] theorem v_slS (z:Str) (l h:Option Int):slD (.str z) l h = @ite _ (z.length ≤ 100000) (qA0 _) (some (.str ⟨(cutA z.cps.toList l h).toArray⟩)) none:=rfl
@[simp] theorem v_ixSt (z:Str) (i:Int):ixD (.str z) (.int i) = @ite _ (z.length ≤ 100000) (qA0 _) ((itA z.cps.toList i).map fun c=>.str ⟨#[c]⟩) none:=rfl
@[simp] theorem v_lenSt (z:Str):lenD [.str z] = @ite _ (z.length ≤ 100000) (qA0 _) (some (.int z.length)) none:=rfl
@[simp] theorem v_count1 (z:Str) (c:Nat):zXF (.str z) [.str ⟨#[c]⟩] = some (.int (z.cps.toList.count c:Nat)):=rfl
@[simp] theorem v_in1 (ng:Bool) (z:Str) (c:Nat):inD ng (.str ⟨#[c]⟩) (.str z) = some (.bl (if ng = true then !decide (c ∈ z.cps.toList) else decide (c ∈ z.cps.toList))):=rfl
@[simp] theorem v_find1 (z:Str) (c:Nat):findD (.str z) [.str ⟨#[c]⟩] = some (.int (match posC c z.cps.toList with | some i=>(i:Int) | none=>-1)):=rfl
theorem zM8 {α:Type} (xs:List α) (k:Nat):cutA xs none (some (k:Int)) = xs.take k:=by
  unfold cutA cutIx
  simp only [qCx,Nat.sub_zero]
  rw [if_neg (by omega)]
  by_cases h:k ≤ xs.length
  · rw [show min (k:Int).toNat xs.length = k by omega]
  · rw [show min (k:Int).toNat xs.length = xs.length by omega,qF3,qE3 (by omega)]
theorem zEP {α:Type} (xs:List α) (k:Nat):cutA xs (some (k:Int)) none = xs.drop k:=by
  unfold cutA cutIx
  dsimp only
  rw [if_neg (by omega)]
  by_cases h:k ≤ xs.length
  · rw [show min (k:Int).toNat xs.length = k by omega]
    exact qE3 (by simp)
  · rw [show min (k:Int).toNat xs.length = xs.length by omega]
    simp
    omega
theorem zI0 (a b:Str):(a ++ b).cps.toList = a.cps.toList ++ b.cps.toList:=by
  show (Str.mk (a.cps ++ b.cps)).cps.toList = _
  simp
theorem zC0 (z:Str):z.length = z.cps.toList.length:=by
  unfold Str.length
  simp
theorem zOF (l:List Nat):(Str.mk l.toArray).length = l.length:=by rw [zC0]
end Mi
namespace Mi
open PySem
end Mi
namespace Mp
open Mi PySem
theorem sg {i n:Nat} {vs:List Nat} {e:EM} {b:SM} {r:Ro} {d:Dt} {X:R Out} (he:e (full r) = okR d) (hd:d.dep ≤ n) (h:b (r.set i (some (d,n))) = X):sSeq (sSet i n vs e) b r = X:=by
  rw [zAP,zFL,he,bindR_ok,if_pos hd,bindR_ok]; exact h
theorem sp {c:TM} {a b:SM} {r:Ro} {X:R Out} (hc:c (full r) = okR false) (h:b r = X):sSeq (sIf c a sNil) b r = X:=by
  rw [zAP,zPP,hc,bindR_ok,if_neg (by simp),zRH,bindR_ok]; exact h
theorem st {c:TM} {a b:SM} {r r':Ro} {X:R Out} (hc:c (full r) = okR true) (ha:a r = okR (.nx r')) (h:b r' = X):sSeq (sIf c a sNil) b r = X:=by
  rw [zAP,zPP,hc,bindR_ok,if_pos rfl,ha,bindR_ok]; exact h
theorem su {is vs:List Nat} {e:EM} {b:SM} {r:Ro} {ds:List Dt} {X:R Out} (he:e (frz (frzAt vs r)) = okR (.tup ds)) (hl:ds.length = is.length) (h:b (zB4 (frzAt vs r) (is.zip ds)) = X):sSeq (sUnp is vs e) b r = X:=by
  rw [zAP]
  unfold sUnp
  rw [he,bindR_ok,zAZ,if_pos hl]
  exact h
theorem c2 {m:FM} {e1 e2:EM} {ρ:Rh} {d1 d2:Dt} {X:R Dt} (h1:e1 ρ = okR d1) (h2:e2 ρ = okR d2) (h:m [d1,d2] = X):eCall m (aCons e1 (aCons e2 aNil)) ρ = X:=by
  simp only [zHU,zCC,zED,h1,h2,bindR_ok]; exact h
theorem c1 {m:FM} {e1:EM} {ρ:Rh} {d1:Dt} {X:R Dt} (h1:e1 ρ = okR d1) (h:m [d1] = X):eCall m (aCons e1 aNil) ρ = X:=by
  simp only [zHU,zCC,zED,h1,bindR_ok]; exact h
theorem c4 {m:FM} {e1 e2 e3 e4:EM} {ρ:Rh} {d1 d2 d3 d4:Dt} {X:R Dt} (h1:e1 ρ = okR d1) (h2:e2 ρ = okR d2) (h3:e3 ρ = okR d3) (h4:e4 ρ = okR d4) (h:m [d1,d2,d3,d4] = X):eCall m (aCons e1 (aCons e2 (aCons e3 (aCons e4 aNil)))) ρ = X:=by
  simp only [zHU,zCC,zED,h1,h2,h3,h4,bindR_ok]; exact h
theorem b2 {o:Dt → Dt → Option Dt} {e1 e2:EM} {ρ:Rh} {d1 d2 d:Dt} (h1:e1 ρ = okR d1) (h2:e2 ρ = okR d2) (h:o d1 d2 = some d):eB o e1 e2 ρ = okR d:=by
  rw [x_eB,h1,bindR_ok,h2,bindR_ok,h]; rfl
theorem bi1 {o:List Dt → Option Dt} {e1:EM} {ρ:Rh} {d1 d:Dt} (h1:e1 ρ = okR d1) (h:o [d1] = some d):eBi o (aCons e1 aNil) ρ = okR d:=by
  simp only [zT0,zCC,zED,h1,bindR_ok,h]; rfl
theorem el1 {e1:EM} {ρ:Rh} {d1:Dt} (h1:e1 ρ = okR d1):eLst (aCons e1 aNil) ρ = okR (.lst [d1]):=by simp [h1]
theorem tb1 {e:EM} {ρ:Rh} {k:Bool} (h:e ρ = okR (.bl k)):tB e ρ = okR k:=by rw [x_tB,h,bindR_ok]
theorem to0 {t t':TM} {ρ:Rh} {k:Bool} (h:t ρ = okR false) (h':t' ρ = okR k):Mi.tOr t t' ρ = okR k:=by rw [zV0,h,bindR_ok,if_neg (by simp),h']
theorem to1 {t t':TM} {ρ:Rh} (h:t ρ = okR true):Mi.tOr t t' ρ = okR true:=by rw [zV0,h,bindR_ok,if_pos rfl]
theorem ta1 {t t':TM} {ρ:Rh} {k:Bool} (h:t ρ = okR true) (h':t' ρ = okR k):tAn t t' ρ = okR k:=by rw [zV1,h,bindR_ok,if_pos rfl,h']
theorem ta0 {t t':TM} {ρ:Rh} (h:t ρ = okR false):tAn t t' ρ = okR false:=by rw [zV1,h,bindR_ok,if_neg (by simp)]
theorem ss {i n:Nat} {vs:List Nat} {e:EM} {r:Ro} {d:Dt} (he:e (full r) = okR d) (hd:d.dep ≤ n):sSet i n vs e r = okR (.nx (r.set i (some (d,n)))):=by
  rw [zFL,he,bindR_ok,if_pos hd]
theorem sr {L n:Nat} {vs:List Nat} {e:EM} {r:Ro} {d:Dt} (he:e (full r) = okR d) (hd:d.dep ≤ n ∧ d.dep ≤ L):sRet L n vs e r = okR (.rt d):=by
  rw [zLK,he,bindR_ok,if_pos hd]
theorem tl {k k':Bool} {x:Option Dt} (h:x = some (.bl k)) (e:k = k'):x = some (.bl k'):=e ▸ h
theorem sl0 {a b:EM} {ρ:Rh} {x d:Dt} {i:Int} (h1:a ρ = okR x) (h2:b ρ = okR (.int i)) (h:slD x none (some i) = some d):eSl a oNo (oE b) ρ = okR d:=by
  rw [zSZ,h1,bindR_ok,zV2,bindR_ok,x_oE,h2,bindR_ok,bindR_ok,h]; rfl
theorem sl1 {a b:EM} {ρ:Rh} {x d:Dt} {i:Int} (h1:a ρ = okR x) (h2:b ρ = okR (.int i)) (h:slD x (some i) none = some d):eSl a (oE b) oNo ρ = okR d:=by
  rw [zSZ,h1,bindR_ok,x_oE,h2,bindR_ok,bindR_ok,zV2,bindR_ok,h]; rfl
theorem sl2 {a b c:EM} {ρ:Rh} {x d:Dt} {i j:Int} (h1:a ρ = okR x) (h2:b ρ = okR (.int i)) (h3:c ρ = okR (.int j)) (h:slD x (some i) (some j) = some d):eSl a (oE b) (oE c) ρ = okR d:=by
  rw [zSZ,h1,bindR_ok,x_oE,h2,bindR_ok,bindR_ok,x_oE,h3,bindR_ok,bindR_ok,h]; rfl
theorem sf {c:TM} {a:SM} {r:Ro} (hc:c (full r) = okR false):sIf c a sNil r = okR (.nx r):=by
  rw [zPP,hc,bindR_ok,if_neg (by simp),zRH]
theorem et2 {e1 e2:EM} {ρ:Rh} {d1 d2:Dt} (h1:e1 ρ = okR d1) (h2:e2 ρ = okR d2):eTup (aCons e1 (aCons e2 aNil)) ρ = okR (.tup [d1,d2]):=by simp [h1,h2]
theorem mt1 {f:Dt → List Dt → Option Dt} {a e:EM} {ρ:Rh} {x y d:Dt} (h1:a ρ = okR x) (hs:zCP x = true) (h2:e ρ = okR y) (h:f x [y] = some d):eMt f a (aCons e aNil) ρ = okR d:=by
  rw [zV5,h1,bindR_ok,if_pos hs,zCC,h2,bindR_ok,zED,bindR_ok,bindR_ok,h]; rfl
theorem eqi {e1 e2:EM} {ρ:Rh} {a b:Int} {k:Bool} (h1:e1 ρ = okR (.int a)) (h2:e2 ρ = okR (.int b)) (h:decide (a = b) = k):tB (eB eqD e1 e2) ρ = okR k:=by
  refine tb1 (b2 h1 h2 ?_)
  rw [← h]
  simp [Dt.eq]
  rfl
theorem nei {e1 e2:EM} {ρ:Rh} {a b:Int} {k:Bool} (h1:e1 ρ = okR (.int a)) (h2:e2 ρ = okR (.int b)) (h:(!decide (a = b)) = k):tB (eB neD e1 e2) ρ = okR k:=by
  refine tb1 (b2 h1 h2 ?_)
  rw [← h]
  simp [Dt.eq]
  rfl
theorem sx {c:TM} {a b:SM} {r:Ro} {d:Dt} (hc:c (full r) = okR true) (ha:a r = okR (.rt d)):sSeq (sIf c a sNil) b r = okR (.rt d):=by
  rw [zAP,zPP,hc,bindR_ok,if_pos rfl,ha,bindR_ok]
theorem si {c:TM} {a b:SM} {r r':Ro} {k:Bool} {X:R Out} (hc:c (full r) = okR k) (ht:k = true → a r = okR (.nx r')) (hf:k = false → r = r') (h:b r' = X):sSeq (sIf c a sNil) b r = X:=by
  cases k with
  | true=>exact st hc (ht rfl) h
  | false=>exact sp hc (by rw [hf rfl]; exact h)
theorem zUK {α:Type} {P:α → Prop} {f:α → R Out} {A B:R Out} (h:∀ X,B = X → A = X) (hb:∃ l,P l ∧ B = f l):∃ l,P l ∧ A = f l:=let ⟨l,p,e⟩:=hb; ⟨l,p,h _ e⟩
theorem mdi {i j k:Int} (h:0 < j) (e:i % j = k):modD (.int i) (.int j) = some (.int k):=by rw [← e]; exact if_pos h
theorem dvi {i j:Int} (h:0 < j ∧ j < 1000000000000000000000000):divD (.int i) (.int j) = some (.int (i / j)):=@if_pos _ (qA0 _) h _ _ _
theorem c3 {m:FM} {e1 e2 e3:EM} {ρ:Rh} {d1 d2 d3:Dt} {X:R Dt} (h1:e1 ρ = okR d1) (h2:e2 ρ = okR d2) (h3:e3 ρ = okR d3) (h:m [d1,d2,d3] = X):eCall m (aCons e1 (aCons e2 (aCons e3 aNil))) ρ = X:=by
  simp only [zHU,zCC,zED,h1,h2,h3,bindR_ok]; exact h
theorem v1 {i:Nat} {ρ:Rh} {d:Dt} (h:ρ[i]? = some (some d)):eV i ρ = okR d:=by rw [x_eV,h]
theorem k1 {d d':Dt} {ρ:Rh} (h:d = d'):eC d ρ = okR d':=by rw [← h]; rfl
noncomputable def rowD (r:List Int):Dt:=.lst (r.map .int)
def mat (A:List (List Int)):Dt:=.lst (A.map rowD)
@[simp] theorem zCI (r:List Int):(rowD r).dep = 1:=by simp [rowD]
@[simp] theorem lenR (r:List Int):lenD [rowD r] = some (.int r.length):=by
  show some (Dt.int ((r.map Dt.int).length:Int)) = _
  rw [qAm]
@[simp] theorem listR (r:List Int):listD [rowD r] = some (rowD r):=rfl
@[simp] theorem lenM (A:List (List Int)):lenD [mat A] = some (.int A.length):=by
  show some (Dt.int ((A.map rowD).length:Int)) = _
  rw [qAm]
theorem zSF (a b:List Int):Dt.eq (rowD a) (rowD b) = decide (a = b):=by
  unfold rowD
  rw [v_e4,zFI]
def Bit (x:Int):Prop:=x = 0 ∨ x = 1
def RowN (n:Nat) (r:List Int):Prop:=r.length = n ∧ ∀ x ∈ r,Bit x
theorem zUH {ds:List Dt} (h:∀ d ∈ ds,d.dep = 0):Dt.depL ds = 0:=by
  induction ds with
  | nil=>simp
  | cons a r ih=>rw [zFO,h a (by simp),ih fun d hd=>h d (by simp [hd])]; rfl
noncomputable def zWO (i:Nat) (r:Ro):Nat:=match r[i]? with
  | some (some (Dt.lst lf,_))=>lf.length
  | _=>0
noncomputable def numL (ks:List Nat):List Int:=ks.map fun k:Nat=>(k:Int)
noncomputable def sub (ks:List Nat) (f:Nat → Nat → Int):Nat → Nat → Int:=fun a b=>f (ks.getD a 0) (ks.getD b 0)
theorem zGG (l:List Int):intsD (l.map Dt.int) = some l:=by
  induction l with
  | nil=>rfl
  | cons a r ih=>simp [intsD,ih]
noncomputable def sgn (c:Nat):Dt:=.str ⟨#[c]⟩
theorem zQV (cs:List Nat):∀ d ∈ cs.map sgn,d.dep = 0:=by
  intro d hd
  obtain ⟨c,_,rfl⟩:=qAs.mp hd
  rfl
@[simp] theorem depL_sgn (cs:List Nat):Dt.depL (cs.map sgn) = 0:=zUH (zQV cs)
end Mp
namespace Mp
end Mp
namespace Mp
open Mi PySem
theorem zHG {α:Type} [DecidableEq α]:∀ (l1 l2:List α),l1.Nodup → (∀ x ∈ l1,x ∈ l2) → l1.length ≤ l2.length
  | [],_,_,_=>by simp
  | a :: r,l2,h,hs=>by
    have ha:=hs a (by simp)
    rw [qBa] at h
    have:=zHG r (l2.erase a) h.2 fun x hx=>(List.mem_erase_of_ne (fun z:x = a=>h.1 (by rw [← z]; exact hx))).mpr (hs x (by simp [hx]))
    rw [List.length_erase_of_mem ha] at this
    have:=List.length_pos_of_mem ha
    simp
    omega
end Mp
namespace FW
structure NetL (ns:List Int) (n:Nat):Prop where
  len:ns.length = n
  tie:∀ i:Nat,i < n → ∃ j:Nat,j < n ∧ j ≠ i ∧ ns[i]? = some (j:Int) ∧ ns[j]? = some (i:Int)
structure Part (left:List Nat) (ns:List Int) (n:Nat):Prop where
  len:ns.length = n
  nd:left.Nodup
  lt:∀ i ∈ left,i < n
  ev:left.length % 2 = 0
  tie:∀ i:Nat,i < n → i ∉ left → ∃ j:Nat,j < n ∧ j ∉ left ∧ j ≠ i ∧ ns[i]? = some (j:Int) ∧ ns[j]? = some (i:Int)
theorem Part.start (n:Nat) (h:n % 2 = 0):Part (qA4 n) (qA6 n 0) n :=
  ⟨by simp,qE1,fun i hi=>qAq.mp hi,by simpa using h,fun i hi hn=>absurd (qAq.mpr hi) hn⟩
theorem Part.done {ns:List Int} {n:Nat} (h:Part [] ns n):NetL ns n:=⟨h.len,fun i hi=>by
  obtain ⟨j,h1,_,h2,h3,h4⟩:=h.tie i hi (by simp)
  exact ⟨j,h1,h2,h3,h4⟩⟩
theorem zG8 {l:List Nat} {k:Nat} {x:Nat}:x ∈ l.eraseIdx k → x ∈ l:=fun h=>List.mem_of_mem_eraseIdx h
theorem zEJ:∀ {l:List Nat} {k:Nat} {b:Nat},l.Nodup → l[k]? = some b → b ∉ l.eraseIdx k
  | [],_,_,_,h=>by simp at h
  | a :: r,0,b,nd,h=>by
    simp at h; subst h
    simpa using (qBa.mp nd).1
  | a :: r,k + 1,b,nd,h=>by
    obtain ⟨h1,h2⟩:=qBa.mp nd
    have h':r[k]? = some b:=by simpa using h
    intro hm
    simp only [qC1] at hm
    rcases qA9.mp hm with e | hm
    · subst e; exact h1 (qBd h')
    · exact zEJ h2 h' hm
theorem zF4:∀ {l:List Nat} {k:Nat} {b x:Nat},l[k]? = some b → x ∈ l → x ≠ b → x ∈ l.eraseIdx k
  | [],_,_,_,h,_,_=>by simp at h
  | a :: r,0,b,x,h,hx,hne=>by
    simp at h; subst h
    rcases qA9.mp hx with e | hx
    · exact absurd e hne
    · simpa using hx
  | a :: r,k + 1,b,x,h,hx,hne=>by
    have h':r[k]? = some b:=by simpa using h
    simp only [qC1]
    rcases qA9.mp hx with e | hx
    · exact qA9.mpr (.inl e)
    · exact qA9.mpr (.inr (zF4 h' hx hne))
theorem len_erase {l:List Nat} {k:Nat} (h:k < l.length):(l.eraseIdx k).length + 1 = l.length:=by
  rw [qDe h]; omega
theorem Part.turn {a b k:Nat} {l:List Nat} {ns:List Int} {n:Nat} (h:Part (a :: l) ns n) (hb:l[k]? = some b):Part (l.eraseIdx k) ((ns.set a (b:Int)).set b (a:Int)) n:=by
  obtain ⟨ha,nd⟩:=qBa.mp h.nd
  have hk:k < l.length:=(qA2.mp hb).1
  have hbl:b ∈ l:=qBd hb
  have hab:a ≠ b:=fun e=>ha (e ▸ hbl)
  have han:a < n:=h.lt a (by simp)
  have hbn:b < n:=h.lt b (by simp [hbl])
  have hl:=h.len
  refine ⟨by simp [hl],nd.sublist (List.eraseIdx_sublist l k),fun i hi=>h.lt i (qAh _ (zG8 hi)),?_,fun i hi hn=>?_⟩
  · have e:=h.ev
    have:=len_erase hk
    simp at e
    omega
  · have nb:b ∉ l.eraseIdx k:=zEJ nd hb
    have na:a ∉ l.eraseIdx k:=fun z=>ha (zG8 z)
    by_cases e1:i = a
    · subst e1
      refine ⟨b,hbn,nb,fun z=>hab z.symm,?_,?_⟩
      · rw [qAk (fun z=>hab z.symm),qAj (by omega)]
      · rw [qAj (by simp [hl]; omega)]
    · by_cases e2:i = b
      · subst e2
        refine ⟨a,han,na,hab,?_,?_⟩
        · rw [qAj (by simp [hl]; omega)]
        · rw [qAk (fun z=>hab z.symm),qAj (by omega)]
      · have hi':i ∉ a :: l:=fun z=>by
          rcases qA9.mp z with z | z
          · exact e1 z
          · exact hn (zF4 hb z e2)
        obtain ⟨j,hj,hjl,hji,g1,g2⟩:=h.tie i hi hi'
        have ja:j ≠ a:=fun z=>hjl (by simp [z])
        have jb:j ≠ b:=fun z=>hjl (by simp [z,hbl])
        refine ⟨j,hj,fun z=>hjl (qAh _ (zG8 z)),hji,?_,?_⟩
        · rw [qAk (fun z=>e2 z.symm),qAk (fun z=>e1 z.symm)]; exact g1
        · rw [qAk (fun z=>jb z.symm),qAk (fun z=>ja z.symm)]; exact g2
end FW
namespace Mp
open Mi PySem
noncomputable def itr (f:Nat → Nat):Nat → Nat → Nat
  | 0,x=>x
  | k + 1,x=>f (itr f k x)
noncomputable def jn (cs:List Nat) (e:Nat):Nat:=e / 4 * 4 + (e % 4 ^^^ (cs.getD (e / 4) 0 + 1))
noncomputable def nt (ts:List Nat) (e:Nat):Nat:=ts.getD e 0
structure NetN (ts:List Nat) (M:Nat):Prop where
  len:ts.length = M
  lt:∀ e,e < M → nt ts e < M
  inv:∀ e,e < M → nt ts (nt ts e) = e
def stp (ts cs:List Nat) (e:Nat):Nat:=nt ts (jn cs e)
def zVO (R:List (List Nat)):Dt:=.lst (R.map fun l=>rowD (numL l))
theorem zLB {ρ:Rh} {e:EM} {c:TM} {i j:Nat} (xs:List Dt) (g:Nat → Dt) (f:Nat → Bool) (hi:i = ρ.length) (hj:j = ρ.length + 1) (it:IM) (hit:it ρ = okR (enumD 0 xs)) (hn:xs.length ≤ 100000) (hc:∀ k x,xs[k]? = some x → c (ρ ++ [some (.int (k:Nat)),some x]) = okR (f k)) (h:∀ k x,xs[k]? = some x → e (ρ ++ [some (.int (k:Nat)),some x]) = okR (g k)):eComp it 2 (.tup [i,j]) c e ρ = okR (.lst (((qA4 xs.length).filter f).map g)):=by
  subst hi hj
  unfold eComp
  rw [hit,bindR_ok,if_pos ⟨by rw [zM3]; exact hn,by simp [Tg.idx]⟩]
  have go:∀ (m k:Nat) (acc:List Dt),k + m = xs.length → compGo ρ 2 (.tup [ρ.length,ρ.length + 1]) c e (enumD k (xs.drop k)) acc = okR (acc ++ ((qF9 k m).filter f).map g):=by
    intro m
    induction m with
    | zero =>
      intro k acc hk
      rw [List.drop_of_length_le (by omega)]
      simp [enumD,compGo]
    | succ m ih =>
      intro k acc hk
      have hx:xs[k]? = some xs[k]:=qAa (by omega)
      rw [qBh (by omega),enumD,compGo]
      have es:zAR (ρ ++ qA6 2 none) [(ρ.length,.int (k:Nat)),(ρ.length + 1,xs[k])] = ρ ++ [some (.int (k:Nat)),some xs[k]]:=by
        simp [zAR]
      show zA2 (c (zAR (ρ ++ qA6 2 none) [(ρ.length,.int (k:Nat)),(ρ.length + 1,xs[k])])) _ = _
      rw [es,hc k _ hx,bindR_ok,List.range'_succ]
      cases hf:f k with
      | true =>
        rw [if_pos rfl]
        show zA2 (e (zAR (ρ ++ qA6 2 none) [(ρ.length,.int (k:Nat)),(ρ.length + 1,xs[k])])) _ = _
        rw [es,h k _ hx,bindR_ok,ih (k + 1) _ (by omega),qDv hf]
        simp
      | false =>
        rw [if_neg (by simp),ih (k + 1) _ (by omega),qDw (by simp [hf])]
  have:=go xs.length 0 [] (by omega)
  rw [qCx] at this
  rw [this,bindR_ok,List.range_eq_range']
  simp
theorem zI8 {c:Nat}:∀ {l:List Nat},c ∈ l → posC c l = some (l.idxOf c)
  | a :: r,h=>by
    show (if a = c then some 0 else (posC c r).map (· + 1)) = _
    by_cases z:a = c
    · subst z; simp
    · have:=zI8 (l:=r) ((qA9.mp h).elim (fun y=>absurd y.symm z) fun y=>y)
      rw [if_neg z,this,List.idxOf_cons,show (a == c) = false by simpa using z]
      rfl
theorem zQW {c:Nat} {cs:List Nat} (h:c ∈ cs):findD (.str ⟨cs.toArray⟩) [sgn c] = some (.int (cs.idxOf c:Nat)):=by
  show some (Dt.int (match posC c cs with | some i=>(i:Int) | none=>-1)) = _
  rw [zI8 h]
theorem zHK {cs:List Nat} {k:Nat} (h:k < cs.length) (hz:cs.length ≤ 1000):ixD (.str ⟨cs.toArray⟩) (.int (k:Int)) = some (sgn (cs.getD k 0)):=by
  show (@ite _ ((Str.mk cs.toArray).length ≤ 100000) (qA0 _) ((itA cs (k:Int)).map fun c=>Dt.str ⟨#[c]⟩) none) = _
  rw [if_pos (by rw [zOF]; omega),zJW (j:=k) (v:=cs.getD k 0) rfl (by rw [qA3,qAa h]; rfl)]
  rfl
structure Twice (n:Nat) (row:List Nat):Prop where
  len:row.length = 2 * n
  cnt:∀ v,row.count v = if v < n then 2 else 0
section
variable {n:Nat} {row:List Nat} (t:Twice n row)
include t
end
end Mp
namespace Mp
open Mi PySem
noncomputable def addB:List Int → List Int → List Int
  | a :: r,b :: s=>(a + b) % 2 :: addB r s
  | _,_=>[]
noncomputable def dot:List Int → List Int → Int
  | a :: r,b :: x=>a * b + dot r x
  | _,_=>0
def Ker (A:List (List Int)) (x:List Int):Prop:=∀ r ∈ A,dot r x % 2 = 0
noncomputable def ent (A:List (List Int)) (i k:Nat):Int:=(A.getD i []).getD k 0
theorem getD_mem {α:Type} {l:List α} {d:α} {i:Nat} (h:i < l.length):l.getD i d ∈ l:=by
  rw [qA3,qAa h]; simp
theorem mem_getD {α:Type} {l:List α} {d x:α} (h:x ∈ l):∃ i,i < l.length ∧ l.getD i d = x:=by
  obtain ⟨i,hi,rfl⟩:=List.mem_iff_getElem.mp h
  exact ⟨i,hi,by simp [qA3,qAa hi]⟩
def oth (A:List (List Int)) (c:Nat) (lead:List Int):List (List Int):=A.map fun r=>if r.getD c 0 = 1 then addB r lead else r
section
variable {A:List (List Int)} {c t m:Nat} (hm:∀ r ∈ A,RowN m r) (ht:t < A.length) (hc:c ≤ t) (hl:ent A t c = 1) (hcm:c < m)
include hm ht in
include hm ht hc in
include ht hc in
include hm ht hc in
end
def zYG (A:List (List Int)) (c:Nat):Prop:=∀ i k,i < A.length → k < c → ent A i k = if i = k then 1 else 0
structure Rk (n:Nat) (T A:List (List Int)) (p q:Nat):Prop where
  rows:∀ r ∈ A,RowN n r
  zero:∀ r ∈ A,∀ k,k < p → r.getD k 0 = 0
  le:q ≤ p
  all:q = p → ∀ x,RowN n x → Ker T x → Ker A x ∧ ((∀ j,p ≤ j → x.getD j 0 = 0) → ∀ j,x.getD j 0 = 0)
  some:q < p → ∃ x,RowN n x ∧ Ker T x ∧ ∃ j,j < n ∧ x.getD j 0 = 1
  lift:∀ x,RowN n x → Ker A x → ∃ y,RowN n y ∧ Ker T y ∧ ∀ j,p ≤ j → y.getD j 0 = x.getD j 0
end Mp
namespace Mp
open Mi PySem
theorem zD8 {ρ:Rh} {c:TM} {e:EM} {i:Nat} {β:Type} (en:β → Dt) (g:β → Dt) (f:β → Bool) (ns:List β) (hi:i = ρ.length) (hc:∀ k,k ∈ ns → c (ρ ++ [some (en k)]) = okR (f k)) (h:∀ k,k ∈ ns → f k = true → e (ρ ++ [some (en k)]) = okR (g k)) (it:IM) (hit:it ρ = okR (ns.map en)) (hn:ns.length ≤ 100000):eComp it 1 (.one i) c e ρ = okR (.lst ((ns.filter f).map g)):=by
  subst hi
  unfold eComp
  rw [hit,bindR_ok,if_pos ⟨by simpa using hn,by simp [Tg.idx]⟩]
  have go:∀ (l:List β) (acc:List Dt),(∀ k ∈ l,k ∈ ns) → compGo ρ 1 (.one ρ.length) c e (l.map en) acc = okR (acc ++ (l.filter f).map g):=by
    intro l
    induction l with
    | nil=>intro acc _; simp [compGo]
    | cons a r ih =>
      intro acc hl
      have h1:=hc a (hl a (by simp))
      have h2:=h a (hl a (by simp))
      have ih':=fun acc=>ih acc fun k hk=>hl k (by simp [hk])
      have es:zAR (ρ ++ qA6 1 none) [(ρ.length,en a)] = ρ ++ [some (en a)]:=by
        simp [zAR]
      rw [qAp,compGo]
      show zA2 (c (zAR (ρ ++ qA6 1 none) [(ρ.length,en a)])) _ = _
      rw [es,h1,bindR_ok]
      cases hf:f a with
      | true =>
        rw [if_pos rfl]
        rw [h2 hf,bindR_ok,ih',qDv hf]
        simp
      | false =>
        rw [if_neg (by simp),ih',qDw (by simp [hf])]
  rw [go _ _ fun k hk=>hk,bindR_ok]
  simp
noncomputable def zXO (n i:Nat):List Int:=(qA4 n).map fun j=>if j = i then 1 else 0
def aug (n:Nat) (T:List (List Int)):List (List Int):=(qA4 n).map fun i=>T.getD i [] ++ zXO n i
structure Un (n:Nat) (T A:List (List Int)) (c:Nat):Prop where
  len:A.length = n
  rows:∀ r ∈ A,RowN (n + n) r
  unit:zYG A c
  ker:∀ x,(∀ y ∈ x,Bit y) → (Ker A x ↔ Ker (aug n T) x)
theorem zSD {α β:Type} (f:α → β):∀ (l:List α) (i:Nat),(l.map f).eraseIdx i = (l.eraseIdx i).map f
  | [],_=>rfl
  | a :: r,0=>rfl
  | a :: r,i + 1=>by simp [zSD f r i]
theorem zE0 {z:Str} {l:List Nat} (h:z.cps.toList = l):z = ⟨l.toArray⟩:=by
  cases z with
  | mk a=>subst h; simp
theorem add_str {a b:List Nat} (h:a.length + b.length ≤ 1000):addD (.str ⟨a.toArray⟩) (.str ⟨b.toArray⟩) = some (.str ⟨(a ++ b).toArray⟩):=by
  rw [zV6,if_pos (by rw [zOF,zOF]; omega)]
  congr 2
  exact zE0 (by rw [zI0])
theorem zXQ {ns:List Int} {M:Nat} (h:FW.NetL ns M):∃ ts:List Nat,numL ts = ns ∧ NetN ts M:=by
  have key:∀ i,i < M → ∃ j:Nat,j < M ∧ ns[i]? = some (j:Int) ∧ ns[j]? = some (i:Int):=fun i hi=>by
    obtain ⟨j,h1,_,h2,h3⟩:=h.tie i hi
    exact ⟨j,h1,h2,h3⟩
  have hnt:∀ (i j:Nat),ns[i]? = some (j:Int) → nt (ns.map Int.toNat) i = j:=fun i j h1=>by
    unfold nt
    rw [qA3,qAl,h1]
    rfl
  refine ⟨ns.map Int.toNat,?_,⟨by simp [h.len],fun i hi=>?_,fun i hi=>?_⟩⟩
  · unfold numL
    rw [qB1]
    refine Eq.trans (qB2 fun x hx=>?_) (qEk ns)
    obtain ⟨i,hi,e⟩:=List.getElem_of_mem hx
    obtain ⟨j,_,h2,_⟩:=key i (by rw [← h.len]; exact hi)
    rw [qAa hi,e] at h2
    simp at h2
    rw [h2]
    rfl
  · obtain ⟨j,h1,h2,_⟩:=key i hi
    rw [hnt i j h2]; exact h1
  · obtain ⟨j,h1,h2,h3⟩:=key i hi
    rw [hnt i j h2,hnt j i h3]
structure Seats (R:List (List Nat)) (n:Nat):Prop where
  len:R.length = n
  per:∀ l ∈ R,l.Perm [0,1,2,3]
end Mp
namespace Mp
open Mi PySem
section
variable {R:List (List Nat)} {row:List Nat} {n:Nat} (hS:Seats R n) (tw:Twice n row)
include hS
include tw
omit hS in
omit hS in
omit hS in
omit hS in
omit hS tw in
omit hS tw in
end
end Mp
namespace Mp
open Mi PySem
end Mp
namespace Mp
open Mi PySem
section
variable {ts cs:List Nat} {n e:Nat} (hN:NetN ts (4 * n)) (hne:∀ x,x < 4 * n → nt ts x ≠ x) (hl:cs.length = n) (hw:∀ c ∈ cs,c < 3) (he:e < 4 * n)
include hN hne hl hw he
variable {p:Nat} (p3:itr (stp ts cs) p e = e) (p4:∀ q,1 ≤ q → q < p → itr (stp ts cs) q e ≠ e)
include p3 p4
omit hN hne hl hw he p3 p4 in
end
theorem zVD {ns:List Int} {M:Nat} (h:FW.NetL ns M):∃ ts:List Nat,numL ts = ns ∧ NetN ts M ∧ ∀ x,x < M → nt ts x ≠ x:=by
  obtain ⟨ts,e,hN⟩:=zXQ h
  refine ⟨ts,e,hN,fun x hx=>?_⟩
  obtain ⟨j,h1,h2,h3,_⟩:=h.tie x hx
  rw [← e] at h3
  unfold numL at h3
  rw [qAl] at h3
  unfold nt
  rw [qA3]
  cases hq:ts[x]? with
  | none=>rw [hq] at h3; cases h3
  | some y =>
    rw [hq] at h3
    simp at h3
    simp
    omega
end Mp
namespace Mp
open Mi PySem
structure Rnds (ts cs:List Nat) (n:Nat) (RR:List (List Nat)):Prop where
  prog:zL2 [rowD (numL ts),rowD (numL cs)] = okR (zVO RR)
  law:zIH [rowD (numL ts),rowD (numL cs)] = okR (zVO RR)
  pos:1 ≤ RR.length
  le:RR.length ≤ 4 * n
  one:RR.length = 1 → ∃ F:List Nat,zHH [rowD (numL ts),rowD (numL cs),.int 0] = okR (rowD (numL F)) ∧ F.length = 4 * n ∧ ∀ x ∈ F,x < 4 * n
end Mp
namespace Mp
open Mi PySem
section
variable {ts cs:List Nat} {n:Nat} {RR:List (List Nat)} (h:Rnds ts cs n RR) (hn:n ≤ 8)
include h hn
end
end Mp
namespace Mp
open Mi PySem
structure Clo (ts cs:List Nat) (n:Nat) (S:Nat → Prop):Prop where
  jn:∀ x,x < 4 * n → S x → S (jn cs x)
  nt:∀ x,x < 4 * n → S x → S (nt ts x)
section
variable {ts cs:List Nat} {n a p:Nat} (hN:NetN ts (4 * n)) (hl:cs.length = n) (hw:∀ c ∈ cs,c < 3) (ha:a < 4 * n) (p1:1 ≤ p) (p3:itr (stp ts cs) p a = a)
include hN hl hw ha p1 p3
end
end Mp
namespace Mp
open Mi PySem
end Mp
namespace Mp
open Mi PySem
section
variable {ts cs:List Nat} {n:Nat} (hN:NetN ts (4 * n)) (hl:cs.length = n) (hw:∀ c ∈ cs,c < 3)
include hN hl hw
omit hN hl hw in
omit hN hl hw in
end
noncomputable def bP (P:Prop):Bool:=@decide P (qA0 P)
noncomputable def cnt (M:Nat) (r:Nat → Nat → Prop):Nat:=(qA4 M).countP fun x=>bP (∀ y,y < x → ¬ r y x)
structure Named (ts:List Nat) (n:Nat) (g:Nat → Nat):Prop where
  tie:∀ e,e < 4 * n → g (e / 4) = g (nt ts e / 4)
  min:∀ (P:Nat → Prop),(∀ e,e < 4 * n → (P (e / 4) ↔ P (nt ts e / 4))) → ∀ p p',p < n → p' < n → g p = g p' → P p → P p'
section
variable {ts:List Nat} {n:Nat} {g:Nat → Nat} (hN:NetN ts (4 * n)) (hne:∀ x,x < 4 * n → nt ts x ≠ x) (hg:Named ts n g)
include hN hne hg
end
end Mp
namespace Mp
open Mi PySem
theorem zY8 {n:Nat}:mulD (.int 4) (.int (n:Int)) = some (.int ((4 * n:Nat):Int)):=by
  rw [zU5 (by omega) (by omega)]
  congr 2
theorem zMO {ms ks:List Int} {a b:Nat} (h1:FW.NetL ms a) (h2:FW.NetL ks b):FW.NetL (ms ++ ks.map fun x=>(a:Int) + x) (a + b):=by
  have l1:=h1.len
  have l2:=h2.len
  refine ⟨by simp [l1,l2],fun i hi=>?_⟩
  by_cases hia:i < a
  · obtain ⟨j,j1,j2,j3,j4⟩:=h1.tie i hia
    exact ⟨j,by omega,j2,by rw [qAg (by omega)]; exact j3,by rw [qAg (by omega)]; exact j4⟩
  · obtain ⟨j,j1,j2,j3,j4⟩:=h2.tie (i - a) (by omega)
    refine ⟨a + j,by omega,by omega,?_,?_⟩
    · rw [qAd (by omega),l1,qAl,j3]
      simp
    · rw [qAd (by omega),l1,qAl,show a + j - a = j by omega,j4]
      simp
      omega
def RN (w:Int) (k:Dt) (lf:List Nat) (ms:List Int) (o1 o2:Option Sl):Ro:=[some (.int w,0),some (k,0),some (rowD (numL lf),1),some (rowD ms,1),o1,o2]
theorem zTI {w:Int} {k:Dt} {x y:Nat} {l:List Nat} {ms:List Int} {o1 o2:Option Sl} (hz:l.length ≤ 1000):sPop 4 2 (eC (Dt.int 0)) (RN w k (x :: y :: l) ms o1 o2) = okR (.nx (RN w k (y :: l) ms (some (.int (x:Int),0)) o2)) :=
  zLU (j:=4) (i:=2) (ls:=numL (x :: y :: l)) (l:=0) (z:=0) rfl rfl (by omega) (by simp [numL]; omega) (by decide) (by simp [numL]; omega)
theorem zTH {w:Int} {k:Dt} {x y:Nat} {l:List Nat} {ms:List Int} {o2:Option Sl} {e:EM} {z:Int} {b:Nat} (hz:l.length ≤ 1000) (he:e (full (RN w k (y :: l) ms (some (.int (x:Int),0)) o2)) = okR (.int z)) (z0:0 ≤ z) (z1:z < ((l.length + 1:Nat):Int)) (hb:(y :: l)[z.toNat]? = some b) :
    sPop 5 2 e (RN w k (y :: l) ms (some (.int (x:Int),0)) o2) = okR (.nx (RN w k ((y :: l).eraseIdx z.toNat) ms (some (.int (x:Int),0)) (some (.int (b:Int),0)))):=by
  have hp:=zLU (j:=5) (i:=2) (l:=0) (ls:=numL (y :: l)) (r:=RN w k (y :: l) ms (some (.int (x:Int),0)) o2) rfl he z0 (by simp [numL]; omega) (by decide) (by simp [numL]; omega)
  have gz:(numL (y :: l)).getD z.toNat 0 = (b:Int):=by
    unfold numL
    rw [qA3,qAl,hb]
    rfl
  have her:(numL (y :: l)).eraseIdx z.toNat = numL ((y :: l).eraseIdx z.toNat):=zSD _ _ _
  rw [gz,her] at hp
  exact hp
theorem zQ1 {w:Int} {k:Dt} {x b:Nat} {l:List Nat} {ms:List Int} (hx:x < ms.length) (hb:b < ms.length) :
    sSeq (sItem 3 0 (eV 4) (eV 5)) (sItem 3 0 (eV 5) (eV 4)) (RN w k l ms (some (.int (x:Int),0)) (some (.int (b:Int),0))) = okR (.nx (RN w k l ((ms.set x (b:Int)).set b (x:Int)) (some (.int (x:Int),0)) (some (.int (b:Int),0)))):=by
  have s4:=zJV (i:=3) (n:=0) (l:=0) (ls:=ms) (e1:=eV 4) (e2:=eV 5) (z:=(x:Int)) (v:=(b:Int)) (r:=RN w k l ms (some (.int (x:Int),0)) (some (.int (b:Int),0))) rfl rfl rfl (by omega) (by omega)
  have s5:=zJV (i:=3) (n:=0) (l:=0) (ls:=ms.set x (b:Int)) (e1:=eV 5) (e2:=eV 4) (z:=(b:Int)) (v:=(x:Int)) (r:=RN w k l (ms.set x (b:Int)) (some (.int (x:Int),0)) (some (.int (b:Int),0))) rfl rfl rfl (by omega) (by rw [qE7]; omega)
  rw [Int.toNat_natCast] at s4 s5
  rw [zAP,s4,bindR_ok]
  exact s5
theorem zTJ {b:SM} (K:Nat) (k:Dt) (hK:K ≤ 1000) (hev:K % 2 = 0) (w:Int)
    (hb:∀ (w:Int) (x y:Nat) (l:List Nat) (ms:List Int) (o1 o2:Option Sl),l.length ≤ 1000 → x < ms.length → (∀ q ∈ y :: l,q < ms.length) → ∃ (w':Int) (z:Nat) (q:Nat),(y :: l)[z]? = some q ∧
      b (RN w k (x :: y :: l) ms o1 o2) = okR (.nx (RN w' k ((y :: l).eraseIdx z) ((ms.set x (q:Int)).set q (x:Int)) (some (.int (x:Int),0)) (some (.int (q:Int),0))))) :
    nxR (sWhile (tB (eB neD (eV 2) (eLst aNil))) b (RN w k (qA4 K) (qA6 K 0) none none)) fun r=>∃ w ms o1 o2,r = RN w k [] ms o1 o2 ∧ FW.NetL ms K:=by
  refine zQE (fun r=>∃ w left ms o1 o2,r = RN w k left ms o1 o2 ∧ FW.Part left ms K ∧ left.length ≤ K) (fun r=>zWO 2 r) (fun r=>∃ w ms o1 o2,r = RN w k [] ms o1 o2 ∧ FW.NetL ms K) ⟨_,_,_,_,_,rfl,FW.Part.start K hev,by simp⟩ ?_ ?_ fun r hr=>hr
  · show ((numL (qA4 K)).map Dt.int).length < 1000000
    simp [numL]
    omega
  · rintro r ⟨w,left,ms,o1,o2,rfl,hP,hll⟩
    match left,hll,hP with
    | [],hll,hP =>
      refine .inl ⟨?_,w,ms,_,_,rfl,hP.done⟩
      show tB (eB neD (eV 2) (eLst aNil)) (full [some (.int w,0),some (k,0),some (.lst [],1),some (rowD ms,1),o1,o2]) = okR false
      generalize rowD ms = Y
      simp
      rfl
    | [x],hll,hP=>have:=hP.ev; simp at this
    | x :: y :: l,hll,hP =>
      have hq:=zSF (numL (x :: y :: l)) []
      replace hq:Dt.eq (rowD (numL (x :: y :: l))) (.lst []) = decide (numL (x :: y :: l) = []):=hq
      have hd:=zCI (numL (x :: y :: l))
      have hne:(numL (x :: y :: l) = []) = False:=eq_false fun z=>by
        have:=congrArg qEh z
        simp [numL] at this
      refine .inr ⟨?_,?_⟩
      · unfold RN
        generalize rowD ms = Y
        generalize rowD (numL (x :: y :: l)) = Z at hq hd ⊢
        simp [hq,hd,hne]
      simp only [qAi] at hll
      have hml:=hP.len
      have hx:=hP.lt x (by simp)
      obtain ⟨w',z,q,hz,e⟩:=hb w x y l ms o1 o2 (by omega) (by omega) fun q hq=>by have:=hP.lt q (by simp at hq ⊢; exact .inr hq); omega
      have hT:=FW.Part.turn (a:=x) (b:=q) (k:=z) (l:=y :: l) hP hz
      have hzt:z < (y :: l).length:=(qA2.mp hz).1
      have hle:=FW.len_erase hzt
      simp only [qAi] at hle
      refine zS3 e ⟨⟨_,_,_,_,_,rfl,hT,by omega⟩,?_⟩
      show ((numL ((y :: l).eraseIdx z)).map Dt.int).length < ((numL (x :: y :: l)).map Dt.int).length
      simp only [numL,qAm,qAi]
      omega
theorem zXM {y:Nat} {l:List Nat} {z:Int} (z0:0 ≤ z) (z1:z < ((l.length + 1:Nat):Int)):∃ q,(y :: l)[z.toNat]? = some q ∧ q ∈ y :: l:=by
  have h:z.toNat < (y :: l).length:=by simp; omega
  exact ⟨_,qAa h,List.getElem_mem _⟩
theorem zU9 (y:Nat) (l:List Nat):lenD [rowD (numL (y :: l))] = some (.int ((l.length + 1:Nat):Int)):=by
  rw [lenR,show (numL (y :: l)).length = l.length + 1 by simp [numL]]
theorem zQ0 {e:SM} {w:Int} {n:Nat} {D:Dt} (hn:n ≤ 100) (h:sSeq e (sRetV 1 3) (RN w (.int (n:Int)) (qA4 (4 * n)) (qA6 (4 * n) 0) none none) = okR (.rt D)) :
    runF 2 6 (sSeq (sSet 2 1 [1] (eBi rangeD (aCons (eB mulD (eC (.int 4)) (eV 1)) aNil))) (sSeq (sSet 3 1 [2] (eComp (iSq (eV 2)) 1 (.one 6) Mi.tYes (eC (.int 0)))) (sSeq e (sRetV 1 3)))) [.int w,.int (n:Int)] = okR D:=by
  have m0:=zY8 (n:=n)
  have hra:rangeD [.int ((4 * n:Nat):Int)] = some (rowD (numL (qA4 (4 * n)))):=by
    rw [zNB (by omega) (by omega),show (((4 * n:Nat):Int)).toNat = 4 * n by omega,zG6]
    rfl
  have hc:=zN0 [some (.int w),some (.int (n:Int)),some (.lst ((numL (qA4 (4 * n))).map .int)),none,none,none] 2 (numL (qA4 (4 * n))) rfl (by simp [numL]; omega)
  rw [show (numL (qA4 (4 * n))).length = 4 * n by simp [numL]] at hc
  replace hc:eComp (iSq (eV 2)) 1 (.one 6) Mi.tYes (eC (.int 0)) [some (.int w),some (.int (n:Int)),some (rowD (numL (qA4 (4 * n)))),none,none,none] = okR (rowD (qA6 (4 * n) 0)):=hc
  refine zC4 rfl ?_
  have s1:sSet 2 1 [1] (eBi rangeD (aCons (eB mulD (eC (.int 4)) (eV 1)) aNil)) [some (.int w,0),some (.int (n:Int),0),none,none,none,none] = okR (.nx [some (.int w,0),some (.int (n:Int),0),some (rowD (numL (qA4 (4 * n))),1),none,none,none]):=by
    have hd:=zCI (numL (qA4 (4 * n)))
    generalize rowD (numL (qA4 (4 * n))) = Z at hra hd ⊢
    simp only [zFL,zFM,zH5,qEd,qFf,zT0,zCC,zED,x_eB,x_eC,x_eV,qDu,qCt,bindR_ok,m0,zAB,hra]
    rw [if_pos (by omega)]
    rfl
  have s2:sSet 3 1 [2] (eComp (iSq (eV 2)) 1 (.one 6) Mi.tYes (eC (.int 0))) [some (.int w,0),some (.int (n:Int),0),some (rowD (numL (qA4 (4 * n))),1),none,none,none] = okR (.nx (RN w (.int (n:Int)) (qA4 (4 * n)) (qA6 (4 * n) 0) none none)):=by
    unfold RN
    have hd:=zCI (qA6 (4 * n) 0)
    generalize rowD (numL (qA4 (4 * n))) = Z at hc ⊢
    generalize rowD (qA6 (4 * n) 0) = Y at hc hd ⊢
    rw [zFL]
    simp only [zFM,zH5,qEd,qFf,hc,bindR_ok]
    rw [if_pos (by omega)]
    rfl
  show sSeq (sSet 2 1 [1] _) _ [some (.int w,0),some (.int (n:Int),0),none,none,none,none] = _
  rw [zAP,s1,bindR_ok]
  dsimp only
  rw [zAP,s2,bindR_ok]
  exact h
theorem zVQ {b:SM} {w:Int} {n:Nat} (hn:n ≤ 100) (h:nxR (b (RN w (.int (n:Int)) (qA4 (4 * n)) (qA6 (4 * n) 0) none none)) fun r=>∃ w ms o1 o2,r = RN w (.int (n:Int)) [] ms o1 o2 ∧ FW.NetL ms (4 * n)) :
    ∃ ms,FW.NetL ms (4 * n) ∧ runF 2 6 (sSeq (sSet 2 1 [1] (eBi rangeD (aCons (eB mulD (eC (.int 4)) (eV 1)) aNil))) (sSeq (sSet 3 1 [2] (eComp (iSq (eV 2)) 1 (.one 6) Mi.tYes (eC (.int 0)))) (sSeq b (sRetV 1 3)))) [.int w,.int (n:Int)] = okR (rowD ms):=by
  obtain ⟨r,h1,w',ms,o1,o2,rfl,h2⟩:=zID h
  refine ⟨ms,h2,zQ0 hn ?_⟩
  rw [zAP,h1,bindR_ok]
  unfold RN
  generalize rowD ms = Y
  show sRetV 1 3 _ = _
  simp [sRetV]
theorem zJP (w:Int) (n:Nat) (hn:n ≤ 100):∃ ms,FW.NetL ms (4 * n) ∧ zCY [.int w,.int (n:Int)] = okR (rowD ms):=by
  refine zVQ hn (zTJ (4 * n) _ (by omega) (by omega) w fun w x y l ms o1 o2 hl hx hq=>?_)
  obtain ⟨v,hv⟩:∃ v,(w * 48271 + 7919) % 2147483647 = v:=⟨_,rfl⟩
  obtain ⟨z,hz⟩:∃ z,v / 64 % ((l.length + 1:Nat):Int) = z:=⟨_,rfl⟩
  have z0:0 ≤ z:=by rw [← hz]; exact qBi _ (by omega)
  have z1:z < ((l.length + 1:Nat):Int):=by rw [← hz]; exact qBj _ (by omega)
  obtain ⟨b,hb,hbm⟩:=zXM (y:=y) z0 z1
  refine ⟨v,z.toNat,b,hb,?_⟩
  have hlen:=zU9 y l
  have s2:sSet 0 0 [0] (eB modD (eB addD (eB mulD (eV 0) (eC (Dt.int 48271))) (eC (Dt.int 7919))) (eC (Dt.int 2147483647))) (RN w (.int (n:Int)) (y :: l) ms (some (.int (x:Int),0)) o2) = okR (.nx (RN v (.int (n:Int)) (y :: l) ms (some (.int (x:Int),0)) o2)):=by
    unfold RN
    generalize rowD (numL (y :: l)) = Z
    generalize rowD ms = Y
    simp [hv]
  have e3:(eB modD (eB divD (eV 0) (eC (Dt.int 64))) (eBi lenD (aCons (eV 2) aNil))) (full (RN v (.int (n:Int)) (y :: l) ms (some (.int (x:Int),0)) o2)) = okR (.int z):=by
    have hlp:(0:Int) < ((l.length + 1:Nat):Int):=by omega
    unfold RN
    generalize rowD (numL (y :: l)) = Z at hlen ⊢
    generalize rowD ms = Y
    generalize ((l.length + 1:Nat):Int) = LL at hlen hlp hz ⊢
    simp [hlen,hlp,hz]
  rw [zAP,zTI hl,bindR_ok]
  dsimp only
  rw [zAP,s2,bindR_ok]
  dsimp only
  rw [zAP,zTH hl e3 z0 z1 hb,bindR_ok]
  exact zQ1 hx (hq b hbm)
theorem zKY {ms ks:List Int} {a b:Nat} (h1:FW.NetL ms a) (h2:FW.NetL ks b):FW.NetL (ms ++ ks.map fun x=>x + (ms.length:Int)) (a + b):=by
  have h:=zMO h1 h2
  rw [h1.len]
  rw [show (fun x:Int=>x + (a:Int)) = fun x=>(a:Int) + x from funext fun x=>by omega]
  exact h
theorem zMZ (ns:List Int) (a:Int) (a0:0 ≤ a) (a1:a < 900):∃ (ms:List Int) (n:Nat),1 ≤ n ∧ n ≤ 8 ∧ FW.NetL ms (4 * n) ∧ zC6 [.scr ns,.int a] = okR (rowD ms):=by
  obtain ⟨h,h0,h1,hh⟩:=zD9 ns a a0 (by omega)
  obtain ⟨c,c0,c1,hc⟩:=zD9 ns (a + 1) (by omega) (by omega)
  obtain ⟨e,e0,e1,he⟩:=zD9 ns (a + 2) (by omega) (by omega)
  obtain ⟨p,hp⟩:∃ p:Nat,1 + h % 8 = (p:Int):=⟨(1 + h % 8).toNat,by omega⟩
  obtain ⟨m1,l1,n1⟩:=zJP c p (by omega)
  have ha:addD (.int 1) (.int (h % 8)) = some (.int (p:Int)):=by rw [← hp]; rfl
  have hd1:=qBx (zCI m1)
  have i0:∀ (k:Int) (n:Nat),(Dt.int k).dep ≤ n:=fun k n=>qAy n
  have pre:∀ {R:R Dt} {X:Dt},(sSeq (sIf (tAn (tB (eB eqD (eB modD (eB divD (eV 2) (eC (.int 8))) (eC (.int 3))) (eC (.int 0)))) (tB (eB (cmpD fun i j=>decide (i < j)) (eV 3) (eC (.int 8))))) (sRet 1 1 [4,0,1,2,3] (eCall zBJ (aCons (eV 4) (aCons (eCall zCY (aCons (eCall zAN (aCons (eV 0) (aCons (eB addD (eV 1) (eC (.int 2))) aNil))) (aCons (eB addD (eC (.int 1)) (eB modD (eB divD (eV 2) (eC (.int 24))) (eB subD (eC (.int 8)) (eV 3)))) aNil))) aNil)))) sNil) (sRetV 1 4))
      [some (.scr ns,0),some (.int a,0),some (.int h,0),some (.int (p:Int),1),some (rowD m1,1)] = okR (.rt X) → zC6 [.scr ns,.int a] = okR X:=fun {R X} hx =>
    zC4 rfl (sg (c2 rfl rfl hh) (i0 _ _) (sg (b2 rfl (b2 rfl rfl (mdi (by decide) rfl)) ha) (i0 _ _) (sg (c2 (c2 rfl (b2 rfl rfl rfl) hc) rfl n1) hd1 hx)))
  have ce:∀ {k:Bool},decide (h / 8 % 3 = 0) = k → tB (eB eqD (eB modD (eB divD (eV 2) (eC (.int 8))) (eC (.int 3))) (eC (.int 0))) (full [some (.scr ns,0),some (.int a,0),some (.int h,0),some (.int (p:Int),1),some (rowD m1,1)]) = okR k:=fun hk=>eqi (b2 (b2 rfl rfl (dvi (by decide))) rfl (mdi (by decide) rfl)) rfl hk
  have cl:∀ {k:Bool},decide ((p:Int) < 8) = k → tB (eB (cmpD fun i j=>decide (i < j)) (eV 3) (eC (.int 8))) (full [some (.scr ns,0),some (.int a,0),some (.int h,0),some (.int (p:Int),1),some (rowD m1,1)]) = okR k:=fun hk=>tb1 (b2 rfl rfl (congrArg (fun b=>some (Dt.bl b)) hk))
  by_cases hq:h / 8 % 3 = 0 ∧ (p:Int) < 8
  · obtain ⟨q,hq2⟩:∃ q:Nat,1 + h / 24 % (8 - (p:Int)) = (q:Int):=⟨(1 + h / 24 % (8 - (p:Int))).toNat,by
      have:=qBi (h / 24) (show (8 - (p:Int)) ≠ 0 by omega)
      omega⟩
    have q1:h / 24 % (8 - (p:Int)) < 8 - (p:Int):=qBj _ (by omega)
    have q0:=qBi (h / 24) (show (8 - (p:Int)) ≠ 0 by omega)
    obtain ⟨m2,l2,n2⟩:=zJP e q (by omega)
    have hb:=zN4 m1 m2 (by rw [l1.len]; omega) (by rw [l2.len]; omega)
    replace hb:zBJ [rowD m1,rowD m2] = okR (rowD (m1 ++ m2.map fun e=>e + (m1.length:Int))):=hb
    have hpos:(0:Int) < 8 - (p:Int):=by omega
    have haq:addD (.int 1) (.int (h / 24 % (8 - (p:Int)))) = some (.int (q:Int)):=by rw [← hq2]; rfl
    have hd3:=qBx (zCI (m1 ++ m2.map fun e=>e + (m1.length:Int)))
    exact ⟨m1 ++ m2.map fun e=>e + (m1.length:Int),p + q,by omega,by omega,by rw [Nat.mul_add]; exact zKY l1 l2,pre (R:=none) (sx (ta1 (ce (decide_eq_true hq.1)) (cl (decide_eq_true hq.2))) (sr (c2 rfl (c2 (c2 rfl (b2 rfl rfl rfl) he) (b2 rfl (b2 (b2 rfl rfl (dvi (by decide))) (b2 rfl rfl rfl) (mdi hpos rfl)) haq) n2) hb) ⟨hd3,hd3⟩))⟩
  · refine ⟨m1,p,by omega,by omega,l1,pre (R:=none) (sp ?_ rfl)⟩
    by_cases hA:h / 8 % 3 = 0
    · exact ta1 (ce (decide_eq_true hA)) (cl (decide_eq_false fun z=>hq ⟨hA,z⟩))
    · exact ta0 (ce (decide_eq_false hA))
noncomputable def prD (p:Nat × Nat):Dt:=.tup [.int (p.1:Int),.int (p.2:Int)]
def prsD (T:List (Nat × Nat)):Dt:=.lst (T.map prD)
def zHX (ts:List Nat) (M:Nat):List (Nat × Nat):=((qA4 M).filter fun e=>decide (e < nt ts e)).map fun e=>(e,nt ts e)
@[simp] theorem zXC (p:Nat × Nat):(prD p).dep = 1:=by simp [prD]
theorem zM6:∀ T:List (Nat × Nat),Dt.depL (T.map prD) ≤ 1
  | []=>by simp [Dt.depL]
  | p :: T=>by
    have:=zM6 T
    rw [qAp,zFO,zXC]
    omega
theorem zP3 (T:List (Nat × Nat)):(prsD T).dep ≤ 2:=by
  have:=zM6 T
  unfold prsD
  rw [Dt.dep]
  omega
theorem zVR {n:Nat} {vs:List Nat} {e:EM} {r:Ro} {d:Dt} (h1:e (full r) = okR d) (h2:e (frz (frzAt vs r)) = okR d):sRet n n vs e r = okR (.rt d):=by
  rw [zLK,h1,bindR_ok]
  split
  · rfl
  · rw [if_pos rfl,h2,bindR_ok]
theorem zNH {ts:List Nat} {M:Nat} (h:ts.length = M) (hM:M ≤ 1000):zCF [rowD (numL ts)] = okR (prsD (zHX ts M)):=by
  have hc:eComp (iEn (aCons (eV 0) aNil)) 2 (.tup [1,2]) (tB (eB (cmpD fun i j=>decide (i < j)) (eV 1) (eV 2))) (eTup (aCons (eV 1) (aCons (eV 2) aNil))) [some (rowD (numL ts))] = okR (prsD (zHX ts M)):=by
    have:=zLB (ρ:=[some (rowD (numL ts))]) (c:=tB (eB (cmpD fun i j=>decide (i < j)) (eV 1) (eV 2))) (e:=eTup (aCons (eV 1) (aCons (eV 2) aNil))) (i:=1) (j:=2) ((numL ts).map .int) (fun e=>prD (e,nt ts e)) (fun e=>decide (e < nt ts e)) rfl rfl (iEn (aCons (eV 0) aNil)) rfl (by simp [numL]; omega) (fun k x hx=>?_) fun k x hx=>?_
    · rw [this]
      unfold prsD zHX
      rw [qB1,show ((numL ts).map Dt.int).length = M by simp [numL,h]]
      rfl
    · have hx':x = .int (nt ts k:Int):=by
        unfold numL at hx
        rw [qB1,qAl] at hx
        unfold nt
        rw [qA3]
        cases e:ts[k]? with
        | none=>rw [e] at hx; cases hx
        | some q=>rw [e] at hx; cases hx; rfl
      subst hx'
      generalize rowD (numL ts) = Y
      simp
    · have hx':x = .int (nt ts k:Int):=by
        unfold numL at hx
        rw [qB1,qAl] at hx
        unfold nt
        rw [qA3]
        cases e:ts[k]? with
        | none=>rw [e] at hx; cases hx
        | some q=>rw [e] at hx; cases hx; rfl
      subst hx'
      generalize rowD (numL ts) = Y
      simp
      rfl
  unfold zCF zGQ
  refine zC4 rfl (zVR hc ?_)
  have e:frz (frzAt [0] [some (rowD (numL ts),0)]) = [some (rowD (numL ts))]:=by
    generalize rowD (numL ts) = Y
    simp
  rw [show startO 1 [rowD (numL ts)] = [some (rowD (numL ts),0)] from rfl,e]
  exact hc
theorem zO3 {α:Type}:∀ (l:List α) {i:Nat} (h:i < l.length),l.Perm (l[i] :: l.eraseIdx i)
  | a :: r,0,h=>by simp
  | a :: r,i + 1,h=>by
    have:=zO3 r (i:=i) (by simpa using h)
    simp only [List.getElem_cons_succ,qC1]
    exact (this.cons a).trans (List.Perm.swap _ _ _)
def RS (D:Dt) (w:Int) (lf es:List (Nat × Nat)) (lv:Nat):Ro:=[some (D,0),some (.int w,0),some (prsD lf,1),some (prsD es,lv)]
theorem zRE {r:Ro} {j i k:Nat} {e:EM} {z:Int} {ds es:List Dt} {c:Dt} (hi:r[i]? = some (some (.lst ds,k + 1))) (hj:r[j]? = some (some (.lst es,k + 1))) (he:e (full r) = okR (.int z)) (h0:0 ≤ z) (h1:z < ds.length) (hc:ds[z.toNat]? = some c) (hij:i ≠ j) (hz:ds.length ≤ 1000) (hz2:es.length ≤ 1000) :
    sAppPop j i e r = okR (.nx ((r.set i (some (.lst (ds.eraseIdx z.toNat),k + 1))).set j (some (.lst (es ++ [c]),k + 1)))):=by
  unfold sAppPop
  rw [hj,hi]
  dsimp only
  rw [he,bindR_ok]
  dsimp only
  rw [zOM h0 h1]
  dsimp only
  rw [hc]
  dsimp only
  rw [if_pos ⟨hij,by omega,by omega,.inl rfl⟩]
theorem zVN {D:Dt} {w z:Int} {a:Nat × Nat} {lf es:List (Nat × Nat)} {lv:Nat} {e:EM} (he:e (full (RS D w (a :: lf) es 1)) = okR (.int z)) (z0:0 ≤ z) (z1:z < (lf.length:Int) + 1) (h1:lf.length ≤ 500) (h2:es.length ≤ 500):∃ c,(a :: lf)[z.toNat]? = some c ∧
    sAppPopF 3 2 e (RS D w (a :: lf) es (lv + 1)) = okR (.nx (RS D w ((a :: lf).eraseIdx z.toNat) (es ++ [c]) 1)):=by
  have hzt:z.toNat < (a :: lf).length:=by simp; omega
  refine ⟨(a :: lf)[z.toNat]'hzt,qAa hzt,?_⟩
  show sAppPop 3 2 e (RS D w (a :: lf) es 1) = _
  rw [zRE (r:=RS D w (a :: lf) es 1) (i:=2) (j:=3) (ds:=(a :: lf).map prD) (es:=es.map prD) (c:=prD ((a :: lf)[z.toNat])) rfl rfl he z0 (by simp; omega) (by rw [qAl,qAa hzt]; rfl) (by decide) (by simp; omega) (by simp; omega)]
  show okR (Out.nx [some (D,0),some (.int w,0),some (.lst (((a :: lf).map prD).eraseIdx z.toNat),1),some (.lst (es.map prD ++ [prD ((a :: lf)[z.toNat])]),1)]) = _
  have e1:∀ (l:List (Nat × Nat)) (k:Nat),(l.map prD).eraseIdx k = (l.eraseIdx k).map prD:=by
    intro l
    induction l with
    | nil=>intro k; rfl
    | cons x l ih=>intro k; cases k with
      | zero=>rfl
      | succ k=>simp [ih]
  rw [e1]
  unfold RS prsD
  rw [qEa]
  rfl
theorem zTE {b:SM} {D:Dt} {T:List (Nat × Nat)} (w:Int) (hT:T.length ≤ 500)
    (hb:∀ (w:Int) (a:Nat × Nat) (lf es:List (Nat × Nat)) (lv:Nat),lf.length ≤ 500 → es.length ≤ 500 → ∃ (w':Int) (z:Nat) (c:Nat × Nat),(a :: lf)[z]? = some c ∧ b (RS D w (a :: lf) es (lv + 1)) = okR (.nx (RS D w' ((a :: lf).eraseIdx z) (es ++ [c]) 1))) :
    ∃ es:List (Nat × Nat),es.Perm T ∧ sSeq (sWhile (tB (eB neD (eV 2) (eLst aNil))) b) (sRetV 1 3) (RS D w T [] 9) = okR (.rt (prsD es)):=by
  obtain ⟨r',h1,w',es,lv,rfl,h2,h3⟩:=zH9 (c:=tB (eB neD (eV 2) (eLst aNil))) (b:=b) (fun r=>∃ w lf es lv,r = RS D w lf es (lv + 1) ∧ (lf ++ es).Perm T ∧ (lv = 0 ∨ es = [] ∧ lv = 8)) (zWO 2) (fun r=>∃ w es lv,r = RS D w [] es (lv + 1) ∧ es.Perm T ∧ (lv = 0 ∨ es = [] ∧ lv = 8))
    (r:=RS D w T [] 9) ⟨w,T,[],8,rfl,by simp,.inr ⟨rfl,rfl⟩⟩ (by show (T.map prD).length < _; simp; omega) (fun r hr=>by
      obtain ⟨w,lf,es,lv,rfl,q1,q2⟩:=hr
      have hlen:=q1.length_eq
      cases lf with
      | nil =>
        refine .inl ⟨?_,w,es,lv,rfl,by simpa using q1,q2⟩
        have hd:=zP3 es
        unfold RS
        generalize prsD es = Y
        show tB (eB neD (eV 2) (eLst aNil)) (full [some (D,0),some (.int w,0),some (.lst [],1),some (Y,lv + 1)]) = _
        simp [Dt.eqL]
      | cons a lf =>
        simp only [qAt,qAi] at hlen
        obtain ⟨w',z,c,hz,e⟩:=hb w a lf es lv (by omega) (by omega)
        have hzt:z < (a :: lf).length:=(qA2.mp hz).1
        have hcc:(a :: lf)[z] = c:=(qA2.mp hz).2
        refine .inr ⟨?_,_,e,⟨w',(a :: lf).eraseIdx z,es ++ [c],0,rfl,?_,.inl rfl⟩,?_⟩
        · have hd:=zP3 (a :: lf)
          have hq:Dt.eq (prsD (a :: lf)) (.lst []) = false:=by simp [prsD,Dt.eqL]
          unfold RS
          generalize prsD (a :: lf) = X at hd hq ⊢
          generalize prsD es = Y
          have hd':X.dep ≤ 40:=by omega
          simp [hq,hd']
        · rw [← qCd]
          refine (List.perm_append_singleton _ _).trans ?_
          rw [← qD4]
          refine (List.Perm.append_right es ?_).trans q1
          rw [← hcc]
          exact (zO3 (a :: lf) hzt).symm
        · show (((a :: lf).eraseIdx z).map prD).length < ((a :: lf).map prD).length
          rw [qAm,qAm,qDe hzt]
          simp)
  refine ⟨es,h2,?_⟩
  rw [zAP,h1,bindR_ok]
  show sRetV 1 3 (RS D w' [] es (lv + 1)) = _
  unfold RS
  rw [zSX]
  show (if lv + 1 = 1 ∨ 1 = 0 ∨ ((prsD es).dep ≤ lv + 1 ∧ (prsD es).dep ≤ 1 ∧ lv + 1 < 1000) then okR (Out.rt (prsD es)) else none) = _
  rcases h3 with rfl | ⟨rfl,rfl⟩
  · rw [if_pos (.inl rfl)]
  · rw [if_pos (.inr (.inr (by simp [prsD])))]
theorem zQI (T:List (Nat × Nat)):listD [prsD T] = some (prsD T):=rfl
theorem zPY {T:List (Nat × Nat)} {w:Int} {s:SM} {d:Dt} (h:s (RS (prsD T) w T [] 9) = okR (.rt d)):runF 2 4 (sSeq (sSet 2 1 [0] (eBi listD (aCons (eV 0) aNil))) (sSeq (sSet 3 9 [] (eLst aNil)) s)) [prsD T,.int w] = okR d:=by
  have hl:=zQI T
  refine zC4 rfl ?_
  show sSeq _ _ [some (prsD T,0),some (.int w,0),none,none] = _
  have s1:sSet 2 1 [0] (eBi listD (aCons (eV 0) aNil)) [some (prsD T,0),some (.int w,0),none,none] = okR (.nx [some (prsD T,0),some (.int w,0),some (prsD T,1),none]):=by
    generalize prsD T = Y at hl ⊢
    simp [hl]
  have s2:sSet 3 9 [] (eLst aNil) [some (prsD T,0),some (.int w,0),some (prsD T,1),none] = okR (.nx (RS (prsD T) w T [] 9)):=by
    unfold RS
    generalize prsD T = Y
    simp
    rfl
  rw [zAP,s1,bindR_ok]
  dsimp only
  rw [zAP,s2,bindR_ok]
  exact h
theorem zWN (T:List (Nat × Nat)):lenD [prsD T] = some (.int (T.length:Int)):=by
  unfold prsD
  simp
theorem zNP (T:List (Nat × Nat)) (w:Int) (hT:T.length ≤ 500):∃ es:List (Nat × Nat),es.Perm T ∧ zBB [prsD T,.int w] = okR (prsD es):=by
  obtain ⟨es,h1,h2⟩:=zTE (D:=prsD T) (b:=sSeq (sSet 1 0 [1] (eB modD (eB addD (eB mulD (eV 1) (eC (.int 48271))) (eC (.int 7919))) (eC (.int 2147483647)))) (sAppPopF 3 2 (eB modD (eB divD (eV 1) (eC (.int 64))) (eBi lenD (aCons (eV 2) aNil))))) w hT fun w a lf es lv h1 h2=>by
    obtain ⟨v,hv⟩:∃ v,(w * 48271 + 7919) % 2147483647 = v:=⟨_,rfl⟩
    obtain ⟨z,hz⟩:∃ z,v / 64 % ((lf.length:Int) + 1) = z:=⟨_,rfl⟩
    have z0:0 ≤ z:=by rw [← hz]; exact qBi _ (by omega)
    have z1:z < (lf.length:Int) + 1:=by rw [← hz]; exact qBj _ (by omega)
    have e3:(eB modD (eB divD (eV 1) (eC (.int 64))) (eBi lenD (aCons (eV 2) aNil))) (full (RS (prsD T) v (a :: lf) es 1)) = okR (.int z):=by
      have hlen:=zWN (a :: lf)
      rw [qAi,show ((lf.length + 1:Nat):Int) = (lf.length:Int) + 1 by omega] at hlen
      have hlp:(0:Int) < (lf.length:Int) + 1:=by omega
      unfold RS
      generalize prsD (a :: lf) = X at hlen ⊢
      generalize prsD T = Y
      generalize prsD es = Z
      generalize (lf.length:Int) + 1 = LL at hlen hlp hz ⊢
      simp [hlen,hlp,hz]
    obtain ⟨c,hc,e4⟩:=zVN (lv:=lv) e3 z0 z1 h1 h2
    refine ⟨v,z.toNat,c,hc,?_⟩
    have s1:sSet 1 0 [1] (eB modD (eB addD (eB mulD (eV 1) (eC (.int 48271))) (eC (.int 7919))) (eC (.int 2147483647))) (RS (prsD T) w (a :: lf) es (lv + 1)) = okR (.nx (RS (prsD T) v (a :: lf) es (lv + 1))):=by
      unfold RS
      generalize prsD (a :: lf) = X
      generalize prsD T = Y
      generalize prsD es = Z
      simp [hv]
    rw [zAP,s1,bindR_ok]
    exact e4
  exact ⟨es,h1,zPY h2⟩
def Eith (p q:Nat × Nat):Prop:=q = p ∨ q = (p.2,p.1)
inductive EithL:List (Nat × Nat) → List (Nat × Nat) → Prop
  | nil:EithL [] []
  | snoc {S T:List (Nat × Nat)} {p q:Nat × Nat}:EithL S T → Eith p q → EithL (S ++ [p]) (T ++ [q])
noncomputable def ends (T:List (Nat × Nat)):List Nat:=T.flatMap fun p=>[p.1,p.2]
structure Cov (ts:List Nat) (M:Nat) (T:List (Nat × Nat)):Prop where
  tie:∀ p ∈ T,p.1 < M ∧ p.2 < M ∧ nt ts p.1 = p.2 ∧ nt ts p.2 = p.1
  nd:(ends T).Nodup
  all:∀ e,e < M → e ∈ ends T
theorem zQZ (S T:List (Nat × Nat)):ends (S ++ T) = ends S ++ ends T:=by simp [ends]
theorem mem_ends {T:List (Nat × Nat)} {e:Nat}:e ∈ ends T ↔ ∃ p ∈ T,e = p.1 ∨ e = p.2:=by simp [ends]
theorem zR8 {ts:List Nat} {M:Nat} (hN:NetN ts M) (hne:∀ x,x < M → nt ts x ≠ x):Cov ts M (zHX ts M):=by
  refine ⟨fun p hp=>?_,?_,fun e he=>?_⟩
  · unfold zHX at hp
    obtain ⟨e,h1,rfl⟩:=qAs.mp hp
    rw [qC5,qAq] at h1
    exact ⟨h1.1,hN.lt e h1.1,rfl,hN.inv e h1.1⟩
  · unfold ends zHX qGh
    rw [List.pairwise_flatMap]
    refine ⟨fun p hp=>?_,?_⟩
    · obtain ⟨e,h1,rfl⟩:=qAs.mp hp
      rw [qC5,qAq] at h1
      have:=hne e h1.1
      simp
      omega
    · rw [qDp,List.pairwise_filter]
      refine (qCv (n:=M)).imp_of_mem fun {a b} ha hb hab q1 q2=>?_
      have ha:=qAq.mp ha
      have hb:=qAq.mp hb
      simp only [decide_eq_true_eq] at q1 q2
      have ia:=hN.inv a ha
      have ib:=hN.inv b hb
      intro x hx y hy
      simp only [qA9,qB6,or_false] at hx hy
      rcases hx with rfl | rfl <;> rcases hy with rfl | rfl
      · omega
      · intro e
        rw [← e] at ib
        omega
      · intro e
        rw [e] at ia
        omega
      · intro e
        rw [e] at ia
        omega
  · rw [mem_ends]
    by_cases h:e < nt ts e
    · exact ⟨(e,nt ts e),qAs.mpr ⟨e,by rw [qC5,qAq]; exact ⟨he,by simpa using h⟩,rfl⟩,.inl rfl⟩
    · have:=hne e he
      have hi:=hN.inv e he
      exact ⟨(nt ts e,nt ts (nt ts e)),qAs.mpr ⟨nt ts e,by rw [qC5,qAq]; exact ⟨hN.lt e he,by simp; omega⟩,rfl⟩,.inr hi.symm⟩
theorem Cov.perm {ts:List Nat} {M:Nat} {S T:List (Nat × Nat)} (h:Cov ts M S) (p:T.Perm S):Cov ts M T:=by
  have e:(ends T).Perm (ends S):=p.flatMap_right _
  exact ⟨fun q hq=>h.tie q (p.mem_iff.mp hq),e.nodup_iff.mpr h.nd,fun x hx=>e.mem_iff.mpr (h.all x hx)⟩
theorem Cov.range {ts:List Nat} {M:Nat} {T:List (Nat × Nat)} (h:Cov ts M T):(ends T).Perm (qA4 M):=by
  refine (qDf h.nd qE1).mpr fun x=>⟨fun hx=>?_,fun hx=>h.all x (qAq.mp hx)⟩
  obtain ⟨p,h1,h2⟩:=mem_ends.mp hx
  obtain ⟨a,b,_,_⟩:=h.tie p h1
  rw [qAq]
  rcases h2 with rfl | rfl
  · exact a
  · exact b
noncomputable def kvT (T:List (Nat × Nat)):List (Sum Int Str × Sw):=T.flatMap fun p=>[(.inl (p.1:Int),.int (p.2:Int)),(.inl (p.2:Int),.int (p.1:Int))]
theorem zS4 (S T:List (Nat × Nat)):kvT (S ++ T) = kvT S ++ kvT T:=by simp [kvT]
theorem zOH (T:List (Nat × Nat)):(kvT T).map (fun p=>kyT p.1) = (numL (ends T)).map Dt.int:=by
  induction T with
  | nil=>rfl
  | cons p T ih =>
    show kyT _ :: kyT _ :: (kvT T).map _ = _
    rw [ih]
    rfl
theorem zM0 (T:List (Nat × Nat)):(kvT T).length = (ends T).length:=by
  have:=congrArg qEh (zOH T)
  simpa [numL] using this
theorem zD5 {T:List (Nat × Nat)} {e:Nat} (h:e ∉ ends T):getW (kvT T) (.inl (e:Int)) = none:=by
  unfold getW
  rw [qDl.mpr]
  · rfl
  · intro q hq
    unfold kvT at hq
    rw [qD6] at hq
    obtain ⟨p,h1,h2⟩:=hq
    have h3:p.1 ≠ e:=fun z=>h (mem_ends.mpr ⟨p,h1,.inl z.symm⟩)
    have h4:p.2 ≠ e:=fun z=>h (mem_ends.mpr ⟨p,h1,.inr z.symm⟩)
    simp only [qA9,qB6,or_false] at h2
    rcases h2 with rfl | rfl
    · simp; omega
    · simp; omega
theorem zTR {kvs:List (Sum Int Str × Sw)} {k:Sum Int Str} {v:Sw} (h:getW kvs k = none):putW kvs k v = kvs ++ [(k,v)]:=by
  unfold putW
  rw [if_neg]
  intro z
  unfold getW at h
  rw [qE4,qDl] at h
  rw [qF2] at z
  obtain ⟨q,h1,h2⟩:=z
  exact h q h1 h2
theorem zNG:∀ (l:List Int) {M:Int},M ∈ l → (∀ x ∈ l,x ≤ M) → topI l = M
  | [x],M,h,_=>by simp at h; rw [h]; rfl
  | x :: y :: r,M,h,hb=>by
    show max x (topI (y :: r)) = M
    by_cases hy:M ∈ y :: r
    · rw [zNG (y :: r) hy fun z hz=>hb z (qAh _ hz)]
      have:=hb x (by simp)
      omega
    · have hx:M = x:=by
        rcases qA9.mp h with z | z
        · exact z
        · exact absurd z hy
      have key:∀ (l:List Int),l ≠ [] → (∀ a ∈ l,a ≤ M) → topI l ≤ M:=by
        intro l
        induction l with
        | nil=>intro h; exact absurd rfl h
        | cons a q ih =>
          intro _ hb
          cases q with
          | nil=>exact hb a (by simp)
          | cons b q =>
            have h1:=ih (by simp) fun c hc=>hb c (qAh _ hc)
            have h2:=hb a (by simp)
            show max a (topI (b :: q)) ≤ M
            omega
      have:=key (y :: r) (by simp) fun a ha=>hb a (qAh _ ha)
      omega
theorem zU7 {l:List Nat} {M:Nat} (h:l.Perm (qA4 (M + 1))):maxL [rowD (numL l)] = some (.int (M:Int)):=by
  have hb:=zNG (numL l) (M:=(M:Int)) (qAs.mpr ⟨M,h.mem_iff.mpr (by simp),rfl⟩) fun x hx=>by
    obtain ⟨z,hz,rfl⟩:=qAs.mp hx
    have:=qAq.mp (h.mem_iff.mp hz)
    omega
  match l,h,hb with
  | [],h,_=>have:=h.length_eq; simp at this
  | a :: r,h,hb =>
    show (match intsD ((numL (a :: r)).map Dt.int) with | some (n :: ns)=>some (Dt.int (topI (n :: ns))) | _=>none) = _
    rw [zGG]
    show some (Dt.int (topI (numL (a :: r)))) = _
    rw [hb]
theorem zIX {l:List Nat} {n:Nat} (n1:1 ≤ n) (n2:n ≤ 8) (h:l.Perm (qA4 (4 * n))):zAV [rowD (numL l)] = okR (.bl true):=by
  have hm:maxL [rowD (numL l)] = some (.int ((4 * n - 1:Nat):Int)):=zU7 (by rw [show 4 * n - 1 + 1 = 4 * n by omega]; exact h)
  have hl:lenD [rowD (numL l)] = some (.int ((4 * n:Nat):Int)):=by rw [lenR,show (numL l).length = 4 * n by simp [numL,h.length_eq]]
  have hf:=zK0 ((4 * n:Nat):Int)
  rw [show decide ((((4 * n:Nat):Int)) % 4 = 0 ∧ 1 ≤ ((4 * n:Nat):Int) / 4 ∧ ((4 * n:Nat):Int) / 4 ≤ 8) = true by simp; omega] at hf
  have he:((4 * n:Nat):Int) - 1 = ((4 * n - 1:Nat):Int):=by omega
  have hd:=zCI (numL l)
  unfold zAV zCT
  generalize rowD (numL l) = Y at hm hl hd ⊢
  generalize ((4 * n:Nat):Int) = A at hl hf he ⊢
  generalize ((4 * n - 1:Nat):Int) = B at hm he ⊢
  simp [hl,hf,hm,he,Dt.eq]
noncomputable def txt (l:List Nat):Dt:=.str ⟨l.toArray⟩
noncomputable def ew (e:Nat):List Nat:=[97 + e / 4,48 + e % 4]
def wordL (p:Nat × Nat):List Nat:=ew p.1 ++ 45 :: ew p.2
theorem abcS:(Str.ofString "abcdefghijklmnopqrstuvwxyz") = ⟨((qA4 26).map (97 + ·)).toArray⟩:=zE0 (by rw [Str.ofString_eq_toList]; decide)
theorem ahS:(Str.ofString "abcdefgh") = ⟨((qA4 8).map (97 + ·)).toArray⟩:=zE0 (by rw [Str.ofString_eq_toList]; decide)
theorem figS:(Str.ofString "0123") = ⟨((qA4 4).map (48 + ·)).toArray⟩:=zE0 (by rw [Str.ofString_eq_toList]; decide)
theorem zR7:(Str.ofString "-") = ⟨#[45]⟩:=zE0 (l:=[45]) (by rw [Str.ofString_eq_toList]; decide)
theorem zPH:(Str.ofString " ") = ⟨#[32]⟩:=zE0 (l:=[32]) (by rw [Str.ofString_eq_toList]; decide)
theorem zSB {n k c:Nat} (h:k < n):((qA4 n).map (c + ·)).getD k 0 = c + k:=by
  rw [qA3,qAl,qEl h]
  rfl
theorem ix8 {k:Nat} (h:k < 8):ixD (.str "abcdefgh") (.int (k:Int)) = some (txt [97 + k]):=by
  rw [ahS,zHK (by simpa using h) (by simp),zSB h]
  rfl
theorem ix4 {k:Nat} (h:k < 4):ixD (.str "0123") (.int (k:Int)) = some (txt [48 + k]):=by
  rw [figS,zHK (by simpa using h) (by simp),zSB h]
  rfl
theorem zDC {a b:List Nat} (h:a.length + b.length ≤ 1000):addD (txt a) (txt b) = some (txt (a ++ b)):=by
  show (@ite _ ((⟨a.toArray⟩:Str).length + (⟨b.toArray⟩:Str).length ≤ 100000) (qA0 _) (some (Dt.str ((⟨a.toArray⟩:Str) ++ ⟨b.toArray⟩))) none) = _
  rw [if_pos (by rw [zC0,zC0]; simp; omega)]
  unfold txt
  congr 2
  exact zE0 (by rw [zI0])
theorem zBX (l:List Nat):(txt l).dep = 0:=rfl
theorem zSK {ρ:Rh} {e:Nat} {L:Dt} (h0:ρ[0]? = some (some (.int (e:Int)))) (he:e < 32) (hL:ixD L (.int ((e / 4:Nat):Int)) = some (txt [97 + e / 4])) :
    eB addD (eB ixD (eC L) (eB divD (eV 0) (eC (.int 4)))) (eB ixD (eC (.str "0123")) (eB modD (eV 0) (eC (.int 4)))) ρ = okR (txt (ew e)):=by
  have hq:(e:Int) / 4 = ((e / 4:Nat):Int):=by omega
  have hr:(e:Int) % 4 = ((e % 4:Nat):Int):=by omega
  have x2:=ix4 (k:=e % 4) (by omega)
  have a1:addD (txt [97 + e / 4]) (txt [48 + e % 4]) = some (txt (ew e)):=zDC (by simp)
  generalize Dt.str "0123" = F at x2 ⊢
  generalize txt [97 + e / 4] = A at hL a1 ⊢
  generalize txt [48 + e % 4] = B at x2 a1 ⊢
  generalize ((e / 4:Nat):Int) = Q at hq hL ⊢
  generalize ((e % 4:Nat):Int) = R at hr x2 ⊢
  simp [h0,hq,hr,hL,x2,a1]
theorem zJR {e:Nat} (he:e < 32):zAJ [.int (e:Int)] = okR (txt (ew e)):=by
  have x:=ix8 (k:=e / 4) (by omega)
  exact zC4 rfl (zVR (zSK rfl he x) (zSK rfl he x))
theorem zT1 {f:FM} {ρ:Rh} {i j:Nat} {p:Nat × Nat} (hf:∀ e:Nat,e < 32 → f [.int (e:Int)] = okR (txt (ew e))) (h1:ρ[i]? = some (some (.int (p.1:Int)))) (h2:ρ[j]? = some (some (.int (p.2:Int)))) (l1:p.1 < 32) (l2:p.2 < 32) :
    eB addD (eB addD (eCall f (aCons (eV i) aNil)) (eC (.str "-"))) (eCall f (aCons (eV j) aNil)) ρ = okR (txt (wordL p)):=by
  have a1:addD (txt (ew p.1)) (txt [45]) = some (txt (ew p.1 ++ [45])):=zDC (by simp [ew])
  have a2:addD (txt (ew p.1 ++ [45])) (txt (ew p.2)) = some (txt (wordL p)):=zDC (by simp [ew])
  have f1:=hf _ l1
  have f2:=hf _ l2
  have hd:Dt.str "-" = txt [45]:=by rw [zR7]; rfl
  rw [hd]
  generalize txt [45] = D at a1 ⊢
  generalize txt (ew p.1 ++ [45]) = A at a1 a2 ⊢
  generalize txt (wordL p) = W at a2 ⊢
  generalize txt (ew p.1) = E1 at a1 f1 ⊢
  generalize txt (ew p.2) = E2 at a2 f2 ⊢
  simp [h1,h2,f1,f2,a1,a2]
theorem zHY:∀ ls:List (List Nat),strsD (ls.map txt) = some (ls.map fun l=>(⟨l.toArray⟩:Str))
  | []=>rfl
  | l :: r=>by
    show (strsD (r.map txt)).map _ = _
    rw [zHY r]
    rfl
theorem zL5 (c:Nat):∀ zs:List Str,(Str.join ⟨#[c]⟩ zs).cps.toList = joinC c (zs.map (·.cps.toList))
  | []=>rfl
  | [x]=>by simp [Str.join,joinC]
  | x :: y :: r=>by
    rw [Str.join,zI0,zI0,zL5 c (y :: r)]
    · simp [joinC]
    · simp
theorem zQO {ls:List (List Nat)} (h:∀ l ∈ ls,l.length = 5) (hz:ls.length ≤ 500):joinD (.str " ") [.lst (ls.map txt)] = some (txt (joinC 32 ls)):=by
  rw [zPH]
  show (match strsD (ls.map txt) with | some zs=>@ite _ ((zs.map fun z:Str=>z.length).sum + zs.length * (⟨#[32]⟩:Str).length ≤ 100000) (qA0 _) (some (Dt.str (Str.join ⟨#[32]⟩ zs))) none | none=>none) = _
  rw [zHY]
  dsimp only
  have hs:((ls.map fun l=>(⟨l.toArray⟩:Str)).map fun z:Str=>z.length).sum = 5 * ls.length:=by
    clear hz
    induction ls with
    | nil=>rfl
    | cons l r ih =>
      simp only [qAp,qG7,qAi]
      rw [ih fun l hl=>h l (by simp [hl]),zC0]
      have:=h l (by simp)
      show l.length + 5 * r.length = 5 * (r.length + 1)
      omega
  rw [if_pos (by rw [hs,zC0]; simp; omega)]
  unfold txt
  congr 2
  refine zE0 ?_
  rw [zL5,qB1]
  congr 1
  refine (qB2 fun l _=>?_).trans (qEk _)
  simp
theorem zPQ (p:Nat × Nat):(wordL p).length = 5:=rfl
theorem zL3 {l:List Nat} (h:l.length ≤ 1000):lenD [txt l] = some (.int (l.length:Int)):=by
  show (@ite _ ((⟨l.toArray⟩:Str).length ≤ 100000) (qA0 _) (some (Dt.int ((⟨l.toArray⟩:Str).length:Int))) none) = _
  rw [if_pos (by rw [zC0]; simp; omega),zC0]
theorem zUI {n c k:Nat} (h:k < n):findD (.str ⟨((qA4 n).map (c + ·)).toArray⟩) [txt [c + k]] = some (.int (k:Int)):=by
  have hm:c + k ∈ (qA4 n).map (c + ·):=qAs.mpr ⟨k,qAq.mpr h,rfl⟩
  have:=zQW hm
  have hi:((qA4 n).map (c + ·)).idxOf (c + k) = k:=by
    have h1:((qA4 n).map (c + ·)).Nodup:=by
      unfold qGh
      rw [qDp]
      exact (qCv (n:=n)).imp fun h=>by omega
    have hk:k < ((qA4 n).map (c + ·)).length:=by simpa using h
    have h2:((qA4 n).map (c + ·))[k] = c + k:=by simp
    have h3:=h1.idxOf_getElem k hk
    rw [h2] at h3
    exact h3
  rw [hi] at this
  exact this
theorem cut8:slD (.str "abcdefghijklmnopqrstuvwxyz") none (some 8) = some (.str ⟨((qA4 8).map (97 + ·)).toArray⟩):=by
  rw [abcS]
  show (@ite _ ((⟨((qA4 26).map (97 + ·)).toArray⟩:Str).length ≤ 100000) (qA0 _) (some (Dt.str ⟨(cutA ((qA4 26).map (97 + ·)) none (some 8)).toArray⟩)) none) = _
  rw [if_pos (by rw [zC0]; decide)]
  congr 3
theorem no45 {e:Nat} (he:e < 32):45 ∉ ew e:=by
  simp [ew]
  omega
theorem zJ8 {c:Nat} {l:List Nat} (h:l.length ≤ 1000):splitD (txt l) [.str ⟨#[c]⟩] = some (.lst ((splitC c l).map txt)):=by
  show (@ite _ ((⟨l.toArray⟩:Str).length ≤ 1000) (qA0 _) (some (Dt.lst ((splitC c l).map txt))) none) = _
  rw [if_pos (by rw [zC0]; simpa using h)]
theorem zKM {p:Nat × Nat} {T:List (Nat × Nat)} (hne:p.1 ≠ p.2) (h1:p.1 ∉ ends T) (h2:p.2 ∉ ends T):zC5 [.lst [.int (p.1:Int),.int (p.2:Int)],.dct (kvT T)] = okR (.bl true):=by
  have g1:dinD true (.int (p.1:Int)) (.dct (kvT T)) = some (.bl true):=by
    show some (Dt.bl (!(getW (kvT T) (.inl (p.1:Int))).isSome)) = _
    rw [zD5 h1]
    rfl
  have g2:dinD true (.int (p.2:Int)) (.dct (kvT T)) = some (.bl true):=by
    show some (Dt.bl (!(getW (kvT T) (.inl (p.2:Int))).isSome)) = _
    rw [zD5 h2]
    rfl
  have i0:ixD (.lst [.int (p.1:Int),.int (p.2:Int)]) (.int 0) = some (.int (p.1:Int)):=rfl
  have i1:ixD (.lst [.int (p.1:Int),.int (p.2:Int)]) (.int 1) = some (.int (p.2:Int)):=rfl
  have hne':¬ ((p.1:Int) = (p.2:Int)):=by omega
  unfold zC5 zGP
  generalize Dt.dct (kvT T) = D at g1 g2 ⊢
  generalize Dt.lst [.int (p.1:Int),.int (p.2:Int)] = L at i0 i1 ⊢
  generalize (p.1:Int) = a at *
  generalize (p.2:Int) = b at *
  simp [i0,i1,g1,g2,hne',Dt.eq]
theorem zOU {kvs:List (Sum Int Str × Sw)} {a b:Sum Int Str} {v:Sw} (h:getW kvs b = none) (hab:a ≠ b):getW (kvs ++ [(a,v)]) b = none:=by
  unfold getW at h ⊢
  rw [qE4,qDl] at h ⊢
  intro x hx
  rcases qBr.mp hx with z | z
  · exact h x z
  · simp at z
    subst z
    simpa using hab
noncomputable def endO:List Nat → Option Nat
  | [a,b]=>if 97 ≤ a ∧ a < 105 ∧ 48 ≤ b ∧ b < 52 then some (4 * (a - 97) + (b - 48)) else none
  | _=>none
def tieO (w:List Nat):Option (Nat × Nat):=match endO (w.take 2),endO (w.drop 3) with
  | some a,some b=>if (w.drop 2).take 1 = [45] then some (a,b) else none
  | _,_=>none
noncomputable def enD:Option Nat → Dt
  | some e=>.int (e:Int)
  | none=>.non
theorem zCQ (a b:Nat):endO [a,b] = if 97 ≤ a ∧ a < 105 ∧ 48 ≤ b ∧ b < 52 then some (4 * (a - 97) + (b - 48)) else none:=rfl
theorem zIO {l:List Nat} (h:l.length ≠ 2):endO l = none:=by
  match l,h with
  | [],_=>rfl
  | [a],_=>rfl
  | [a,b],h=>exact absurd rfl h
  | a :: b :: c :: r,_=>rfl
theorem zD1 {l:List Nat} {e:Nat} (h:endO l = some e):e < 32 ∧ l = ew e:=by
  by_cases h2:l.length = 2
  · match l,h2,h with
    | [a,b],_,h =>
      rw [zCQ] at h
      split at h
      · rename_i hz
        have h':=qAx h
        subst h'
        refine ⟨by omega,?_⟩
        unfold ew
        congr 1
        · omega
        · congr 1
          omega
      · cases h
  · rw [zIO h2] at h
    cases h
theorem zIP {e:Nat} (h:e < 32):endO (ew e) = some e:=by
  unfold ew
  rw [zCQ,if_pos (by omega)]
  congr 1
  omega
theorem zGE (c:Nat):∀ l:List Nat,joinC c (splitC c l) = l
  | []=>rfl
  | x :: r=>by
    have ih:=zGE c r
    have hne:=zCV c r
    show joinC c (if x = c then [] :: splitC c r else match splitC c r with | []=>[[x]] | p :: ps=>(x :: p) :: ps) = _
    cases hs:splitC c r with
    | nil=>exact absurd hs hne
    | cons p ps =>
      rw [hs] at ih
      split
      · rename_i h
        subst h
        show ([]:List Nat) ++ x :: joinC x (p :: ps) = _
        rw [ih]
        rfl
      · dsimp only
        cases ps with
        | nil =>
          have ih':p = r:=ih
          show x :: p = _
          rw [ih']
        | cons q ps =>
          show (x :: p) ++ c :: joinC c (q :: ps) = _
          have ih':p ++ c :: joinC c (q :: ps) = r:=ih
          rw [← ih']
          rfl
def tieS (ps:List (List Nat)):Option (Nat × Nat):=match ps with
  | [p,q]=>match endO p,endO q with
    | some a,some b=>some (a,b)
    | _,_=>none
  | _=>none
theorem zT6 (w:List Nat):tieS (splitC 45 w) = tieO w:=by
  cases h:tieO w with
  | some p =>
    unfold tieO at h
    cases h1:endO (w.take 2) with
    | none=>rw [h1] at h; cases h
    | some a =>
      cases h2:endO (w.drop 3) with
      | none=>rw [h1,h2] at h; cases h
      | some b =>
        rw [h1,h2] at h
        dsimp only at h
        split at h
        · rename_i h3
          cases h
          obtain ⟨la,ea⟩:=zD1 h1
          obtain ⟨lb,eb⟩:=zD1 h2
          have hw:w = joinC 45 [ew a,ew b]:=by
            show w = ew a ++ 45 :: ew b
            rw [← ea,← eb]
            have e1:=(qD1 2 w).symm
            have e2:=(qD1 1 (w.drop 2)).symm
            rw [h3,qFr] at e2
            rw [e2] at e1
            exact e1
          rw [hw,splitC_join 45 _ (by simp) (by simp [no45 la,no45 lb])]
          show (match endO (ew a),endO (ew b) with | some a,some b=>some (a,b) | _,_=>none) = _
          rw [zIP la,zIP lb]
        · cases h
  | none =>
    cases h2:tieS (splitC 45 w) with
    | none=>rfl
    | some p =>
      exfalso
      have hj:=zGE 45 w
      unfold tieS at h2
      split at h2
      · rename_i p q hs
        cases e1:endO p with
        | none=>rw [e1] at h2; cases h2
        | some a =>
          cases e2:endO q with
          | none=>rw [e1,e2] at h2; cases h2
          | some b =>
            obtain ⟨la,ea⟩:=zD1 e1
            obtain ⟨lb,eb⟩:=zD1 e2
            rw [hs,ea,eb] at hj
            have hj':ew a ++ 45 :: ew b = w:=hj
            unfold tieO at h
            rw [← hj'] at h
            have t1:(ew a ++ 45 :: ew b).take 2 = ew a:=rfl
            have t2:(ew a ++ 45 :: ew b).drop 3 = ew b:=rfl
            have t3:((ew a ++ 45 :: ew b).drop 2).take 1 = [45]:=rfl
            rw [t1,t2,t3,zIP la,zIP lb] at h
            simp at h
      · cases h2
theorem zW7 {n c k:Nat}:posC k ((qA4 n).map (c + ·)) = if c ≤ k ∧ k < c + n then some (k - c) else none:=by
  split
  · rename_i h
    have hm:k ∈ (qA4 n).map (c + ·):=qAs.mpr ⟨k - c,qAq.mpr (by omega),by omega⟩
    have h1:=zUI (n:=n) (c:=c) (k:=k - c) (by omega)
    rw [show c + (k - c) = k by omega] at h1
    have h2:findD (.str ⟨((qA4 n).map (c + ·)).toArray⟩) [txt [k]] = some (.int (match posC k ((qA4 n).map (c + ·)) with | some i=>(i:Int) | none=>-1)):=rfl
    rw [h2] at h1
    rw [zI8 hm] at h1 ⊢
    have h3:=qAx h1
    have h4:(((((qA4 n).map (c + ·)).idxOf k:Nat)):Int) = ((k - c:Nat):Int):=by simpa using h3
    congr 1
    omega
  · rename_i h
    cases e:posC k ((qA4 n).map (c + ·)) with
    | none=>rfl
    | some i =>
      exfalso
      have key:∀ (l:List Nat) (i:Nat),posC k l = some i → k ∈ l:=by
        intro l
        induction l with
        | nil=>intro i h; cases h
        | cons a r ih =>
          intro i h
          unfold posC at h
          split at h
          · rename_i z; subst z; simp
          · cases e:posC k r with
            | none=>rw [e] at h; cases h
            | some j=>exact qAh _ (ih j e)
      obtain ⟨q,q1,q2⟩:=qAs.mp (key _ _ e)
      have:=qAq.mp q1
      omega
theorem zFG {n c k:Nat}:findD (.str ⟨((qA4 n).map (c + ·)).toArray⟩) [txt [k]] = some (.int (if c ≤ k ∧ k < c + n then ((k - c:Nat):Int) else -1)):=by
  show some (Dt.int (match posC k ((qA4 n).map (c + ·)) with | some i=>(i:Int) | none=>-1)) = _
  rw [zW7]
  by_cases h:c ≤ k ∧ k < c + n
  · rw [if_pos h,if_pos h]
  · rw [if_neg h,if_neg h]
theorem zSA {n c k:Nat}:inD true (txt [k]) (.str ⟨((qA4 n).map (c + ·)).toArray⟩) = some (.bl (!decide (c ≤ k ∧ k < c + n))):=by
  show some (Dt.bl (!decide (k ∈ (qA4 n).map (c + ·)))) = _
  congr 3
  rw [decide_eq_decide]
  constructor
  · intro h
    obtain ⟨q,q1,q2⟩:=qAs.mp h
    have:=qAq.mp q1
    omega
  · intro h
    exact qAs.mpr ⟨k - c,qAq.mpr (by omega),by omega⟩
theorem zK3 {l:List Nat} (hl:l.length ≤ 1000):zBZ [txt l] = okR (enD (endO l)):=by
  have hlen:=zL3 hl
  by_cases h2:l.length = 2
  · match l,h2 with
    | [a,b],_ =>
      have x0:ixD (txt [a,b]) (.int 0) = some (txt [a]):=zHK (cs:=[a,b]) (k:=0) (by simp) (by simp)
      have x1:ixD (txt [a,b]) (.int 1) = some (txt [b]):=zHK (cs:=[a,b]) (k:=1) (by simp) (by simp)
      replace hlen:lenD [txt [a,b]] = some (.int 2):=hlen
      have hc:=cut8
      have f0:=zFG (n:=8) (c:=97) (k:=a)
      have f1:=zFG (n:=4) (c:=48) (k:=b)
      rw [← figS] at f1
      have hd:=zBX [a,b]
      have tF:zCP (.str "0123") = true:=rfl
      have tC:zCP (.str ⟨((qA4 8).map (97 + ·)).toArray⟩) = true:=rfl
      have i0:∀ (k:Int) (n:Nat),(Dt.int k).dep ≤ n:=fun k n=>qAy n
      have lt0:∀ {e:EM} {ρ:Rh} {u:Int} {k:Bool},e ρ = okR (.int u) → decide (u < 0) = k → tB (eB (cmpD fun i j=>decide (i < j)) e (eC (.int 0))) ρ = okR k:=fun h hk=>tb1 (b2 h rfl (congrArg (fun b=>some (Dt.bl b)) hk))
      by_cases ha:97 ≤ a ∧ a < 97 + 8
      · rw [if_pos ha] at f0
        by_cases hb:48 ≤ b ∧ b < 48 + 4
        · rw [if_pos hb] at f1
          have he:endO [a,b] = some (4 * (a - 97) + (b - 48)):=by rw [zCQ,if_pos (by omega)]
          rw [he]
          have m0:mulD (.int ((a - 97:Nat):Int)) (.int 4) = some (.int (((a - 97:Nat):Int) * 4)):=zY7 (by omega) (by omega)
          have hk:addD (.int (((a - 97:Nat):Int) * 4)) (.int ((b - 48:Nat):Int)) = some (.int ((4 * (a - 97) + (b - 48):Nat):Int)):=congrArg (fun z=>some (Dt.int z)) (by omega)
          exact zC4 rfl (sp (nei (bi1 rfl hlen) rfl rfl) (sg (mt1 (sl0 rfl rfl hc) tC (b2 rfl rfl x0) f0) (i0 _ _) (sg (mt1 rfl tF (b2 rfl rfl x1) f1) (i0 _ _) (sp (to0 (lt0 rfl (decide_eq_false (by omega))) (lt0 rfl (decide_eq_false (by omega)))) (sr (b2 (b2 rfl rfl m0) rfl hk) ⟨i0 _ _,i0 _ _⟩)))))
        · rw [if_neg hb] at f1
          have he:endO [a,b] = none:=by rw [zCQ,if_neg (by omega)]
          rw [he]
          exact zC4 rfl (sp (nei (bi1 rfl hlen) rfl rfl) (sg (mt1 (sl0 rfl rfl hc) tC (b2 rfl rfl x0) f0) (i0 _ _) (sg (mt1 rfl tF (b2 rfl rfl x1) f1) (i0 _ _) (sx (to0 (lt0 rfl (decide_eq_false (by omega))) (lt0 rfl rfl)) (sr rfl ⟨qAy 1,qAy 1⟩)))))
      · rw [if_neg ha] at f0
        have he:endO [a,b] = none:=by rw [zCQ,if_neg (by omega)]
        rw [he]
        obtain ⟨v,hv⟩:∃ v:Int,findD (.str "0123") [txt [b]] = some (.int v):=⟨_,f1⟩
        exact zC4 rfl (sp (nei (bi1 rfl hlen) rfl rfl) (sg (mt1 (sl0 rfl rfl hc) tC (b2 rfl rfl x0) f0) (i0 _ _) (sg (mt1 rfl tF (b2 rfl rfl x1) hv) (i0 _ _) (sx (to1 (lt0 rfl rfl)) (sr rfl ⟨qAy 1,qAy 1⟩)))))
  · have he:endO l = none:=zIO h2
    rw [he]
    exact zC4 rfl (sx (nei (bi1 rfl hlen) rfl (by rw [decide_eq_false (by omega)]; rfl)) (sr rfl ⟨qAy 1,qAy 1⟩))
theorem zHO {l:List Nat} (hl:l.length ≤ 1000):zAM [txt l] = okR (enD (endO l)):=by
  have hlen:=zL3 hl
  by_cases h2:l.length = 2
  · match l,h2 with
    | [a,b],_ =>
      have x0:ixD (txt [a,b]) (.int 0) = some (txt [a]):=zHK (cs:=[a,b]) (k:=0) (by simp) (by simp)
      have x1:ixD (txt [a,b]) (.int 1) = some (txt [b]):=zHK (cs:=[a,b]) (k:=1) (by simp) (by simp)
      replace hlen:lenD [txt [a,b]] = some (.int 2):=hlen
      have f0:=zFG (n:=8) (c:=97) (k:=a)
      have f1:=zFG (n:=4) (c:=48) (k:=b)
      have i0:=zSA (n:=8) (c:=97) (k:=a)
      have i1:=zSA (n:=4) (c:=48) (k:=b)
      rw [← figS] at f1 i1
      rw [← ahS] at f0 i0
      have hd:=zBX [a,b]
      have tF:zCP (.str "0123") = true:=rfl
      have tC:zCP (.str "abcdefgh") = true:=rfl
      unfold zAM zDA
      generalize Dt.str "0123" = F at f1 i1 tF ⊢
      generalize Dt.str "abcdefgh" = C at f0 i0 tC ⊢
      generalize txt [a] = P at x0 f0 i0 ⊢
      generalize txt [b] = Q at x1 f1 i1 ⊢
      generalize txt [a,b] = W at hlen x0 x1 hd ⊢
      by_cases ha:97 ≤ a ∧ a < 97 + 8
      · rw [if_pos ha] at f0
        rw [decide_eq_true ha] at i0
        by_cases hb:48 ≤ b ∧ b < 48 + 4
        · rw [if_pos hb] at f1
          rw [decide_eq_true hb] at i1
          have he:endO [a,b] = some (4 * (a - 97) + (b - 48)):=by rw [zCQ,if_pos (by omega)]
          rw [he]
          have m0:mulD (.int 4) (.int ((a - 97:Nat):Int)) = some (.int (4 * ((a - 97:Nat):Int))):=zU5 (by omega) (by omega)
          have hk:4 * ((a - 97:Nat):Int) + ((b - 48:Nat):Int) = ((4 * (a - 97) + (b - 48):Nat):Int):=by omega
          show _ = okR (Dt.int ((4 * (a - 97) + (b - 48):Nat):Int))
          generalize ((4 * (a - 97) + (b - 48):Nat):Int) = Z at hk ⊢
          generalize ((a - 97:Nat):Int) = q at *
          generalize ((b - 48:Nat):Int) = r at *
          simp [tF,tC,hlen,x0,x1,f0,f1,i0,i1,m0,hk,Dt.eq,hd,-zT5]
        · rw [decide_eq_false hb] at i1
          have he:endO [a,b] = none:=by rw [zCQ,if_neg (by omega)]
          rw [he]
          simp [tF,tC,hlen,x0,x1,i0,i1,Dt.eq,hd,enD]
      · rw [decide_eq_false ha] at i0
        have he:endO [a,b] = none:=by rw [zCQ,if_neg (by omega)]
        rw [he]
        simp [tF,tC,hlen,x0,x1,i0,i1,Dt.eq,hd,enD]
  · have he:endO l = none:=zIO h2
    rw [he]
    have h2':¬ ((l.length:Int) = 2):=by omega
    unfold zAM zDA
    generalize txt l = W at hlen ⊢
    generalize (l.length:Int) = N at hlen h2' ⊢
    simp [hlen,h2',Dt.eq,enD]
noncomputable def prO:Option (Nat × Nat) → Dt
  | some p=>.lst [.int (p.1:Int),.int (p.2:Int)]
  | none=>.non
theorem zCU (c:Nat):∀ l:List Nat,(splitC c l).length ≤ l.length + 1 ∧ ∀ p ∈ splitC c l,p.length ≤ l.length
  | []=>by simp [splitC]
  | x :: r=>by
    obtain ⟨h1,h2⟩:=zCU c r
    have e:splitC c (x :: r) = if x = c then [] :: splitC c r else match splitC c r with | []=>[[x]] | p :: ps=>(x :: p) :: ps:=rfl
    rw [e]
    cases hs:splitC c r with
    | nil=>exact absurd hs (zCV c r)
    | cons p ps =>
      rw [hs] at h1 h2
      simp only [qAi] at h1 ⊢
      split
      · refine ⟨by simp only [qAi]; omega,fun q hq=>?_⟩
        rcases qA9.mp hq with rfl | hq
        · simp
        · have:=h2 q hq; omega
      · refine ⟨by simp only [qAi]; omega,fun q hq=>?_⟩
        rcases qA9.mp hq with rfl | hq
        · have:=h2 p (by simp); simp only [qAi]; omega
        · have:=h2 q (qAh _ hq); omega
theorem zM5 {r:Ro} {i k:Nat} {e1 e2:EM} {a b:Int} {kvs:List (Sum Int Str × Sw)} (h:r[i]? = some (some (.dct kvs,k + 1))) (h2:e2 (full r) = okR (.int b)) (h1:e1 (full r) = okR (.int a)) (hz:kvs.length ≤ 10000) (hn:getW kvs (.inl a) = none) :
    sDput i e1 e2 r = okR (.nx (r.set i (some (.dct (kvs ++ [(.inl a,.int b)]),k + 1)))):=by
  unfold sDput
  rw [h2,bindR_ok,h]
  dsimp only
  rw [h1,bindR_ok]
  show (@ite _ (kvs.length ≤ 100000) (qA0 _) (okR (Out.nx (r.set i (some (.dct (putW kvs (.inl a) (.int b)),k + 1))))) none) = _
  rw [if_pos (by omega),zTR hn]
theorem zJ4 {w:List Nat} (hw:w.length ≤ 900):zBS [txt w] = okR (prO (tieO w)):=by
  rw [← zT6]
  obtain ⟨sl,sp⟩:=zCU 45 w
  have hs:splitD (txt w) [.str "-"] = some (.lst ((splitC 45 w).map txt)):=by rw [zR7]; exact zJ8 (by omega)
  generalize splitC 45 w = ps at hs sl sp ⊢
  have hd:=zBX w
  have hc:eComp (iSq (eMt splitD (eV 0) (aCons (eC (.str "-")) aNil))) 1 (.one 2) Mi.tYes (eCall zBZ (aCons (eV 2) aNil)) [some (txt w),none] = okR (.lst (ps.map fun p=>enD (endO p))):=by
    have tW:zCP (txt w) = true:=rfl
    generalize Dt.str "-" = D at hs ⊢
    generalize txt w = W at hs tW ⊢
    have hi:iSq (eMt splitD (eV 0) (aCons (eC D) aNil)) [some W,none] = okR (ps.map txt):=by
      simp [hs,tW]
    unfold eComp
    rw [hi,bindR_ok,if_pos ⟨by simp; omega,by simp [Tg.idx]⟩]
    have:=zD7 (ρ:=[some W,none]) (k:=1) (tg:=.one 2) (c:=Mi.tYes) (e:=eCall zBZ (aCons (eV 2) aNil)) (fun d=>match d with | .str z=>enD (endO z.cps.toList) | d=>d) (ps.map txt) [] fun d hd=>by
      obtain ⟨p,hp,rfl⟩:=qAs.mp hd
      refine ⟨[(2,txt p)],rfl,rfl,?_⟩
      have h1:=zK3 (l:=p) (by have:=sp p hp; omega)
      show eCall zBZ (aCons (eV 2) aNil) [some W,none,some (txt p)] = okR (enD (endO p))
      generalize txt p = Z at h1 ⊢
      simp [h1]
    rw [this,bindR_ok,qFe,qB1]
    rfl
  have d0:∀ o,(enD o).dep = 0:=fun o=>by cases o <;> rfl
  have hdl:∀ l:List (List Nat),Dt.depL (l.map fun p=>enD (endO p)) = 0:=fun l=>zUH fun d hd=>by
    obtain ⟨p,_,rfl⟩:=qAs.mp hd
    exact d0 _
  have hdp:=hdl ps
  unfold zBS zHS
  refine zC4 rfl ?_
  show sSeq _ _ [some (txt w,0),none] = _
  generalize txt w = W at hc hd ⊢
  have s1:sSet 1 2 [0] (eComp (iSq (eMt splitD (eV 0) (aCons (eC (.str "-")) aNil))) 1 (.one 2) Mi.tYes (eCall zBZ (aCons (eV 2) aNil))) [some (W,0),none] = okR (.nx [some (W,0),some (.lst (ps.map fun p=>enD (endO p)),2)]):=by
    rw [zFL]
    show zA2 (eComp _ _ _ _ _ [some W,none]) _ = _
    rw [hc,bindR_ok,if_pos (by rw [Dt.dep,hdp]; omega)]
    rfl
  rw [zAP,s1,bindR_ok]
  dsimp only
  clear s1 hc
  by_cases h2:ps.length = 2
  · match ps,h2 with
    | [p,q],_ =>
      have hh:hasD .non [enD (endO p),enD (endO q)] = some ((endO p).isNone || (endO q).isNone):=by
        unfold hasD
        rw [if_pos ⟨rfl,by simp [Dt.depL,d0]⟩]
        cases endO p <;> cases endO q <;> rfl
      show sSeq _ _ [some (W,0),some (.lst [enD (endO p),enD (endO q)],2)] = okR (.rt (prO (match endO p,endO q with | some a,some b=>some (a,b) | _,_=>none)))
      cases e1:endO p with
      | none =>
        rw [e1] at hh
        cases e2:endO q with
        | none=>rw [e2] at hh; simp [inD,hh,Dt.eq,enD] at *; simp [inD,hh,Dt.eq,enD,prO]
        | some b=>rw [e2] at hh; simp [inD,hh,Dt.eq,enD] at *; simp [inD,hh,Dt.eq,enD,prO]
      | some a =>
        rw [e1] at hh
        cases e2:endO q with
        | none=>rw [e2] at hh; simp [inD,hh,Dt.eq,enD] at *; simp [inD,hh,Dt.eq,enD,prO]
        | some b=>rw [e2] at hh; simp [inD,hh,Dt.eq,enD] at *; simp [inD,hh,Dt.eq,enD,prO]
  · have he:tieS ps = none:=by
      match ps,h2 with
      | [],_=>rfl
      | [p],_=>rfl
      | [p,q],h=>exact absurd rfl h
      | a :: b :: c :: r,_=>rfl
    rw [he]
    have h2':¬ (((ps.map fun p=>enD (endO p)).length:Int) = 2):=by simp; omega
    have hl:lenD [.lst (ps.map fun p=>enD (endO p))] = some (.int ((ps.map fun p=>enD (endO p)).length:Int)):=rfl
    generalize Dt.lst (ps.map fun p=>enD (endO p)) = D at hl ⊢
    generalize ((ps.map fun p=>enD (endO p)).length:Int) = N at hl h2' ⊢
    simp [hl,h2',Dt.eq,prO]
theorem zJZ (T:List (Nat × Nat)) (e:Nat):(getW (kvT T) (.inl (e:Int))).isSome = decide (e ∈ ends T):=by
  by_cases h:e ∈ ends T
  · rw [decide_eq_true h]
    unfold getW
    rw [qBv,List.find?_isSome]
    obtain ⟨p,h1,h2⟩:=mem_ends.mp h
    rcases h2 with rfl | rfl
    · exact ⟨(.inl (p.1:Int),.int (p.2:Int)),qD6.mpr ⟨p,h1,by simp⟩,by simp⟩
    · exact ⟨(.inl (p.2:Int),.int (p.1:Int)),qD6.mpr ⟨p,h1,by simp⟩,by simp⟩
  · rw [decide_eq_false h,zD5 h]
    rfl
def okT (T:List (Nat × Nat)) (p:Nat × Nat):Prop:=p.1 ≠ p.2 ∧ p.1 ∉ ends T ∧ p.2 ∉ ends T
theorem zU3 {p:Nat × Nat} {T:List (Nat × Nat)} (h:¬ okT T p):zC5 [.lst [.int (p.1:Int),.int (p.2:Int)],.dct (kvT T)] = okR (.bl false):=by
  have g1:dinD true (.int (p.1:Int)) (.dct (kvT T)) = some (.bl (!decide (p.1 ∈ ends T))):=by
    rw [← zJZ]; rfl
  have g2:dinD true (.int (p.2:Int)) (.dct (kvT T)) = some (.bl (!decide (p.2 ∈ ends T))):=by
    rw [← zJZ]; rfl
  have i0:ixD (.lst [.int (p.1:Int),.int (p.2:Int)]) (.int 0) = some (.int (p.1:Int)):=rfl
  have i1:ixD (.lst [.int (p.1:Int),.int (p.2:Int)]) (.int 1) = some (.int (p.2:Int)):=rfl
  unfold zC5 zGP
  generalize Dt.dct (kvT T) = D at g1 g2 ⊢
  generalize Dt.lst [.int (p.1:Int),.int (p.2:Int)] = L at i0 i1 ⊢
  unfold okT at h
  by_cases h1:p.1 = p.2
  · have:(p.1:Int) = (p.2:Int):=by omega
    generalize (p.1:Int) = a at *
    generalize (p.2:Int) = b at *
    subst this
    simp [i0,i1,Dt.eq]
  · have hne:¬ ((p.1:Int) = (p.2:Int)):=by omega
    by_cases h2:p.1 ∈ ends T
    · rw [decide_eq_true h2] at g1
      generalize (p.1:Int) = a at *
      generalize (p.2:Int) = b at *
      simp [i0,i1,g1,hne,Dt.eq]
    · have h3:p.2 ∈ ends T:=qCh fun z=>h ⟨h1,h2,z⟩
      rw [decide_eq_false h2] at g1
      rw [decide_eq_true h3] at g2
      generalize (p.1:Int) = a at *
      generalize (p.2:Int) = b at *
      simp [i0,i1,g1,g2,hne,Dt.eq]
noncomputable def rdW:Nat → List (List Nat) → List (Nat × Nat) → Sum Nat (List (Nat × Nat))
  | _,[],T=>.inr T
  | k,w :: ws,T=>match tieO w with
    | none=>.inl k
    | some p=>@ite _ (okT T p) (qA0 _) (rdW (k + 1) ws (T ++ [p])) (.inl k)
theorem zT7 {w:List Nat} {p:Nat × Nat} (h:tieO w = some p):p.1 < 32 ∧ p.2 < 32:=by
  unfold tieO at h
  cases h1:endO (w.take 2) with
  | none=>rw [h1] at h; cases h
  | some a =>
    cases h2:endO (w.drop 3) with
    | none=>rw [h1,h2] at h; cases h
    | some b =>
      rw [h1,h2] at h
      dsimp only at h
      split at h
      · cases h
        exact ⟨(zD1 h1).1,(zD1 h2).1⟩
      · cases h
theorem zFJ (S:List (Nat × Nat)):(ends S).length = 2 * S.length:=by
  induction S with
  | nil=>rfl
  | cons p S ih=>show (ends S).length + 1 + 1 = 2 * (S.length + 1); omega
noncomputable abbrev zF1:SM:=(sSeq (sSet 5 2 [4] (eCallN zBS (aCons (eV 4) aNil)))
  (sSeq (sIf (Mi.tOr (tB (eB isD (eV 5) (eC .non))) (tNo (tM (eCallN zC5 (aCons (eV 5) (aCons (eV 2) aNil)))))) (sRaise "NoText" "at" (aCons (eV 3) aNil)) sNil)
  (sSeq (sDput 2 (eB ixD (eV 5) (eC (.int 0))) (eB ixD (eV 5) (eC (.int 1))))
  (sDput 2 (eB ixD (eV 5) (eC (.int 1))) (eB ixD (eV 5) (eC (.int 0)))))))
theorem zWL {X W:Dt}:∀ (ws:List (List Nat)) (k:Nat) (T:List (Nat × Nat)) (o3 o4 o5:Option Sl),(∀ w ∈ ws,w.length ≤ 900) → T.length + ws.length ≤ 1500 →
    (∃ j,rdW k ws T = .inl j ∧ forGo (.tup [3,4]) zF1 (enumD k (ws.map txt)) [some (X,0),some (W,0),some (.dct (kvT T),1),o3,o4,o5] = some (.error ⟨"NoText","at",.int (j:Int)⟩)) ∨
    (∃ T' o3' o4' o5',rdW k ws T = .inr T' ∧ forGo (.tup [3,4]) zF1 (enumD k (ws.map txt)) [some (X,0),some (W,0),some (.dct (kvT T),1),o3,o4,o5] = okR (.nx [some (X,0),some (W,0),some (.dct (kvT T'),1),o3',o4',o5']))
  | [],k,T,o3,o4,o5,_,_=>.inr ⟨T,o3,o4,o5,rfl,rfl⟩
  | w :: ws,k,T,o3,o4,o5,hw,hz=>by
    have ht:=zJ4 (hw w (by simp))
    have hd:=zBX w
    simp only [qAi] at hz
    have er:rdW k (w :: ws) T = (match tieO w with | none=>qCm k | some p=>@ite _ (okT T p) (qA0 _) (rdW (k + 1) ws (T ++ [p])) (qCm k)):=rfl
    rw [er]
    have st:∀ r:Ro,r = [some (X,0),some (W,0),some (.dct (kvT T),1),some (.int (k:Int),0),some (txt w,0),o5] → forGo (.tup [3,4]) zF1 (enumD k ((w :: ws).map txt)) [some (X,0),some (W,0),some (.dct (kvT T),1),o3,o4,o5] = zA2 (zF1 r) fun o=>match o with | .nx ρ'=>forGo (.tup [3,4]) zF1 (enumD (k + 1) (ws.map txt)) ρ' | .ct ρ'=>forGo (.tup [3,4]) zF1 (enumD (k + 1) (ws.map txt)) ρ' | .bk ρ'=>okR (.nx ρ') | .rt d=>okR (.rt d):=by
      rintro r rfl
      rfl
    rw [st _ rfl]
    clear st
    cases e:tieO w with
    | none =>
      rw [e] at ht
      refine .inl ⟨k,rfl,?_⟩
      have:zF1 [some (X,0),some (W,0),some (.dct (kvT T),1),some (.int (k:Int),0),some (txt w,0),o5] = some (.error ⟨"NoText","at",.int (k:Int)⟩):=by
        unfold zF1
        generalize Dt.dct (kvT T) = D
        generalize txt w = V at ht hd ⊢
        generalize (k:Int) = J
        simp [ht,prO,isD,isNonD]
      rw [this]
      rfl
    | some p =>
      rw [e] at ht
      dsimp only
      by_cases ho:okT T p
      · rw [if_pos ho]
        obtain ⟨u1,u2,u3⟩:=ho
        have t2:=zKM u1 u2 u3
        have g1:=zD5 u2
        have g2:=zOU (v:=.int (p.2:Int)) (a:=.inl (p.1:Int)) (zD5 u3) (fun z=>u1 (by have:=qF6 z; omega))
        have hkt:kvT (T ++ [p]) = kvT T ++ [(.inl (p.1:Int),.int (p.2:Int))] ++ [(.inl (p.2:Int),.int (p.1:Int))]:=by
          rw [zS4,qCd]
          rfl
        have kl:(kvT T).length ≤ 3000:=by rw [zM0,zFJ]; omega
        have hb:zF1 [some (X,0),some (W,0),some (.dct (kvT T),1),some (.int (k:Int),0),some (txt w,0),o5] = okR (.nx [some (X,0),some (W,0),some (.dct (kvT (T ++ [p])),1),some (.int (k:Int),0),some (txt w,0),some (.lst [.int (p.1:Int),.int (p.2:Int)],2)]):=by
          rw [hkt]
          generalize (k:Int) = J
          replace ht:zBS [txt w] = okR (.lst [.int (p.1:Int),.int (p.2:Int)]):=ht
          generalize txt w = V at ht hd ⊢
          have c1:sSet 5 2 [4] (eCallN zBS (aCons (eV 4) aNil)) [some (X,0),some (W,0),some (.dct (kvT T),1),some (.int J,0),some (V,0),o5] = okR (.nx [some (X,0),some (W,0),some (.dct (kvT T),1),some (.int J,0),some (V,0),some (.lst [.int (p.1:Int),.int (p.2:Int)],2)]):=by
            generalize Dt.dct (kvT T) = D
            simp [ht]
          have c2:sIf (Mi.tOr (tB (eB isD (eV 5) (eC .non))) (tNo (tM (eCallN zC5 (aCons (eV 5) (aCons (eV 2) aNil)))))) (sRaise "NoText" "at" (aCons (eV 3) aNil)) sNil [some (X,0),some (W,0),some (.dct (kvT T),1),some (.int J,0),some (V,0),some (.lst [.int (p.1:Int),.int (p.2:Int)],2)] = okR (.nx [some (X,0),some (W,0),some (.dct (kvT T),1),some (.int J,0),some (V,0),some (.lst [.int (p.1:Int),.int (p.2:Int)],2)]):=by
            generalize Dt.dct (kvT T) = D at t2 ⊢
            simp [t2,isD,isNonD]
          unfold zF1
          rw [zAP,c1,bindR_ok]
          dsimp only
          rw [zAP,c2,bindR_ok]
          dsimp only
          rw [zAP,zM5 (i:=2) (k:=0) (a:=(p.1:Int)) (b:=(p.2:Int)) rfl rfl rfl (by omega) g1,bindR_ok]
          exact zM5 (i:=2) (k:=0) (a:=(p.2:Int)) (b:=(p.1:Int)) rfl rfl rfl (by rw [qAt]; simp; omega) g2
        rw [hb]
        rcases zWL (X:=X) (W:=W) ws (k + 1) (T ++ [p]) (some (.int (k:Int),0)) (some (txt w,0)) (some (.lst [.int (p.1:Int),.int (p.2:Int)],2)) (fun x hx=>hw x (by simp [hx])) (by simp; omega) with ⟨j,q1,q2⟩ | ⟨T',a,b,c,q1,q2⟩
        · exact .inl ⟨j,q1,by rw [bindR_ok]; exact q2⟩
        · exact .inr ⟨T',a,b,c,q1,by rw [bindR_ok]; exact q2⟩
      · rw [if_neg ho]
        refine .inl ⟨k,rfl,?_⟩
        have t2:=zU3 ho
        have:zF1 [some (X,0),some (W,0),some (.dct (kvT T),1),some (.int (k:Int),0),some (txt w,0),o5] = some (.error ⟨"NoText","at",.int (k:Int)⟩):=by
          unfold zF1
          replace ht:zBS [txt w] = okR (.lst [.int (p.1:Int),.int (p.2:Int)]):=ht
          generalize Dt.dct (kvT T) = D at t2 ⊢
          generalize txt w = V at ht hd ⊢
          generalize (k:Int) = J
          simp [ht,t2,isD,isNonD]
        rw [this]
        rfl
theorem zFU {l:List Nat} {lo hi:Option Int} (h:l.length ≤ 1000):slD (txt l) lo hi = some (txt (cutA l lo hi)):=by
  show (@ite _ ((⟨l.toArray⟩:Str).length ≤ 100000) (qA0 _) (some (Dt.str ⟨(cutA l lo hi).toArray⟩)) none) = _
  rw [if_pos (by rw [zC0]; simp; omega)]
  rfl
theorem zYE (l:List Nat):cutA l (some 2) (some 3) = (l.drop 2).take 1:=by
  unfold cutA cutIx
  match l with
  | []=>rfl
  | [a]=>rfl
  | [a,b]=>rfl
  | a :: b :: c :: r =>
    simp
noncomputable abbrev zH2:SM:=(sSeq (sSet 5 1 [4] (eCall zAM (aCons (eSl (eV 4) oNo (oE (eC (.int 2)))) aNil)))
  (sSeq (sSet 6 1 [4] (eCall zAM (aCons (eSl (eV 4) (oE (eC (.int 3))) oNo) aNil)))
  (sSeq (sIf (Mi.tOr (tB (eB isD (eV 5) (eC .non))) (Mi.tOr (tB (eB isD (eV 6) (eC .non))) (tB (eB neD (eSl (eV 4) (oE (eC (.int 2))) (oE (eC (.int 3)))) (eC (.str "-")))))) (sRet 2 1 [3] (eTup (aCons (eV 3) (aCons (eC .non) aNil)))) sNil)
  (sSeq (sIf (Mi.tOr (tB (eB eqD (eV 5) (eV 6))) (Mi.tOr (tB (eB (dinD false) (eV 5) (eV 1))) (tB (eB (dinD false) (eV 6) (eV 1))))) (sRet 2 1 [3] (eTup (aCons (eV 3) (aCons (eC .non) aNil)))) sNil)
  (sSeq (sDput 1 (eV 5) (eV 6))
  (sDput 1 (eV 6) (eV 5)))))))
theorem zVA (a b:List Nat):Dt.eq (txt a) (txt b) = decide (a = b):=by
  show ((⟨a.toArray⟩:Str) == ⟨b.toArray⟩) = _
  rw [qCo]
  simp
theorem zRB {X W:Dt} {T:List (Nat × Nat)} {w:List Nat} {k:Nat} {o5 o6:Option Sl} (hw:w.length ≤ 900) (hz:T.length ≤ 1500) :
    (∀ p,tieO w = some p → okT T p → ∃ a b,zH2 [some (X,0),some (.dct (kvT T),1),some (W,0),some (.int (k:Int),0),some (txt w,0),o5,o6] = okR (.nx [some (X,0),some (.dct (kvT (T ++ [p])),1),some (W,0),some (.int (k:Int),0),some (txt w,0),a,b])) ∧
    ((∀ p,tieO w = some p → ¬ okT T p) → zH2 [some (X,0),some (.dct (kvT T),1),some (W,0),some (.int (k:Int),0),some (txt w,0),o5,o6] = okR (.rt (.tup [.int (k:Int),.non]))):=by
  have s1:=zFU (l:=w) (lo:=none) (hi:=some 2) (by omega)
  have s2:=zFU (l:=w) (lo:=some 3) (hi:=none) (by omega)
  have s3:=zFU (l:=w) (lo:=some 2) (hi:=some 3) (by omega)
  rw [show cutA w none (some 2) = w.take 2 from zM8 w 2] at s1
  rw [show cutA w (some 3) none = w.drop 3 from zEP w 3] at s2
  rw [zYE] at s3
  have e1:=zHO (l:=w.take 2) (by simp; omega)
  have e2:=zHO (l:=w.drop 3) (by simp; omega)
  have hq:Dt.eq (txt ((w.drop 2).take 1)) (.str "-") = decide ((w.drop 2).take 1 = [45]):=by
    rw [zR7]
    exact zVA _ [45]
  have dq:=zBX ((w.drop 2).take 1)
  have dd:(Dt.str "-").dep = 0:=rfl
  have ht:tieO w = (match endO (w.take 2),endO (w.drop 3) with | some a,some b=>if (w.drop 2).take 1 = [45] then some (a,b) else none | _,_=>none):=rfl
  rw [ht]
  have dw:=zBX w
  clear ht
  unfold zH2
  generalize (w.drop 2).take 1 = M at s3 hq dq ⊢
  generalize endO (w.take 2) = A at e1 ⊢
  generalize endO (w.drop 3) = B at e2 ⊢
  generalize txt (w.take 2) = P at s1 e1 ⊢
  generalize txt (w.drop 3) = Q at s2 e2 ⊢
  generalize txt M = R at s3 hq dq ⊢
  generalize txt w = V at s1 s2 s3 dw ⊢
  generalize Dt.str "-" = D at hq dd ⊢
  have d0:∀ o,(enD o).dep = 0:=fun o=>by cases o <;> rfl
  have c1:∀ o:Option Sl,sSet 5 1 [4] (eCall zAM (aCons (eSl (eV 4) oNo (oE (eC (.int 2)))) aNil)) [some (X,0),some (.dct (kvT T),1),some (W,0),some (.int (k:Int),0),some (V,0),o5,o6] = okR (.nx [some (X,0),some (.dct (kvT T),1),some (W,0),some (.int (k:Int),0),some (V,0),some (enD A,1),o6]):=fun _=>by
    exact ss (Mp.c1 (sl0 rfl rfl s1) e1) (qAo (qBx (d0 _)) (qAy 1))
  have c2:sSet 6 1 [4] (eCall zAM (aCons (eSl (eV 4) (oE (eC (.int 3))) oNo) aNil)) [some (X,0),some (.dct (kvT T),1),some (W,0),some (.int (k:Int),0),some (V,0),some (enD A,1),o6] = okR (.nx [some (X,0),some (.dct (kvT T),1),some (W,0),some (.int (k:Int),0),some (V,0),some (enD A,1),some (enD B,1)]):=by
    exact ss (Mp.c1 (sl1 rfl rfl s2) e2) (qAo (qBx (d0 _)) (qAy 1))
  have h1:∀ (z:SM),sSeq (sSet 5 1 [4] (eCall zAM (aCons (eSl (eV 4) oNo (oE (eC (.int 2)))) aNil))) (sSeq (sSet 6 1 [4] (eCall zAM (aCons (eSl (eV 4) (oE (eC (.int 3))) oNo) aNil))) z) [some (X,0),some (.dct (kvT T),1),some (W,0),some (.int (k:Int),0),some (V,0),o5,o6] = z [some (X,0),some (.dct (kvT T),1),some (W,0),some (.int (k:Int),0),some (V,0),some (enD A,1),some (enD B,1)]:=fun z=>by
    rw [zAP,c1 none,bindR_ok]
    dsimp only
    rw [zAP,c2,bindR_ok]
  rw [h1]
  clear h1 c1 c2
  have hret:∀ {r:Ro},eV 3 (full r) = okR (.int (k:Int)) → sRet 2 1 [3] (eTup (aCons (eV 3) (aCons (eC .non) aNil))) r = okR (.rt (.tup [.int (k:Int),.non])):=fun h=>sr (et2 h rfl) (by simp [Dt.depL])
  cases A with
  | none =>
    refine ⟨fun p hp=>(by cases hp),fun _=>?_⟩
    exact sx (to1 (tb1 (b2 rfl rfl rfl))) (hret rfl)
  | some a =>
    cases B with
    | none =>
      refine ⟨fun p hp=>(by cases hp),fun _=>?_⟩
      exact sx (to0 (tb1 (b2 rfl rfl rfl)) (to1 (tb1 (b2 rfl rfl rfl)))) (hret rfl)
    | some b =>
      dsimp only
      by_cases hM:M = [45]
      · rw [if_pos hM]
        rw [decide_eq_true hM] at hq
        have g1:dinD false (.int (a:Int)) (.dct (kvT T)) = some (.bl (decide (a ∈ ends T))):=by rw [← zJZ]; rfl
        have g2:dinD false (.int (b:Int)) (.dct (kvT T)) = some (.bl (decide (b ∈ ends T))):=by rw [← zJZ]; rfl
        have c3:sIf (Mi.tOr (tB (eB isD (eV 5) (eC .non))) (Mi.tOr (tB (eB isD (eV 6) (eC .non))) (tB (eB neD (eSl (eV 4) (oE (eC (.int 2))) (oE (eC (.int 3)))) (eC D))))) (sRet 2 1 [3] (eTup (aCons (eV 3) (aCons (eC .non) aNil)))) sNil [some (X,0),some (.dct (kvT T),1),some (W,0),some (.int (k:Int),0),some (V,0),some (.int (a:Int),1),some (.int (b:Int),1)] = okR (.nx [some (X,0),some (.dct (kvT T),1),some (W,0),some (.int (k:Int),0),some (V,0),some (.int (a:Int),1),some (.int (b:Int),1)]):=by
          exact sf (to0 (tb1 (b2 rfl rfl rfl)) (to0 (tb1 (b2 rfl rfl rfl)) (tb1 (b2 (sl2 rfl rfl rfl s3) rfl (by simp [neD,dq,dd,hq])))))
        have c4:∀ z,sSeq (sIf (Mi.tOr (tB (eB isD (eV 5) (eC .non))) (Mi.tOr (tB (eB isD (eV 6) (eC .non))) (tB (eB neD (eSl (eV 4) (oE (eC (.int 2))) (oE (eC (.int 3)))) (eC D))))) (sRet 2 1 [3] (eTup (aCons (eV 3) (aCons (eC .non) aNil)))) sNil) z [some (X,0),some (.dct (kvT T),1),some (W,0),some (.int (k:Int),0),some (V,0),some (enD (some a),1),some (enD (some b),1)] = z [some (X,0),some (.dct (kvT T),1),some (W,0),some (.int (k:Int),0),some (V,0),some (.int (a:Int),1),some (.int (b:Int),1)]:=fun z=>by
          show sSeq _ _ [some (X,0),some (.dct (kvT T),1),some (W,0),some (.int (k:Int),0),some (V,0),some (.int (a:Int),1),some (.int (b:Int),1)] = _
          rw [zAP,c3,bindR_ok]
        rw [c4]
        clear c4 c3
        constructor
        · intro p hp ho
          cases hp
          obtain ⟨u1,u2,u3⟩:=ho
          have u1':¬ ((a:Int) = (b:Int)):=fun z=>u1 (by show a = b; omega)
          rw [decide_eq_false u2] at g1
          rw [decide_eq_false u3] at g2
          have q1:=zD5 u2
          have q2:=zOU (v:=.int (b:Int)) (a:=.inl (a:Int)) (zD5 u3) (fun z=>u1' (qF6 z))
          have hkt:kvT (T ++ [(a,b)]) = kvT T ++ [(.inl (a:Int),.int (b:Int))] ++ [(.inl (b:Int),.int (a:Int))]:=by
            rw [zS4,qCd]
            rfl
          have kl:(kvT T).length ≤ 3000:=by rw [zM0,zFJ]; omega
          refine ⟨some (.int (a:Int),1),some (.int (b:Int),1),?_⟩
          rw [hkt]
          have c5:sIf (Mi.tOr (tB (eB eqD (eV 5) (eV 6))) (Mi.tOr (tB (eB (dinD false) (eV 5) (eV 1))) (tB (eB (dinD false) (eV 6) (eV 1))))) (sRet 2 1 [3] (eTup (aCons (eV 3) (aCons (eC .non) aNil)))) sNil [some (X,0),some (.dct (kvT T),1),some (W,0),some (.int (k:Int),0),some (V,0),some (.int (a:Int),1),some (.int (b:Int),1)] = okR (.nx [some (X,0),some (.dct (kvT T),1),some (W,0),some (.int (k:Int),0),some (V,0),some (.int (a:Int),1),some (.int (b:Int),1)]):=by
            exact sf (to0 (eqi rfl rfl (decide_eq_false u1')) (to0 (tb1 (b2 rfl rfl g1)) (tb1 (b2 rfl rfl g2))))
          rw [zAP,c5,bindR_ok]
          dsimp only
          rw [zAP,zM5 (i:=1) (k:=0) (a:=(a:Int)) (b:=(b:Int)) rfl rfl rfl (by omega) q1,bindR_ok]
          exact zM5 (i:=1) (k:=0) (a:=(b:Int)) (b:=(a:Int)) rfl rfl rfl (by rw [qAt]; simp; omega) q2
        · intro hn
          have ho:=hn (a,b) rfl
          unfold okT at ho
          dsimp only at ho
          by_cases h1:a = b
          · subst h1
            exact sx (to1 (eqi rfl rfl (decide_eq_true rfl))) (hret rfl)
          · have h1':¬ ((a:Int) = (b:Int)):=by omega
            by_cases h2:a ∈ ends T
            · rw [decide_eq_true h2] at g1
              exact sx (to0 (eqi rfl rfl (decide_eq_false h1')) (to1 (tb1 (b2 rfl rfl g1)))) (hret rfl)
            · have h3:b ∈ ends T:=qCh fun z=>ho ⟨h1,h2,z⟩
              rw [decide_eq_false h2] at g1
              rw [decide_eq_true h3] at g2
              exact sx (to0 (eqi rfl rfl (decide_eq_false h1')) (to0 (tb1 (b2 rfl rfl g1)) (tb1 (b2 rfl rfl g2)))) (hret rfl)
      · rw [if_neg hM]
        rw [decide_eq_false hM] at hq
        refine ⟨fun p hp=>(by cases hp),fun _=>?_⟩
        exact sx (to0 (tb1 (b2 rfl rfl rfl)) (to0 (tb1 (b2 rfl rfl rfl)) (tb1 (b2 (sl2 rfl rfl rfl s3) rfl (by simp [neD,dq,dd,hq])))) ) (hret rfl)
theorem zWM {X W:Dt}:∀ (ws:List (List Nat)) (k:Nat) (T:List (Nat × Nat)) (o3 o4 o5 o6:Option Sl),(∀ w ∈ ws,w.length ≤ 900) → T.length + ws.length ≤ 1500 →
    (∃ j,rdW k ws T = .inl j ∧ forGo (.tup [3,4]) zH2 (enumD k (ws.map txt)) [some (X,0),some (.dct (kvT T),1),some (W,0),o3,o4,o5,o6] = okR (.rt (.tup [.int (j:Int),.non]))) ∨
    (∃ T' o3' o4' o5' o6',rdW k ws T = .inr T' ∧ forGo (.tup [3,4]) zH2 (enumD k (ws.map txt)) [some (X,0),some (.dct (kvT T),1),some (W,0),o3,o4,o5,o6] = okR (.nx [some (X,0),some (.dct (kvT T'),1),some (W,0),o3',o4',o5',o6']))
  | [],k,T,o3,o4,o5,o6,_,_=>.inr ⟨T,o3,o4,o5,o6,rfl,rfl⟩
  | w :: ws,k,T,o3,o4,o5,o6,hw,hz=>by
    simp only [qAi] at hz
    obtain ⟨b1,b2⟩:=zRB (X:=X) (W:=W) (T:=T) (w:=w) (k:=k) (o5:=o5) (o6:=o6) (hw w (by simp)) (by omega)
    have er:rdW k (w :: ws) T = (match tieO w with | none=>qCm k | some p=>@ite _ (okT T p) (qA0 _) (rdW (k + 1) ws (T ++ [p])) (qCm k)):=rfl
    rw [er]
    have st:∀ r:Ro,r = [some (X,0),some (.dct (kvT T),1),some (W,0),some (.int (k:Int),0),some (txt w,0),o5,o6] → forGo (.tup [3,4]) zH2 (enumD k ((w :: ws).map txt)) [some (X,0),some (.dct (kvT T),1),some (W,0),o3,o4,o5,o6] = zA2 (zH2 r) fun o=>match o with | .nx ρ'=>forGo (.tup [3,4]) zH2 (enumD (k + 1) (ws.map txt)) ρ' | .ct ρ'=>forGo (.tup [3,4]) zH2 (enumD (k + 1) (ws.map txt)) ρ' | .bk ρ'=>okR (.nx ρ') | .rt d=>okR (.rt d):=by
      rintro r rfl
      rfl
    rw [st _ rfl]
    clear st
    cases e:tieO w with
    | none =>
      refine .inl ⟨k,rfl,?_⟩
      rw [b2 (fun p hp=>by rw [e] at hp; cases hp),bindR_ok]
    | some p =>
      dsimp only
      by_cases ho:okT T p
      · rw [if_pos ho]
        obtain ⟨a,b,hb⟩:=b1 p e ho
        rw [hb]
        rcases zWM (X:=X) (W:=W) ws (k + 1) (T ++ [p]) (some (.int (k:Int),0)) (some (txt w,0)) a b (fun x hx=>hw x (by simp [hx])) (by simp; omega) with ⟨j,q1,q2⟩ | ⟨T',a,b,c,d,q1,q2⟩
        · exact .inl ⟨j,q1,by rw [bindR_ok]; exact q2⟩
        · exact .inr ⟨T',a,b,c,d,q1,by rw [bindR_ok]; exact q2⟩
      · rw [if_neg ho]
        refine .inl ⟨k,rfl,?_⟩
        rw [b2 (fun q hq=>by rw [e] at hq; cases hq; exact ho),bindR_ok]
theorem zNT:∀ (ws:List (List Nat)) (k:Nat) (T T':List (Nat × Nat)),rdW k ws T = .inr T' → (ends T).Nodup → (∀ e ∈ ends T,e < 32) → (ends T').Nodup ∧ (∀ e ∈ ends T',e < 32) ∧ T'.length = T.length + ws.length
  | [],k,T,T',h,h1,h2=>by
    cases h
    exact ⟨h1,h2,rfl⟩
  | w :: ws,k,T,T',h,h1,h2=>by
    have er:rdW k (w :: ws) T = (match tieO w with | none=>qCm k | some p=>@ite _ (okT T p) (qA0 _) (rdW (k + 1) ws (T ++ [p])) (qCm k)):=rfl
    rw [er] at h
    cases e:tieO w with
    | none=>rw [e] at h; cases h
    | some p =>
      rw [e] at h
      dsimp only at h
      by_cases ho:okT T p
      · rw [if_pos ho] at h
        obtain ⟨u1,u2,u3⟩:=ho
        obtain ⟨l1,l2⟩:=zT7 e
        have en:ends (T ++ [p]) = ends T ++ [p.1,p.2]:=by rw [zQZ]; rfl
        obtain ⟨q1,q2,q3⟩:=zNT ws (k + 1) (T ++ [p]) T' h (by
          rw [en,List.nodup_append]
          refine ⟨h1,by simpa using u1,fun a ha b hb=>?_⟩
          simp at hb
          rintro rfl
          rcases hb with rfl | rfl
          · exact u2 ha
          · exact u3 ha) (by
          intro x hx
          rw [en] at hx
          rcases qBr.mp hx with z | z
          · exact h2 x z
          · simp at z
            omega)
        refine ⟨q1,q2,?_⟩
        rw [q3]
        simp
        omega
      · rw [if_neg ho] at h
        cases h
theorem zJQ {E:List Nat} {N:Nat} (h1:E.Nodup) (h2:∀ e ∈ E,e < N):E.length ≤ N:=by
  have:=zHG E (qA4 N) h1 fun x hx=>qAq.mpr (h2 x hx)
  simpa using this
theorem zO4 {E:List Nat} (h1:E.Nodup) (h2:∀ e ∈ E,e < E.length):E.Perm (qA4 E.length):=by
  refine (qDf h1 qE1).mpr fun x=>⟨fun hx=>qAq.mpr (h2 x hx),fun hx=>?_⟩
  refine qCh fun hn=>?_
  have hx:=qAq.mp hx
  have:=zJQ (E:=x :: E) (N:=E.length) (qBa.mpr ⟨hn,h1⟩) fun e he=>by
    rcases qA9.mp he with rfl | he
    · exact hx
    · exact h2 e he
  simp at this
  omega
def zPO (E:List Nat):Prop:=E.length % 4 = 0 ∧ E.Perm (qA4 E.length)
theorem zNF:∀ (l:List Int),l ≠ [] → topI l ∈ l ∧ ∀ x ∈ l,x ≤ topI l
  | [x],_=>by simp [topI]
  | x :: y :: r,_=>by
    obtain ⟨h1,h2⟩:=zNF (y :: r) (by simp)
    show max x (topI (y :: r)) ∈ _ ∧ ∀ z ∈ x :: y :: r,z ≤ max x (topI (y :: r))
    refine ⟨?_,fun z hz=>?_⟩
    · by_cases h:x ≤ topI (y :: r)
      · rw [show max x (topI (y :: r)) = topI (y :: r) by omega]
        exact qAh _ h1
      · rw [show max x (topI (y :: r)) = x by omega]
        simp
    · rcases qA9.mp hz with rfl | hz
      · omega
      · have:=h2 z hz
        omega
theorem zLI {E:List Nat} (h0:E ≠ []) (h1:E.Nodup) (h2:∀ e ∈ E,e < 32) (hF:¬ zPO E):zAV [rowD (numL E)] = okR (.bl false):=by
  have hle:=zJQ h1 h2
  have hpos:0 < E.length:=qCi.mpr h0
  have hl:lenD [rowD (numL E)] = some (.int (E.length:Int)):=by rw [lenR,show (numL E).length = E.length by simp [numL]]
  have hf:=zK0 (E.length:Int)
  unfold zAV zCT
  by_cases h4:E.length % 4 = 0
  · rw [show decide (((E.length:Nat):Int) % 4 = 0 ∧ 1 ≤ ((E.length:Nat):Int) / 4 ∧ ((E.length:Nat):Int) / 4 ≤ 8) = true by simp; omega] at hf
    obtain ⟨t1,t2⟩:=zNF (numL E) (by simpa [numL] using h0)
    have hm:maxL [rowD (numL E)] = some (.int (topI (numL E))):=by
      match E,h0 with
      | a :: r,_ =>
        show (match intsD ((numL (a :: r)).map Dt.int) with | some (n :: ns)=>some (Dt.int (topI (n :: ns))) | _=>none) = _
        rw [zGG]
        rfl
    have hne:¬ (topI (numL E) = (E.length:Int) - 1):=fun z=>hF ⟨h4,zO4 h1 fun e he=>by
      have:=t2 (e:Int) (qAs.mpr ⟨e,he,rfl⟩)
      omega⟩
    generalize rowD (numL E) = Y at hm hl ⊢
    generalize topI (numL E) = B at hm hne ⊢
    generalize (E.length:Int) = A at hl hf hne ⊢
    simp [hl,hf,hm,hne,Dt.eq]
  · rw [show decide (((E.length:Nat):Int) % 4 = 0 ∧ 1 ≤ ((E.length:Nat):Int) / 4 ∧ ((E.length:Nat):Int) / 4 ≤ 8) = false by simp; omega] at hf
    generalize rowD (numL E) = Y at hl ⊢
    generalize (E.length:Int) = A at hl hf ⊢
    simp [hl,hf]
theorem zVP {T:List (Nat × Nat)} {M:Nat} (h:(ends T).Perm (qA4 M)):∃ ts:List Nat,ts.length = M ∧ ∀ e,e < M → getW (kvT T) (.inl (e:Int)) = some (.int (nt ts e:Int)):=by
  have h1:∀ e:Nat,∃ q:Nat,e < M → getW (kvT T) (.inl (e:Int)) = some (.int (q:Int)):=fun e=>by
    by_cases he:e < M
    · have hm:e ∈ ends T:=h.mem_iff.mpr (qAq.mpr he)
      have hs:=zJZ T e
      rw [decide_eq_true hm] at hs
      obtain ⟨u,hu⟩:=qBt.mp hs
      have hu':=hu
      unfold getW at hu'
      obtain ⟨x,x1,x2⟩:=qBg.mp hu'
      have hx:=List.mem_of_find?_eq_some x1
      unfold kvT at hx
      obtain ⟨p,_,p2⟩:=qD6.mp hx
      simp at p2
      rcases p2 with rfl | rfl
      · exact ⟨p.2,fun _=>by rw [hu,← x2]⟩
      · exact ⟨p.1,fun _=>by rw [hu,← x2]⟩
    · exact ⟨0,fun z=>absurd z he⟩
  refine ⟨(qA4 M).map fun e=>Classical.choose (h1 e),by simp,fun e he=>?_⟩
  have h2:=Classical.choose_spec (h1 e) he
  rw [h2]
  unfold nt
  rw [qA3,qAl,qEl he]
  rfl
theorem zMA {T:List (Nat × Nat)} {ts:List Nat} {M i:Nat} {ρ:Rh} {L:Nat} (hl:ts.length = M) (hM:M ≤ 32) (hel:(ends T).length = M) (hg:∀ e,e < M → getW (kvT T) (.inl (e:Int)) = some (.int (nt ts e:Int))) (hr:ρ.length = L) (hi:i < L) (h2:ρ[i]? = some (some (.dct (kvT T)))) :
    eComp (iR1 (aCons (eBi dlenD (aCons (eV i) aNil)) aNil)) 1 (.one L) Mi.tYes (eDIx (eV i) (eV L)) ρ = okR (rowD (numL ts)):=by
  have hrow:rowD (numL ts) = .lst ((qA4 M).map fun e=>Dt.int (nt ts e:Int)):=by
    unfold rowD numL
    rw [qB1]
    congr 1
    refine List.ext_getElem (by simp [hl]) fun i a b=>?_
    simp [nt]
    rw [qAa (by simpa using a)]
    rfl
  have hdl:dlenD [.dct (kvT T)] = some (.int (M:Int)):=by
    show some (Dt.int ((kvT T).length:Int)) = _
    rw [zM0,hel]
  rw [hrow]
  refine zHQ (fun e=>Dt.int (nt ts e:Int)) M rfl hr.symm (fun k hk=>?_) _ (zV4 (n:=M) ?_ (by omega)) (by omega)
  · have g:(ρ ++ [some (Dt.int (k:Int))])[i]? = some (some (.dct (kvT T))):=by rw [qAg (by omega)]; exact h2
    have g6:(ρ ++ [some (Dt.int (k:Int))])[L]? = some (some (.int (k:Int))):=by rw [qAd (by omega),hr]; simp
    unfold eDIx
    rw [x_eV,g]
    show zA2 (okR (Dt.dct (kvT T))) _ = _
    rw [bindR_ok]
    dsimp only
    rw [x_eV,g6]
    show zA2 (okR (Dt.int (k:Int))) _ = _
    rw [bindR_ok]
    show (match getW (kvT T) (.inl (k:Int)) with | some w=>okR (swT w) | none=>none) = _
    rw [hg k hk]
    rfl
  · rw [zCC,zT0,zCC,x_eV,h2]
    show (zA2 (zA2 (zA2 (okR (Dt.dct (kvT T))) _) _) _) = _
    rw [bindR_ok,zED,bindR_ok,bindR_ok,hdl,zAB,bindR_ok,bindR_ok]
theorem zFS {l:List Nat} (h:l.length ≤ 900):splitD (txt l) [.str " "] = some (.lst ((splitC 32 l).map txt)):=by
  rw [zPH]
  exact zJ8 (by omega)
theorem zP2 (ws:List (List Nat)):(Dt.lst (ws.map txt)).dep ≤ 1:=by
  rw [Dt.dep,zUH (by intro d hd; obtain ⟨l,_,rfl⟩:=qAs.mp hd; rfl)]
  omega
noncomputable def says (l:List Nat):Sum Nat (List (Nat × Nat)):=match rdW 0 (splitC 32 l) [] with
  | .inl j=>.inl j
  | .inr T=>@ite _ (zPO (ends T)) (qA0 _) (.inr T) (.inl (splitC 32 l).length)
theorem zLL {l:List Nat} (h:l.length ≤ 900):(∀ w ∈ splitC 32 l,w.length ≤ 900) ∧ ([]:List (Nat × Nat)).length + (splitC 32 l).length ≤ 1500:=by
  obtain ⟨h1,h2⟩:=zCU 32 l
  exact ⟨fun w hw=>by have:=h2 w hw; omega,by simp; omega⟩
theorem zNS {l:List Nat} (h:l.length ≤ 900):(∃ j,says l = .inl j ∧ zB8 [txt l] = some (.error ⟨"NoText","at",.int (j:Int)⟩)) ∨ ∃ (T:List (Nat × Nat)) (ts:List Nat),says l = .inr T ∧ zPO (ends T) ∧ (ends T).Nodup ∧ (∀ e ∈ ends T,e < 32) ∧ ts.length = (ends T).length ∧ (∀ e,e < (ends T).length → getW (kvT T) (.inl (e:Int)) = some (.int (nt ts e:Int))) ∧ zB8 [txt l] = okR (rowD (numL ts)):=by
  obtain ⟨w1,w2⟩:=zLL h
  have hs:=zFS h
  have tX:zCP (txt l) = true:=rfl
  have dX:(txt l).dep = 0:=rfl
  have dW:=zP2 (splitC 32 l)
  have hwn:=zCV 32 l
  have hsl:=(zCU 32 l).1
  unfold says
  generalize splitC 32 l = ws at *
  have hE:ends [] = []:=rfl
  have start:∀ X:Dt,X = txt l → zF3 [some (X,0),none,none,none,none,none] = zA2 (forGo (.tup [3,4]) zF1 (enumD 0 (ws.map txt)) [some (X,0),some (.lst (ws.map txt),0),some (.dct (kvT []),1),none,none,none]) fun o=>match o with | .nx r=>(sSeq (sIf (tNo (tM (eCallN zAV (aCons (eBi dkeysD (aCons (eV 2) aNil)) aNil)))) (sRaise "NoText" "at" (aCons (eBi lenD (aCons (eV 1) aNil)) aNil)) sNil) (sRet 1 1 [2] (eComp (iR1 (aCons (eBi dlenD (aCons (eV 2) aNil)) aNil)) 1 (.one 6) Mi.tYes (eDIx (eV 2) (eV 6))))) r | o=>okR o:=by
    rintro X hX
    rw [← hX] at hs tX dX
    clear hX
    have s1:sSet 1 1 [0] (eMt splitD (eV 0) (aCons (eC (.str " ")) aNil)) [some (X,0),none,none,none,none,none] = okR (.nx [some (X,0),some (.lst (ws.map txt),1),none,none,none,none]):=by
      generalize Dt.lst (ws.map txt) = W at hs dW ⊢
      generalize Dt.str " " = B at hs ⊢
      simp [hs,tX,dW]
    have s2:sSet 2 1 [] eDct0 [some (X,0),some (.lst (ws.map txt),1),none,none,none,none] = okR (.nx [some (X,0),some (.lst (ws.map txt),1),some (.dct (kvT []),1),none,none,none]):=by
      generalize Dt.lst (ws.map txt) = W
      simp [eDct0]
      rfl
    have hf:frzAt [1] [some (X,0),some (.lst (ws.map txt),1),some (.dct (kvT []),1),none,none,none] = [some (X,0),some (.lst (ws.map txt),0),some (.dct (kvT []),1),none,none,none]:=by
      generalize Dt.lst (ws.map txt) = W
      generalize Dt.dct (kvT []) = D
      simp
    have hi:iEn (aCons (eV 1) aNil) (frz [some (X,0),some (.lst (ws.map txt),0),some (.dct (kvT []),1),none,none,none]) = okR (enumD 0 (ws.map txt)):=by
      generalize Dt.dct (kvT []) = D
      generalize (ws.map txt) = L
      simp
    unfold zF3
    rw [zAP,s1,bindR_ok]
    dsimp only
    rw [zAP,s2,bindR_ok]
    dsimp only
    rw [zAP,zRI,hf,hi,bindR_ok]
    all_goals rfl
  have start:=start _ rfl
  generalize txt l = X at hs tX dX start ⊢
  rcases zWL (X:=X) (W:=.lst (ws.map txt)) ws 0 [] none none none w1 w2 with ⟨j,q1,q2⟩ | ⟨T,o3,o4,o5,q1,q2⟩
  · refine .inl ⟨j,by rw [q1],?_⟩
    rw [q2] at start
    exact zRS rfl start
  · rw [q2,bindR_ok] at start
    dsimp only at start
    obtain ⟨n1,n2,n3⟩:=zNT ws 0 [] T q1 (by rw [hE]; simp) (by rw [hE]; simp)
    have hT0:ends T ≠ []:=fun z=>by
      have:=zFJ T
      rw [z,n3] at this
      have hwl:0 < ws.length:=qCi.mpr hwn
      simp at this
      omega
    have hk:dkeysD [.dct (kvT T)] = some (rowD (numL (ends T))):=by
      show some (Dt.lst ((kvT T).map fun p=>kyT p.1)) = _
      rw [zOH]
      rfl
    have hlw:lenD [.lst (ws.map txt)] = some (.int (ws.length:Int)):=by
      show some (Dt.int ((ws.map txt).length:Int)) = _
      rw [qAm]
    rw [q1]
    dsimp only
    by_cases hF:zPO (ends T)
    · rw [if_pos hF]
      refine .inr ?_
      obtain ⟨ts,r1,r2⟩:=zVP hF.2
      refine ⟨T,ts,rfl,hF,n1,n2,r1,r2,?_⟩
      have hle:=zJQ n1 n2
      have hpos:0 < (ends T).length:=qCi.mpr hT0
      have h4:=hF.1
      have ha:=zIX (l:=ends T) (n:=(ends T).length / 4) (by omega) (by omega) (by rw [show 4 * ((ends T).length / 4) = (ends T).length by omega]; exact hF.2)
      have c4:sIf (tNo (tM (eCallN zAV (aCons (eBi dkeysD (aCons (eV 2) aNil)) aNil)))) (sRaise "NoText" "at" (aCons (eBi lenD (aCons (eV 1) aNil)) aNil)) sNil [some (X,0),some (.lst (ws.map txt),0),some (.dct (kvT T),1),o3,o4,o5] = okR (.nx [some (X,0),some (.lst (ws.map txt),0),some (.dct (kvT T),1),o3,o4,o5]):=by
        generalize Dt.lst (ws.map txt) = W
        generalize Dt.dct (kvT T) = D at hk ⊢
        generalize rowD (numL (ends T)) = Y at hk ha ⊢
        simp [hk,ha]
      rw [zAP,c4,bindR_ok] at start
      dsimp only at start
      have e5:=zMA (L:=6) (i:=2) r1 hle rfl r2 (ρ:=full [some (X,0),some (.lst (ws.map txt),0),some (.dct (kvT T),1),o3,o4,o5]) rfl (by omega) rfl
      rw [zLK,e5,bindR_ok,if_pos ⟨by rw [zCI]; omega,by rw [zCI]; omega⟩] at start
      exact zC4 rfl start
    · rw [if_neg hF]
      refine .inl ⟨_,rfl,?_⟩
      have ha:=zLI hT0 n1 n2 hF
      have c4:sIf (tNo (tM (eCallN zAV (aCons (eBi dkeysD (aCons (eV 2) aNil)) aNil)))) (sRaise "NoText" "at" (aCons (eBi lenD (aCons (eV 1) aNil)) aNil)) sNil [some (X,0),some (.lst (ws.map txt),0),some (.dct (kvT T),1),o3,o4,o5] = some (.error ⟨"NoText","at",.int (ws.length:Int)⟩):=by
        generalize Dt.lst (ws.map txt) = W at hlw ⊢
        generalize Dt.dct (kvT T) = D at hk ⊢
        generalize rowD (numL (ends T)) = Y at hk ha ⊢
        simp [hk,ha,hlw]
      rw [zAP,c4] at start
      exact zRS rfl start
theorem zV7:∀ {a b:List Int},a.Perm b → a.Pairwise (· ≤ ·) → b.Pairwise (· ≤ ·) → a = b
  | [],b,h,_,_=>(List.Perm.nil_eq h)
  | x :: a,[],h,_,_=>absurd h.length_eq (by simp)
  | x :: a,y :: b,h,ha,hb=>by
    have hx:x = y:=by
      have h1:x ∈ y :: b:=h.mem_iff.mp (by simp)
      have h2:y ∈ x :: a:=h.mem_iff.mpr (by simp)
      have l1:y ≤ x:=by
        rcases qA9.mp h1 with z | z
        · omega
        · exact (qC4.mp hb).1 x z
      have l2:x ≤ y:=by
        rcases qA9.mp h2 with z | z
        · omega
        · exact (qC4.mp ha).1 y z
      omega
    subst hx
    rw [zV7 (List.Perm.cons_inv h) (qC4.mp ha).2 (qC4.mp hb).2]
theorem zOQ:∀ T:List (Nat × Nat),intK (kvT T) = some (numL (ends T))
  | []=>rfl
  | p :: T=>by
    show ((intK (kvT T)).map _).map _ = _
    rw [zOQ T]
    rfl
theorem zMI (l:List Int):(sortI l).Pairwise (· ≤ ·):=by
  have:=qDs (le:=fun a b:Int=>decide (a ≤ b)) (fun a b c h1 h2=>by simp at h1 h2 ⊢; omega) (fun a b=>by simp; omega) l
  exact this.imp fun h=>by simpa using h
theorem zPV {E:List Nat} (h1:E.Nodup):sortI (numL E) = numL (qA4 E.length) ↔ E.Perm (qA4 E.length):=by
  constructor
  · intro h
    refine zO4 h1 fun e he=>?_
    have hm:(e:Int) ∈ sortI (numL E):=(qDc _ _).mem_iff.mpr (qAs.mpr ⟨e,he,rfl⟩)
    rw [h] at hm
    obtain ⟨q,q1,q2⟩:=qAs.mp hm
    have:=qAq.mp q1
    omega
  · intro h
    refine zV7 ((qDc _ _).trans (h.map _)) (zMI _) ?_
    unfold numL
    rw [qDp]
    exact qCv.imp fun h=>by omega
theorem zR0 {l:List Nat} (h:l.length ≤ 900):(∀ j,says l = .inl j → zBV [txt l] = okR (.tup [.int (j:Int),.non])) ∧ ∀ (T:List (Nat × Nat)) (ts:List Nat),says l = .inr T → ts.length = (ends T).length → (∀ e,e < (ends T).length → getW (kvT T) (.inl (e:Int)) = some (.int (nt ts e:Int))) → zBV [txt l] = okR (.tup [.non,rowD (numL ts)]):=by
  obtain ⟨w1,w2⟩:=zLL h
  have hs:=zFS h
  have tX:zCP (txt l) = true:=rfl
  have dX:(txt l).dep = 0:=rfl
  have dW:=zP2 (splitC 32 l)
  have hwn:=zCV 32 l
  have hsl:=(zCU 32 l).1
  unfold says
  generalize splitC 32 l = ws at *
  have hE:ends [] = []:=rfl
  have start:∀ X:Dt,X = txt l → zDB [some (X,0),none,none,none,none,none,none] = zA2 (forGo (.tup [3,4]) zH2 (enumD 0 (ws.map txt)) [some (X,0),some (.dct (kvT []),1),some (.lst (ws.map txt),0),none,none,none,none]) fun o=>match o with | .nx r=>(sSeq (sIf (Mi.tOr (tB (eB neD (eB modD (eBi dlenD (aCons (eV 1) aNil)) (eC (.int 4))) (eC (.int 0)))) (tB (eB neD (eBi sodD (aCons (eV 1) aNil)) (eBi rangeD (aCons (eBi dlenD (aCons (eV 1) aNil)) aNil))))) (sRet 2 1 [2] (eTup (aCons (eBi lenD (aCons (eV 2) aNil)) (aCons (eC .non) aNil)))) sNil) (sRet 2 2 [1] (eTup (aCons (eC .non) (aCons (eComp (iR1 (aCons (eBi dlenD (aCons (eV 1) aNil)) aNil)) 1 (.one 7) Mi.tYes (eDIx (eV 1) (eV 7))) aNil))))) r | o=>okR o:=by
    rintro X hX
    rw [← hX] at hs tX dX
    clear hX
    have s2:sSet 1 1 [] eDct0 [some (X,0),none,none,none,none,none,none] = okR (.nx [some (X,0),some (.dct (kvT []),1),none,none,none,none,none]):=by
      simp [eDct0]
      rfl
    have s1:sSet 2 1 [0] (eMt splitD (eV 0) (aCons (eC (.str " ")) aNil)) [some (X,0),some (.dct (kvT []),1),none,none,none,none,none] = okR (.nx [some (X,0),some (.dct (kvT []),1),some (.lst (ws.map txt),1),none,none,none,none]):=by
      generalize Dt.lst (ws.map txt) = W at hs dW ⊢
      generalize Dt.str " " = B at hs ⊢
      generalize Dt.dct (kvT []) = D
      simp [hs,tX,dW]
    have hf:frzAt [2] [some (X,0),some (.dct (kvT []),1),some (.lst (ws.map txt),1),none,none,none,none] = [some (X,0),some (.dct (kvT []),1),some (.lst (ws.map txt),0),none,none,none,none]:=by
      generalize Dt.lst (ws.map txt) = W
      generalize Dt.dct (kvT []) = D
      simp
    have hi:iEn (aCons (eV 2) aNil) (frz [some (X,0),some (.dct (kvT []),1),some (.lst (ws.map txt),0),none,none,none,none]) = okR (enumD 0 (ws.map txt)):=by
      generalize Dt.dct (kvT []) = D
      generalize (ws.map txt) = L
      simp
    unfold zDB
    rw [zAP,s2,bindR_ok]
    dsimp only
    rw [zAP,s1,bindR_ok]
    dsimp only
    rw [zAP,zRI,hf,hi,bindR_ok]
    all_goals rfl
  have start:=start _ rfl
  generalize txt l = X at hs tX dX start ⊢
  rcases zWM (X:=X) (W:=.lst (ws.map txt)) ws 0 [] none none none none w1 w2 with ⟨j,q1,q2⟩ | ⟨T,o3,o4,o5,o6,q1,q2⟩
  · rw [q1]
    refine ⟨fun i hi=>?_,fun _ _ z=>(by cases z)⟩
    cases hi
    rw [q2] at start
    exact zC4 rfl start
  · rw [q2,bindR_ok] at start
    dsimp only at start
    obtain ⟨n1,n2,n3⟩:=zNT ws 0 [] T q1 (by rw [hE]; simp) (by rw [hE]; simp)
    have hle:=zJQ n1 n2
    have hdl:dlenD [.dct (kvT T)] = some (.int ((ends T).length:Int)):=by
      show some (Dt.int ((kvT T).length:Int)) = _
      rw [zM0]
    have hso:sodD [.dct (kvT T)] = some (rowD (sortI (numL (ends T)))):=by
      show (match intK (kvT T) with | some ns=>@ite _ (ns.length < 64) (qA0 _) (some (Dt.lst ((sortI ns).map .int))) none | none=>none) = _
      rw [zOQ]
      dsimp only
      rw [if_pos (by simp [numL]; omega)]
      rfl
    have hra:rangeD [.int ((ends T).length:Int)] = some (rowD (numL (qA4 (ends T).length))):=by
      rw [zNB (by omega) (by omega),show (((ends T).length:Int)).toNat = (ends T).length by omega,zG6]
      rfl
    have hlw:lenD [.lst (ws.map txt)] = some (.int (ws.length:Int)):=by
      show some (Dt.int ((ws.map txt).length:Int)) = _
      rw [qAm]
    have heq:=zSF (sortI (numL (ends T))) (numL (qA4 (ends T).length))
    have dp1:=zCI (sortI (numL (ends T)))
    have dp2:=zCI (numL (qA4 (ends T).length))
    have hsi:=zPV n1
    rw [q1]
    dsimp only
    by_cases hF:zPO (ends T)
    · rw [if_pos hF]
      refine ⟨fun _ z=>(by cases z),fun T' ts hT r1 r2=>?_⟩
      cases hT
      have h4:((ends T).length:Int) % 4 = 0:=by have:=hF.1; omega
      rw [decide_eq_true (hsi.mpr hF.2)] at heq
      have c4:sIf (Mi.tOr (tB (eB neD (eB modD (eBi dlenD (aCons (eV 1) aNil)) (eC (.int 4))) (eC (.int 0)))) (tB (eB neD (eBi sodD (aCons (eV 1) aNil)) (eBi rangeD (aCons (eBi dlenD (aCons (eV 1) aNil)) aNil))))) (sRet 2 1 [2] (eTup (aCons (eBi lenD (aCons (eV 2) aNil)) (aCons (eC .non) aNil)))) sNil [some (X,0),some (.dct (kvT T),1),some (.lst (ws.map txt),0),o3,o4,o5,o6] = okR (.nx [some (X,0),some (.dct (kvT T),1),some (.lst (ws.map txt),0),o3,o4,o5,o6]):=by
        generalize Dt.lst (ws.map txt) = W
        generalize Dt.dct (kvT T) = D at hdl hso ⊢
        generalize rowD (sortI (numL (ends T))) = Y at hso heq dp1 ⊢
        generalize rowD (numL (qA4 (ends T).length)) = Z at hra heq dp2 ⊢
        generalize ((ends T).length:Int) = M at hdl hra h4 ⊢
        simp [hdl,hso,hra,heq,h4,dp1,dp2,Dt.eq]
      rw [zAP,c4,bindR_ok] at start
      dsimp only at start
      have e5:=zMA (L:=7) (i:=1) r1 hle rfl r2 (ρ:=full [some (X,0),some (.dct (kvT T),1),some (.lst (ws.map txt),0),o3,o4,o5,o6]) rfl (by omega) rfl
      have e6:eTup (aCons (eC .non) (aCons (eComp (iR1 (aCons (eBi dlenD (aCons (eV 1) aNil)) aNil)) 1 (.one 7) Mi.tYes (eDIx (eV 1) (eV 7))) aNil)) (full [some (X,0),some (.dct (kvT T),1),some (.lst (ws.map txt),0),o3,o4,o5,o6]) = okR (.tup [.non,rowD (numL ts)]):=by
        generalize full [some (X,0),some (.dct (kvT T),1),some (.lst (ws.map txt),0),o3,o4,o5,o6] = ρ at e5 ⊢
        generalize rowD (numL ts) = Y at e5 ⊢
        simp [e5]
      have hd:(Dt.tup [.non,rowD (numL ts)]).dep ≤ 2:=by
        have:=zCI (numL ts)
        generalize rowD (numL ts) = Y at this ⊢
        simp [this]
      rw [zLK,e6,bindR_ok,if_pos ⟨hd,hd⟩] at start
      exact zC4 rfl start
    · rw [if_neg hF]
      refine ⟨fun i hi=>?_,fun _ _ z=>(by cases z)⟩
      cases hi
      have c4:sIf (Mi.tOr (tB (eB neD (eB modD (eBi dlenD (aCons (eV 1) aNil)) (eC (.int 4))) (eC (.int 0)))) (tB (eB neD (eBi sodD (aCons (eV 1) aNil)) (eBi rangeD (aCons (eBi dlenD (aCons (eV 1) aNil)) aNil))))) (sRet 2 1 [2] (eTup (aCons (eBi lenD (aCons (eV 2) aNil)) (aCons (eC .non) aNil)))) sNil [some (X,0),some (.dct (kvT T),1),some (.lst (ws.map txt),0),o3,o4,o5,o6] = okR (.rt (.tup [.int (ws.length:Int),.non])):=by
        generalize Dt.lst (ws.map txt) = W at hlw ⊢
        generalize Dt.dct (kvT T) = D at hdl hso ⊢
        by_cases h4:((ends T).length:Int) % 4 = 0
        · rw [decide_eq_false (fun z=>hF ⟨by omega,hsi.mp z⟩)] at heq
          generalize rowD (sortI (numL (ends T))) = Y at hso heq dp1 ⊢
          generalize rowD (numL (qA4 (ends T).length)) = Z at hra heq dp2 ⊢
          generalize ((ends T).length:Int) = M at hdl hra h4 ⊢
          generalize (ws.length:Int) = N at hlw ⊢
          simp [hdl,hso,hra,heq,h4,dp1,dp2,Dt.eq,hlw]
        · generalize ((ends T).length:Int) = M at hdl hra h4 ⊢
          generalize (ws.length:Int) = N at hlw ⊢
          simp [hdl,h4,Dt.eq,hlw]
      rw [zAP,c4] at start
      exact zC4 rfl start
def wD (ws:List (List Nat)):Dt:=.lst (ws.map txt)
noncomputable def WL (ws:List (List Nat)):Nat:=(ws.map fun w=>w.length + 1).sum
theorem zDR (a b:List (List Nat)):WL (a ++ b) = WL a + WL b:=by simp [WL]
theorem zPL (ws:List (List Nat)) (k:Nat):WL (ws.take k) + WL (ws.drop k) = WL ws:=by
  rw [← zDR,qD1]
theorem zUX (ws:List (List Nat)) (k:Nat):WL (ws.drop k) ≤ WL ws:=by have:=zPL ws k; omega
theorem zRF (ws:List (List Nat)) (k:Nat):WL (ws.take k) + WL (ws.drop (k + 1)) ≤ WL ws:=by
  have h1:=zPL ws k
  have h2:=zUX (ws.drop k) 1
  rw [qFr] at h2
  omega
theorem zST:∀ ws:List (List Nat),ws.length ≤ WL ws
  | []=>by simp [WL]
  | w :: r=>by
    have:=zST r
    simp [WL] at this ⊢
    omega
theorem zXI {ws:List (List Nat)} {w:List Nat} (h:w ∈ ws):w.length + 1 ≤ WL ws:=by
  induction ws with
  | nil=>cases h
  | cons a r ih =>
    rcases qA9.mp h with rfl | h
    · simp [WL]
    · have:=ih h
      simp [WL] at this ⊢
      omega
theorem zKN (ws:List (List Nat)) (f:List Nat → Bool):WL (ws.filter f) ≤ WL ws:=by
  induction ws with
  | nil=>simp [WL]
  | cons a r ih =>
    rw [qDy]
    split
    · simp [WL] at ih ⊢
      omega
    · simp [WL] at ih ⊢
      omega
theorem zME (c:Nat):∀ l:List Nat,WL (splitC c l) = l.length + 1
  | []=>by simp [splitC,WL]
  | x :: r=>by
    have ih:=zME c r
    have e:splitC c (x :: r) = if x = c then [] :: splitC c r else match splitC c r with | []=>[[x]] | p :: ps=>(x :: p) :: ps:=rfl
    rw [e]
    cases hs:splitC c r with
    | nil=>exact absurd hs (zCV c r)
    | cons p ps =>
      rw [hs] at ih
      split
      · simp [WL] at ih ⊢
        omega
      · simp [WL] at ih ⊢
        omega
theorem zDT (c:Nat):∀ ws:List (List Nat),(joinC c ws).length ≤ WL ws
  | []=>by simp [joinC]
  | [x]=>by simp [joinC,WL]
  | x :: y :: r=>by
    have:=zDT c (y :: r)
    show (x ++ c :: joinC c (y :: r)).length ≤ _
    simp [WL] at this ⊢
    omega
theorem zIK {ls:List (List Nat)} (hz:WL ls ≤ 5000):joinD (.str " ") [wD ls] = some (txt (joinC 32 ls)):=by
  rw [zPH]
  show (match strsD (ls.map txt) with | some zs=>@ite _ ((zs.map fun z:Str=>z.length).sum + zs.length * (⟨#[32]⟩:Str).length ≤ 100000) (qA0 _) (some (Dt.str (Str.join ⟨#[32]⟩ zs))) none | none=>none) = _
  rw [zHY]
  dsimp only
  have hs:((ls.map fun l=>(⟨l.toArray⟩:Str)).map fun z:Str=>z.length).sum + ls.length = WL ls:=by
    clear hz
    induction ls with
    | nil=>rfl
    | cons l r ih =>
      simp only [qAp,qG7,qAi]
      have e:WL (l :: r) = l.length + 1 + WL r:=by simp [WL]
      rw [e,← ih,zC0]
      show l.length + _ + _ = _
      omega
  rw [if_pos (by
    have e:(⟨#[32]⟩:Str).length = 1:=rfl
    rw [e,qAm]
    omega)]
  unfold txt
  congr 2
  refine zE0 ?_
  rw [zL5,qB1]
  congr 1
  refine (qB2 fun l _=>?_).trans (qEk _)
  simp
theorem zTA (ws:List (List Nat)) (lo hi:Option Int):slD (wD ws) lo hi = some (wD (cutA ws lo hi)):=by
  show some (Dt.lst (cutA (ws.map txt) lo hi)) = _
  unfold cutA wD
  rw [qAm,List.map_take,List.map_drop]
theorem zMD {a b:List (List Nat)} (h:a.length + b.length ≤ 10000):addD (wD a) (wD b) = some (wD (a ++ b)):=by
  show (@ite _ ((a.map txt).length + (b.map txt).length ≤ 100000) (qA0 _) (some (Dt.lst (a.map txt ++ b.map txt))) none) = _
  rw [if_pos (by simp; omega)]
  unfold wD
  rw [qEa]
theorem zWW {ws:List (List Nat)} {k:Nat} {w:List Nat} (h:ws[k]? = some w):ixD (wD ws) (.int (k:Int)) = some (txt w):=by
  have hk:k < ws.length:=(qA2.mp h).1
  refine zJW rfl ?_
  rw [qAl,h]
  rfl
theorem zUV (c:Int) (h0:0 ≤ c):∃ d,zBW [.int c] = okR (txt [d]):=by
  unfold zBW zDQ
  have sl:(Str.ofString " !#$&'()*+,-./0123456789:;<=>?@ABCDEFGHIJKLMNOPQRSTUVWXYZ[]^_abcdefghijklmnopqrstuvwxyz{|}~").length = 91:=by rw [zNN]; decide
  have h:(c % 91).toNat < (Str.ofString " !#$&'()*+,-./0123456789:;<=>?@ABCDEFGHIJKLMNOPQRSTUVWXYZ[]^_abcdefghijklmnopqrstuvwxyz{|}~").cps.toList.length:=by rw [← zC0,sl]; omega
  obtain ⟨d,e⟩:∃ d,itA (Str.ofString " !#$&'()*+,-./0123456789:;<=>?@ABCDEFGHIJKLMNOPQRSTUVWXYZ[]^_abcdefghijklmnopqrstuvwxyz{|}~").cps.toList (c % 91) = some d:=⟨_,zJW (j:=(c % 91).toNat) (by omega) (qAa h)⟩
  refine ⟨d,?_⟩
  simp [sl,e,txt]
theorem zXS (c:Int) (h0:0 ≤ c) (h1:c < 19):∃ d,ixD (.str "abcdefghi0123456 --") (.int c) = some (txt [d]):=by
  have sl:(Str.ofString "abcdefghi0123456 --").length = 19:=by rw [zNN]; decide
  have h:c.toNat < (Str.ofString "abcdefghi0123456 --").cps.toList.length:=by rw [← zC0,sl]; omega
  have e:itA (Str.ofString "abcdefghi0123456 --").cps.toList c = some ((Str.ofString "abcdefghi0123456 --").cps.toList[c.toNat]):=zJW (j:=c.toNat) (by omega) (qAa h)
  refine ⟨(Str.ofString "abcdefghi0123456 --").cps.toList[c.toNat],?_⟩
  show (@ite _ ((Str.ofString "abcdefghi0123456 --").length ≤ 100000) (qA0 _) ((itA (Str.ofString "abcdefghi0123456 --").cps.toList c).map fun c=>Dt.str ⟨#[c]⟩) none) = _
  rw [if_pos (by rw [sl]; omega),e]
  rfl
theorem in_a (w:List Nat):inD false (.str "a") (txt w) = some (.bl (decide (97 ∈ w))):=by
  have e:(Str.ofString "a") = ⟨#[97]⟩:=zE0 (l:=[97]) (by rw [Str.ofString_eq_toList]; decide)
  rw [e]
  rfl
theorem zKR {l:List Nat} {c o:Int} (hl:l.length ≤ 400) (c0:0 ≤ c) (o0:0 ≤ o):∃ l':List Nat,l'.length ≤ 2 * l.length + 20 ∧ zBR [txt l,.int c,.int o] = okR (txt l'):=by
  have hs:splitD (txt l) [.str " "] = some (wD (splitC 32 l)):=zFS (by omega)
  have hwn:=zCV 32 l
  have hW:=zME 32 l
  have hsl:=(zCU 32 l).2
  have dW:(wD (splitC 32 l)).dep ≤ 1:=zP2 _
  generalize splitC 32 l = ws at *
  have hpos:0 < ws.length:=qCi.mpr hwn
  have hwl:=zST ws
  obtain ⟨k1,hk1⟩:∃ k:Nat,o % (ws.length:Int) = (k:Int):=⟨(o % (ws.length:Int)).toNat,by have:=qBi o (show (ws.length:Int) ≠ 0 by omega); omega⟩
  have l1:k1 < ws.length:=by have:=qBj o (show (0:Int) < ws.length by omega); omega
  obtain ⟨k2,hk2⟩:∃ k:Nat,o % ((l.length:Int) + 1) = (k:Int):=⟨(o % ((l.length:Int) + 1)).toNat,by have:=qBi o (show (l.length:Int) + 1 ≠ 0 by omega); omega⟩
  obtain ⟨k3,hk3⟩:∃ k:Nat,c / 32 % (ws.length:Int) = (k:Int):=⟨(c / 32 % (ws.length:Int)).toNat,by have:=qBi (c / 32) (show (ws.length:Int) ≠ 0 by omega); omega⟩
  have l3:k3 < ws.length:=by have:=qBj (c / 32) (show (0:Int) < ws.length by omega); omega
  obtain ⟨d0,hd0⟩:=zUV (c / 16) (by omega)
  obtain ⟨d1,hd1⟩:=zXS (c / 16 % 19) (by omega) (by omega)
  obtain ⟨d,hd⟩:∃ d:Nat,d = if c % 4 = 1 then d1 else d0:=⟨_,rfl⟩
  have A0:=zFU (l:=l) (lo:=none) (hi:=some (k2:Int)) (by omega)
  have A1:=zFU (l:=l) (lo:=some (k2:Int)) (hi:=none) (by omega)
  have A2:=zFU (l:=l) (lo:=some ((k2:Int) + 1)) (hi:=none) (by omega)
  rw [zM8] at A0
  rw [zEP] at A1
  rw [show ((k2:Int) + 1) = ((k2 + 1:Nat):Int) by omega,zEP] at A2
  have bl:(l.take k2).length ≤ l.length:=by simp; omega
  have bd:(l.drop k2).length ≤ l.length:=by simp
  have bd1:(l.drop (k2 + 1)).length ≤ l.length:=by simp
  have f1:addD (txt (l.take k2)) (txt [d]) = some (txt (l.take k2 ++ [d])):=zDC (by simp; omega)
  have f2:addD (txt (l.take k2 ++ [d])) (txt (l.drop k2)) = some (txt (l.take k2 ++ [d] ++ l.drop k2)):=zDC (by simp; omega)
  have f3:addD (txt (l.take k2)) (txt (l.drop (k2 + 1))) = some (txt (l.take k2 ++ l.drop (k2 + 1))):=zDC (by simp; omega)
  have f4:addD (txt (l.take k2 ++ [d])) (txt (l.drop (k2 + 1))) = some (txt (l.take k2 ++ [d] ++ l.drop (k2 + 1))):=zDC (by simp; omega)
  have B0:=zTA ws none (some (k1:Int))
  have B1:=zTA ws (some (k1:Int)) none
  have B2:=zTA ws (some ((k1:Int) + 1)) none
  rw [zM8] at B0
  rw [zEP] at B1
  rw [show ((k1:Int) + 1) = ((k1 + 1:Nat):Int) by omega,zEP] at B2
  have q1:=zPL ws k1
  have q2:=zRF ws k1
  have lt:(ws.take k1).length ≤ ws.length:=by simp; omega
  have ld:(ws.drop k1).length ≤ ws.length:=by simp
  have ld1:(ws.drop (k1 + 1)).length ≤ ws.length:=by simp
  have g3:addD (wD (ws.take k1)) (wD (ws.drop (k1 + 1))) = some (wD (ws.take k1 ++ ws.drop (k1 + 1))):=zMD (by omega)
  have j3:=zIK (ls:=ws.take k1 ++ ws.drop (k1 + 1)) (by rw [zDR]; omega)
  have n3:=zDT 32 (ws.take k1 ++ ws.drop (k1 + 1))
  rw [zDR] at n3
  obtain ⟨mo,hmo⟩:∃ w,ws[k3]? = some w:=⟨_,qAa l3⟩
  obtain ⟨aw,haw⟩:∃ w,ws[k1]? = some w:=⟨_,qAa l1⟩
  have x3:=zWW hmo
  have x1:=zWW haw
  have bm:=zXI (qBd hmo)
  have ba:=hsl aw (qBd haw)
  have g4:∀ w,addD (wD (ws.take k1)) (.lst [txt w]) = some (wD (ws.take k1 ++ [w])):=fun w=>zMD (b:=[w]) (by simp; omega)
  have g4b:addD (wD (ws.take k1 ++ [mo])) (wD (ws.drop k1)) = some (wD (ws.take k1 ++ [mo] ++ ws.drop k1)):=zMD (by simp; omega)
  have WM:∀ w:List Nat,WL [w] = w.length + 1:=fun w=>by simp [WL]
  have j4:=zIK (ls:=ws.take k1 ++ [mo] ++ ws.drop k1) (by rw [zDR,zDR,WM]; omega)
  have n4:=zDT 32 (ws.take k1 ++ [mo] ++ ws.drop k1)
  rw [zDR,zDR,WM] at n4
  have y1:=zFU (l:=aw) (lo:=none) (hi:=some 2) (by omega)
  rw [show cutA aw none (some 2) = aw.take 2 from zM8 aw 2] at y1
  have hda:Dt.str "-" = txt [45]:=by rw [zR7]; rfl
  have bw2:(aw.take 2).length ≤ 2:=by simp; omega
  have y2:addD (txt (aw.take 2)) (txt [45]) = some (txt (aw.take 2 ++ [45])):=zDC (by simp; omega)
  have y3:addD (txt (aw.take 2 ++ [45])) (txt (aw.take 2)) = some (txt (aw.take 2 ++ [45] ++ aw.take 2)):=zDC (by simp; omega)
  have b5:(aw.take 2 ++ [45] ++ aw.take 2).length ≤ 5:=by simp only [qAt,qAi,qCr]; omega
  have d5:=zBX (aw.take 2 ++ [45] ++ aw.take 2)
  generalize aw.take 2 ++ [45] ++ aw.take 2 = sw at y3 b5 d5
  have g5:addD (wD (ws.take k1 ++ [sw])) (wD (ws.drop (k1 + 1))) = some (wD (ws.take k1 ++ [sw] ++ ws.drop (k1 + 1))):=zMD (by simp; omega)
  have j5:=zIK (ls:=ws.take k1 ++ [sw] ++ ws.drop (k1 + 1)) (by rw [zDR,zDR,WM]; omega)
  have n5:=zDT 32 (ws.take k1 ++ [sw] ++ ws.drop (k1 + 1))
  rw [zDR,zDR,WM] at n5
  have hc6:∀ ρ:Rh,ρ.length = 9 → ρ[3]? = some (some (wD ws)) → eComp (iSq (eV 3)) 1 (.one 9) (tB (eB (inD false) (eC (.str "a")) (eV 9))) (eV 9) ρ = okR (wD (ws.filter fun w=>decide (97 ∈ w))):=fun ρ hr h3=>by
    refine zD8 (ρ:=ρ) (i:=9) txt txt (fun w=>decide (97 ∈ w)) ws hr.symm (fun w _=>?_) (fun w _ _=>?_) _ ?_ (by omega)
    · have g9:(ρ ++ [some (txt w)])[9]? = some (some (txt w)):=by rw [qAd (by omega),hr]; rfl
      have hia:=in_a w
      generalize txt w = Z at g9 hia ⊢
      generalize Dt.str "a" = Y at hia ⊢
      simp [g9,hia]
    · have g9:(ρ ++ [some (txt w)])[9]? = some (some (txt w)):=by rw [qAd (by omega),hr]; rfl
      rw [x_eV,g9]
    · rw [zV3,x_eV,h3]
      rfl
  have j6:=zIK (ls:=ws.filter fun w=>decide (97 ∈ w)) (by have:=zKN ws (fun w=>decide (97 ∈ w)); omega)
  have n6:=zDT 32 (ws.filter fun w=>decide (97 ∈ w))
  have n6b:=zKN ws (fun w=>decide (97 ∈ w))
  have hlx:=zL3 (l:=l) (by omega)
  have hlw:lenD [wD ws] = some (.int (ws.length:Int)):=by
    show some (Dt.int ((ws.map txt).length:Int)) = _
    rw [qAm]
  obtain ⟨kd,hkd⟩:∃ kd,c / 4 % 8 = kd:=⟨_,rfl⟩
  have h8:kd = 0 ∨ kd = 1 ∨ kd = 2 ∨ kd = 3 ∨ kd = 4 ∨ kd = 5 ∨ kd = 6 ∨ kd = 7:=by omega
  have tX:zCP (txt l) = true:=rfl
  have tB:zCP (.str " ") = true:=rfl
  have dX:=zBX l
  have dS:=zBX [d]
  have dM:=zBX mo
  have hp1:(0:Int) < (ws.length:Int):=by omega
  have hp2:(0:Int) < (l.length:Int) + 1:=by omega
  suffices key:∃ l':List Nat,l'.length ≤ 2 * l.length + 20 ∧ zDE [some (txt l,0),some (.int c,0),some (.int o,0),none,none,none,none,none,none] = okR (.rt (txt l')) by
    obtain ⟨l',h1,h2⟩:=key
    exact ⟨l',h1,zC4 rfl h2⟩
  have z0:∀ w,(txt w).dep ≤ 0 ∧ (txt w).dep ≤ 0:=fun w=>⟨qA7 0,qA7 0⟩
  have i0:∀ k:Int,(Dt.int k).dep ≤ 0:=fun k=>qA7 0
  rw [show ((k2 + 1:Nat):Int) = (k2:Int) + 1 by omega] at A2
  rw [show ((k1 + 1:Nat):Int) = (k1:Int) + 1 by omega] at B2
  refine zUK (fun X h=>sg (mt1 rfl tX rfl hs) dW (sg (b2 rfl (bi1 rfl hlw) (mdi hp1 hk1)) (i0 _) (sg (b2 rfl (b2 (bi1 rfl hlx) rfl rfl) (mdi hp2 hk2)) (i0 _) (sg (c1 (b2 rfl rfl (dvi (by decide))) hd0) (z0 _).1
    (si (r':=[some (txt l,0),some (.int c,0),some (.int o,0),some (wD ws,1),some (.int (k1:Int),0),some (.int (k2:Int),0),some (txt [d],0),none,none]) (k:=decide (c % 4 = 1)) (eqi (b2 rfl rfl (mdi (by decide) rfl)) rfl rfl) (fun hk=>?_) (fun hk=>?_)
      (sg (b2 (b2 rfl rfl (dvi (by decide))) rfl (mdi (by decide) hkd)) (i0 _) h)))))) ?_
  · rw [if_pos (of_decide_eq_true hk)] at hd
    subst hd
    exact ss (b2 rfl (b2 (b2 rfl rfl (dvi (by decide))) rfl (mdi (by decide) rfl)) hd1) (z0 _).1
  · rw [if_neg (of_decide_eq_false hk)] at hd
    subst hd
    rfl
  have hdd:(eC (.str "-"):EM) = eC (txt [45]):=by rw [hda]
  have m8:=mdi hp1 hk3
  have t8:∀ {ρ:Rh} {i j:Nat} {n m:Int},ρ[i]? = some (some (wD ws)) → ρ[j]? = some (some (.int c)) → eB ixD (eV i) (eB modD (eB divD (eV j) (eC (.int 32))) (eBi lenD (aCons (eV i) aNil))) ρ = okR (txt mo):=fun {ρ i j n m} h1 h2=>by
    have e1:eV i ρ = okR (wD ws):=by rw [x_eV,h1]
    have e2:eV j ρ = okR (.int c):=by rw [x_eV,h2]
    exact b2 e1 (b2 (b2 e2 rfl (dvi (by decide))) (bi1 e1 hlw) m8) x3
  rcases h8 with rfl | rfl | rfl | rfl | rfl | rfl | rfl | rfl
  · exact ⟨l.take k2 ++ [d] ++ l.drop k2,by simp only [qAt,qAi,qCr]; omega,sx (eqi rfl rfl rfl) (sr (b2 (b2 (sl0 rfl rfl A0) rfl f1) (sl1 rfl rfl A1) f2) (z0 _))⟩
  · exact ⟨l.take k2 ++ l.drop (k2 + 1),by simp only [qAt]; omega,sp (eqi rfl rfl rfl) (sx (eqi rfl rfl rfl) (sr (b2 (sl0 rfl rfl A0) (sl1 rfl (b2 rfl rfl rfl) A2) f3) (z0 _)))⟩
  · exact ⟨l.take k2 ++ [d] ++ l.drop (k2 + 1),by simp only [qAt,qAi,qCr]; omega,sp (eqi rfl rfl rfl) (sp (eqi rfl rfl rfl) (sx (eqi rfl rfl rfl) (sr (b2 (b2 (sl0 rfl rfl A0) rfl f1) (sl1 rfl (b2 rfl rfl rfl) A2) f4) (z0 _))))⟩
  · exact ⟨joinC 32 (ws.take k1 ++ ws.drop (k1 + 1)),by omega,sp (eqi rfl rfl rfl) (sp (eqi rfl rfl rfl) (sp (eqi rfl rfl rfl) (sx (eqi rfl rfl rfl) (sr (mt1 rfl tB (b2 (sl0 rfl rfl B0) (sl1 rfl (b2 rfl rfl rfl) B2) g3) j3) (z0 _)))))⟩
  all_goals refine zUK (fun X h=>sp (eqi rfl rfl rfl) (sp (eqi rfl rfl rfl) (sp (eqi rfl rfl rfl) (sp (eqi rfl rfl rfl) (sg (t8 (n:=0) (m:=0) rfl rfl) (z0 _).1 h))))) ?_
  · exact ⟨joinC 32 (ws.take k1 ++ [mo] ++ ws.drop k1),by omega,sx (eqi rfl rfl rfl) (sr (mt1 rfl tB (b2 (b2 (sl0 rfl rfl B0) (el1 rfl) (g4 mo)) (sl1 rfl rfl B1) g4b) j4) (z0 _))⟩
  all_goals
    rw [hdd]
    refine zUK (fun X h=>sp (eqi rfl rfl rfl) (sg (b2 (b2 (sl0 (b2 rfl rfl x1) rfl y1) rfl y2) (sl0 (b2 rfl rfl x1) rfl y1) y3) (qAo (z0 _).1 (qAy 1)) h)) ?_
  · exact ⟨joinC 32 (ws.take k1 ++ [sw] ++ ws.drop (k1 + 1)),by omega,sx (eqi rfl rfl rfl) (sr (mt1 rfl tB (b2 (b2 (sl0 rfl rfl B0) (el1 rfl) (g4 sw)) (sl1 rfl (b2 rfl rfl rfl) B2) g5) j5) (z0 _))⟩
  · exact ⟨joinC 32 (ws.filter fun w=>decide (97 ∈ w)),by omega,sp (eqi rfl rfl rfl) (sx (eqi rfl rfl rfl) (sr (mt1 rfl tB (hc6 _ rfl rfl) j6) (z0 _)))⟩
  · exact ⟨l,by omega,sp (eqi rfl rfl rfl) (sp (eqi rfl rfl rfl) rfl)⟩
theorem zJE {l:List Nat} {j:Nat} (h:zB8 [txt l] = some (.error ⟨"NoText","at",.int (j:Int)⟩)):zAT [txt l,.int (j:Int)] = okR (.bl true):=by
  have hw:=zF6 (j:Int)
  have dX:=zBX l
  unfold zAT zD3
  refine zC4 rfl ?_
  show sSeq _ _ [some (txt l,0),some (.int (j:Int),0),none,none] = _
  generalize txt l = X at h dX ⊢
  generalize (j:Int) = J at h hw ⊢
  have s1:sSet 2 0 [] (eC .non) [some (X,0),some (.int J,0),none,none] = okR (.nx [some (X,0),some (.int J,0),some (.non,0),none]):=by simp
  have s2:sTry [0] none (eCall zB8 (aCons (eV 0) aNil)) ["RoundError","NoNet","NoText","NoWord","NoLetter","TooMany"] 3 (sSet 2 0 [3] (eV 3)) [some (X,0),some (.int J,0),some (.non,0),none] = okR (.nx [some (X,0),some (.int J,0),some (.exc "NoText" "at" (.int J),0),none]):=by
    have hc:eCall zB8 (aCons (eV 0) aNil) (frz (frzAt [0] [some (X,0),some (.int J,0),some (.non,0),none])) = some (.error ⟨"NoText","at",.int J⟩):=by simp [h]
    refine (zTC _ _ _ hc (by simp)).trans ?_
    simp
  rw [zAP,s1,bindR_ok]
  dsimp only
  rw [zAP,s2,bindR_ok]
  dsimp only
  simp [hw,Dt.eq]
theorem zSH:∀ ms:List Int,Dt.eqL (ms.map Dt.int) (ms.map Dt.int) = true
  | []=>by simp [Dt.eqL]
  | a :: r=>by rw [qAp,Dt.eqL,zSH r]; simp [Dt.eq]
theorem zN8 (ms:List Int) (hz:ms.length ≤ 1000):zBI [.lst (ms.map .int),.lst (ms.map .int)] = okR (.bl true):=by
  have hc:eComp (iSq (eV 0)) 1 (.one 2) Mi.tYes (eCall zBT (aCons (eV 2) aNil)) [some (.lst (ms.map .int)),some (.lst (ms.map .int))] = okR (.lst (ms.map fun _=>Dt.bl true)):=by
    unfold eComp iSq
    simp only [x_eV,qCt,bindR_ok]
    rw [if_pos ⟨by simp; omega,by simp [Tg.idx]⟩,zD7 (fun _=>.bl true) _ [] fun d hd=>by
      obtain ⟨e,_,rfl⟩:=qAs.mp hd
      exact ⟨_,rfl,rfl,by simp [zAR,zF6]⟩]
    simp
  have hb:∀ l:List Int,boolsD (l.map fun _=>Dt.bl true) = some (l.map fun _=>true):=by
    intro l
    induction l with
    | nil=>rfl
    | cons a r ih=>rw [qAp,boolsD,ih]; rfl
  have ha:allD [.lst (ms.map fun _=>Dt.bl true)] = some (.bl true):=by
    rw [allD,hb]
    simp
  unfold zBI zES
  simp [isiD,tyD,Dt.eq,zSH,hc,ha]
theorem zN9 (ms:List Int) (hz:ms.length ≤ 1000):zBI [rowD ms,rowD ms] = okR (.bl true):=zN8 ms hz
theorem s2s {i n:Nat} {vs:List Nat} {e:EM} {r:Ro} {d:Dt} (h1:e (full r) = okR d) (h2:e (frz (frzAt vs r)) = okR d) (hr:frzAt vs r = r):sSet i n vs e r = okR (.nx (r.set i (some (d,n)))):=by
  rw [zFL,h1,bindR_ok]
  by_cases z:d.dep ≤ n
  · rw [if_pos z]
  · rw [if_neg z,h2,bindR_ok,hr]
theorem al1 {e:EM} {ρ:Rh} {d:Dt} (h:e ρ = okR d):aCons e aNil ρ = okR [d]:=by rw [zCC,h]; rfl
theorem an2 {e1 e2:EM} {ρ:Rh} (h1:e1 ρ = okR (.bl true)) (h2:e2 ρ = okR (.bl true)):eAnd e1 e2 ρ = okR (.bl true):=by simp [h1,h2]
theorem zQJ (ns:List Int) (hl:ns.length ≤ 63) (hw:∀ i ∈ ns,i.natAbs.log2 < 2 ^ 20):zG9 [.scr ns] = okR (.bl true):=by
  obtain ⟨ms,n,n1,n2,hL,hm⟩:=zMZ ns 0 (by omega) (by omega)
  obtain ⟨ts,rfl,hN,hne⟩:=zVD hL
  obtain ⟨c3,_,_,e3⟩:=zD9 ns 3 (by omega) (by omega)
  obtain ⟨c4,p4,_,e4⟩:=zD9 ns 4 (by omega) (by omega)
  have ht:=zNH hN.len (by omega)
  have hC:=zR8 hN hne
  have hTl:(zHX ts (4 * n)).length ≤ 4 * n:=by
    unfold zHX
    have:=List.length_filter_le (fun e=>decide (e < nt ts e)) (qA4 (4 * n))
    simp at this ⊢
    exact this
  obtain ⟨es,h1,h2⟩:=zNP (zHX ts (4 * n)) c3 (by omega)
  have hle:=h1.length_eq
  have hCe:=hC.perm h1
  have h32:∀ p ∈ es,p.1 < 32 ∧ p.2 < 32:=fun p hp=>by
    obtain ⟨a,b,_,_⟩:=hCe.tie p hp
    omega
  have hel:2 * es.length = 4 * n:=by
    have a:=zFJ es
    have b:=hCe.range.length_eq
    rw [a] at b
    simpa using b
  have hc:∀ ρ:Rh,ρ.length = 6 → ρ[1]? = some (some (prsD es)) → eComp (iSq (eV 1)) 2 (.tup [6,7]) Mi.tYes (eB addD (eB addD (eCall zAJ (aCons (eV 6) aNil)) (eC (.str "-"))) (eCall zAJ (aCons (eV 7) aNil))) ρ = okR (.lst ((es.map wordL).map txt)):=fun ρ hr h1=>by
    unfold eComp
    have hi:iSq (eV 1) ρ = okR (es.map prD):=by
      rw [zV3,x_eV,h1]
      rfl
    rw [hi,bindR_ok,if_pos ⟨by simp; omega,by simp [Tg.idx]; omega⟩]
    have:=zD7 (ρ:=ρ) (k:=2) (tg:=.tup [6,7]) (c:=Mi.tYes) (e:=eB addD (eB addD (eCall zAJ (aCons (eV 6) aNil)) (eC (.str "-"))) (eCall zAJ (aCons (eV 7) aNil))) (fun d=>match d with | .tup [.int a,.int b]=>txt (wordL (a.toNat,b.toNat)) | d=>d) (es.map prD) [] fun d hd=>by
      obtain ⟨p,hp,rfl⟩:=qAs.mp hd
      obtain ⟨l1,l2⟩:=h32 p hp
      match ρ,hr with
      | [a,b,c,d,e,f],_=>exact ⟨[(6,.int (p.1:Int)),(7,.int (p.2:Int))],rfl,rfl,zT1 (fun e=>zJR) rfl rfl l1 l2⟩
    rw [this]
    simp [prD]
  have hj:=zQO (ls:=es.map wordL) (fun l hl=>by obtain ⟨p,_,rfl⟩:=qAs.mp hl; rfl) (by simp; omega)
  have jl:=zDT 32 (es.map wordL)
  have jw:WL (es.map wordL) = 6 * es.length:=by
    clear jl hj hc h32 hel hle h1 h2 hCe
    induction es with
    | nil=>rfl
    | cons p es ih =>
      have e:WL ((p :: es).map wordL) = (wordL p).length + 1 + WL (es.map wordL):=by simp [WL]
      rw [e,ih,zPQ]
      simp
      omega
  have dX:=zBX (joinC 32 (es.map wordL))
  have tB:zCP (.str " ") = true:=rfl
  suffices key:∀ (l:List Nat) (o3:Option Sl) (Y:Dt),l.length ≤ 900 → (sSeq (sUnp [4,5] [2] (eCall zBV (aCons (eV 2) aNil))) (sSeq (sIf (Mi.tB (eB isntD (eV 5) (eC .non))) (sRet 0 0 [5,2] (eCall zBI (aCons (eCall zB8 (aCons (eV 2) aNil)) (aCons (eV 5) aNil)))) sNil) (sRet 0 0 [2,4] (eAnd (eCall zAT (aCons (eV 2) (aCons (eV 4) aNil))) (eCall zAT (aCons (eV 2) (aCons (eV 4) aNil))))))) [some (.scr ns,0),some (Y,1),some (txt l,0),o3,none,none] = okR (.rt (.bl true)) by
    unfold zG9 zKI
    refine zC4 rfl ?_
    show sSeq _ _ [some (.scr ns,0),none,none,none,none,none] = _
    have s1:sSet 1 1 [0] (eCall zBB (aCons (eCall zCF (aCons (eCall zC6 (aCons (eV 0) (aCons (eC (.int 0)) aNil))) aNil)) (aCons (eCall zAN (aCons (eV 0) (aCons (eC (.int 3)) aNil))) aNil))) [some (.scr ns,0),none,none,none,none,none] = okR (.nx [some (.scr ns,0),some (prsD es,1),none,none,none,none]):=by
      exact s2s (c2 (c1 (c2 rfl rfl hm) ht) (c2 rfl rfl e3) h2) (c2 (c1 (c2 rfl rfl hm) ht) (c2 rfl rfl e3) h2) rfl
    have s2:sSet 2 0 [1] (eMt joinD (eC (.str " ")) (aCons (eComp (iSq (eV 1)) 2 (.tup [6,7]) Mi.tYes (eB addD (eB addD (eCall zAJ (aCons (eV 6) aNil)) (eC (.str "-"))) (eCall zAJ (aCons (eV 7) aNil)))) aNil)) [some (.scr ns,0),some (prsD es,1),none,none,none,none] = okR (.nx [some (.scr ns,0),some (prsD es,1),some (txt (joinC 32 (es.map wordL)),0),none,none,none]):=by
      have hc':=hc (full [some (.scr ns,0),some (prsD es,1),none,none,none,none]) rfl rfl
      have he:eMt joinD (eC (.str " ")) (aCons (eComp (iSq (eV 1)) 2 (.tup [6,7]) Mi.tYes (eB addD (eB addD (eCall zAJ (aCons (eV 6) aNil)) (eC (.str "-"))) (eCall zAJ (aCons (eV 7) aNil)))) aNil) (full [some (.scr ns,0),some (prsD es,1),none,none,none,none]) = okR (txt (joinC 32 (es.map wordL))):=by
        rw [zV5]
        show (zA2 (okR (Dt.str " ")) _) = _
        rw [bindR_ok,zCC,hc',bindR_ok,zED,bindR_ok,bindR_ok,hj]
        rfl
      rw [zFL,he,bindR_ok,if_pos (by rw [dX]; omega)]
      rfl
    rw [zAP,s1,bindR_ok]
    dsimp only
    rw [zAP,s2,bindR_ok]
    dsimp only
    obtain ⟨m,hmm⟩:∃ m:Nat,c4 % 3 = (m:Int):=⟨(c4 % 3).toNat,by omega⟩
    generalize prsD es = Y
    have hx:iR1 (aCons (eB modD (eCall zAN (aCons (eV 0) (aCons (eC (.int 4)) aNil))) (eC (.int 3))) aNil) (full [some (.scr ns,0),some (Y,1),some (txt (joinC 32 (es.map wordL)),0),none,none,none]) = okR (nums 0 m):=by
      refine zV4 ?_ (by omega)
      exact al1 (b2 (c2 rfl rfl e4) rfl (mdi (by decide) hmm))
    have loop:nxR (forGo (.one 3) (sSet 2 0 [2,0,3] (eCall zBR (aCons (eV 2) (aCons (eCall zAN (aCons (eV 0) (aCons (eB addD (eC (.int 5)) (eB mulD (eC (.int 2)) (eV 3))) aNil))) (aCons (eCall zAN (aCons (eV 0) (aCons (eB addD (eC (.int 6)) (eB mulD (eC (.int 2)) (eV 3))) aNil))) aNil))))) (nums 0 m) [some (.scr ns,0),some (Y,1),some (txt (joinC 32 (es.map wordL)),0),none,none,none]) fun r=>∃ l o3,r = [some (.scr ns,0),some (Y,1),some (txt l,0),o3,none,none] ∧ l.length ≤ 900:=by
      refine zY6 (fun k r=>∃ l o3,r = [some (.scr ns,0),some (Y,1),some (txt l,0),o3,none,none] ∧ l.length + 20 ≤ 120 * 2 ^ k) ⟨_,none,rfl,by omega⟩ (fun k hk r hr=>?_) fun r ⟨l,o3,e,h⟩=>⟨l,o3,e,?_⟩
      · obtain ⟨l,o3,rfl,h⟩:=hr
        have hk2:k = 0 ∨ k = 1:=by omega
        have hb:l.length ≤ 400:=by rcases hk2 with rfl | rfl <;> simp at h <;> omega
        obtain ⟨c5,p5,_,e5⟩:=zD9 ns (5 + 2 * (k:Int)) (by omega) (by omega)
        obtain ⟨c6,p6,_,e6⟩:=zD9 ns (6 + 2 * (k:Int)) (by omega) (by omega)
        obtain ⟨l',q1,q2⟩:=zKR hb p5 p6
        have dL:=zBX l'
        have m5:mulD (.int 2) (.int (k:Int)) = some (.int (2 * (k:Int))):=zU5 (by omega) (by omega)
        refine zS3 (r:=[some (.scr ns,0),some (Y,1),some (txt l',0),some (.int (k:Int),0),none,none]) ?_ ⟨l',_,rfl,by rw [Nat.pow_succ]; omega⟩
        show sSet 2 0 [2,0,3] _ [some (.scr ns,0),some (Y,1),some (txt l,0),some (.int (k:Int),0),none,none] = _
        exact ss (Mp.c3 rfl (c2 rfl (b2 rfl (b2 rfl rfl m5) rfl) e5) (c2 rfl (b2 rfl (b2 rfl rfl m5) rfl) e6) q2) (qBx dL)
      · have hm3:m = 0 ∨ m = 1 ∨ m = 2:=by omega
        rcases hm3 with rfl | rfl | rfl <;> simp at h <;> omega
    obtain ⟨r,g1,l,o3,rfl,g2⟩:=zID loop
    rw [zAP,zSY,hx,bindR_ok,g1,bindR_ok]
    exact key l o3 Y g2
  intro l o3 Y hz
  obtain ⟨u1,u2⟩:=zR0 hz
  have dl:=zBX l
  rcases zNS hz with ⟨j,q1,q2⟩ | ⟨T,ts',q1,q3,q4,q5,q6,q7,q8⟩
  · have hd:=u1 j q1
    have hr:=zJE q2
    refine su (ds:=[.int (j:Int),.non]) (c1 rfl hd) rfl (sp (tb1 (b2 rfl rfl rfl)) (sr (an2 (c2 rfl rfl hr) (c2 rfl rfl hr)) ⟨qA7 0,qA7 0⟩))
  · have hd:=u2 T ts' q1 q6 q7
    have hle2:=zJQ q4 q5
    have hq:=zN9 (numL ts') (by simp [numL]; omega)
    exact su (ds:=[.non,rowD (numL ts')]) (c1 rfl hd) rfl (sx (tb1 (b2 rfl rfl rfl)) (sr (c2 (c1 rfl q8) rfl hq) ⟨qA7 0,qA7 0⟩))
end Mp
set_option maxHeartbeats 4000000
namespace Q05
open PySem PyProof.Rows
open L2 hiding Rep RepL
open L3
open Mp
noncomputable def top (i:Nat):Stmt:=qDq.main.body.getD i (.Pass ⟨0,0,0,0⟩)
theorem S__law_cell:FnScope ["_law_script","_law_k","_law_cell_here","_law_mixed"] ["_law_script","_law_k"] (zA7 (top 20)):=fsc
theorem zJ0:FnScope ["_law_one","_law_other"] ["_law_one","_law_other"] (zA7 (top 24)):=fsc
theorem S__law_net:FnScope ["_law_number","_law_places","_law_left","_law_net_here","_law_one","_law_other"] ["_law_number","_law_places"] (zA7 (top 23)):=fsc
theorem S__law_drawn:FnScope ["_law_script","_law_at","_law_head","_law_places","_law_net_here"] ["_law_script","_law_at"] (zA7 (top 25)):=fsc
theorem zIZ:FnScope ["_law_text"] ["_law_text"] (zA7 (top 31)):=fsc
theorem S__law_due:FnScope ["_law_text","_law_net_here","_law_words","_law_at","_law_word","_law_one","_law_other"] ["_law_text"] (zA7 (top 32)):=fsc
theorem zGU:FnScope ["_law_end"] ["_law_end"] (zA7 (top 26)):=fsc
theorem zKO:FnScope ["_law_thing"] ["_law_thing"] (zA7 (top 21)):=fsc
theorem zH3:FnScope ["many"] ["many"] (zA7 (top 10)):=fsc
theorem zH4:FnScope ["ends"] ["ends"] (zA7 (top 18)):=fsc
theorem zPN:FnScope ["ends","tied"] ["ends","tied"] (zA7 (top 17)):=fsc
theorem S_end_read:FnScope ["word","place","seat"] ["word"] (zA7 (top 15)):=fsc
theorem S_tie_read:FnScope ["word","ends"] ["word"] (zA7 (top 16)):=fsc
theorem S_net_read:FnScope ["text","words","tied","at","word","ends"] ["text"] (zA7 (top 14)):=fsc
theorem S__law_refused:FnScope ["_law_text","_law_due_here","_law_caught","e"] ["_law_text","_law_due_here"] (zA7 (top 33)):=fsc
theorem S__law_shuffled:FnScope ["_law_things","_law_number","_law_left","_law_found"] ["_law_things","_law_number"] (zA7 (top 28)):=fsc
theorem S__law_any_sign:FnScope ["_law_cell_here","_law_some"] ["_law_cell_here"] (zA7 (top 29)):=fsc
theorem S__law_spoilt:FnScope ["_law_text","_law_cell_here","_law_other","_law_words","_law_at","_law_spot","_law_sign","_law_kind","_law_more"] ["_law_text","_law_cell_here","_law_other"] (zA7 (top 30)):=fsc
theorem zLJ:FnScope ["_law_net_here"] ["_law_net_here"] (zA7 (top 27)):=fsc
theorem zIY:FnScope ["_law_found","_law_due_here"] ["_law_found","_law_due_here"] (zA7 (top 22)):=fsc
theorem S_law:FnScope ["_law_script","_law_ties_here","_law_text","_law_k","_law_at","_law_net_here"] ["_law_script"] (zA7 (top 34)):=fsc
section
variable {P:Program} {w:World} {K:qA1} {mg:Str → Option Value} {base:Heap}
abbrev zCW:Stmt:=zYB (top 3)
theorem zPM:FnScope ["self","at"] ["self","at"] (zA7 zCW):=⟨rfl,rfl,rfl,by decide +kernel,rfl,by decide +kernel,by decide +kernel⟩
theorem zGX {f:Addr} {fd:FuncData} (F:Fun K "__init__" "NoText.__init__" zCW f fd) {B:Addr} (hB:XBase K B) (hm:mg "RoundError" = some (.ref B)):FnOk P w K mg base (CXe P w) 1 f fd ["self","at"] (zFT K "at"):=by
  refine F.okX (k:=0) zPM (zQR rfl) (fun cdv A outer s H vs Q E hr h=>?_)
  exact ⟨_,zA3 (zNZ (zQD hB rfl hm (zA0 (pv 0) (zA0 (pv 1) zA4)))) (zAE (zQ9 (pv 0) (pv 1) rfl)),zQQ h⟩
structure Bd (K:qA1) (mg:Str → Option Value):Prop where
  d0:Def K mg "_law_cell" (top 20)
  d1:Def K mg "_law_beside" (top 24)
  d2:Def K mg "_law_net" (top 23)
  d3:Def K mg "_law_drawn" (top 25)
  d4:Def K mg "_law_end_of" (top 31)
  d5:Def K mg "_law_due" (top 32)
  d6:Def K mg "_law_end_text" (top 26)
  d7:Def K mg "_law_whole" (top 21)
  d8:Def K mg "fills_places" (top 10)
  d9:Def K mg "are_all_ends" (top 18)
  d10:Def K mg "are_new" (top 17)
  d11:Def K mg "end_read" (top 15)
  d12:Def K mg "tie_read" (top 16)
  d13:Def K mg "net_read" (top 14)
  d14:Def K mg "_law_refused" (top 33)
  d15:Def K mg "_law_shuffled" (top 28)
  d16:Def K mg "_law_any_sign" (top 29)
  d17:Def K mg "_law_spoilt" (top 30)
  d18:Def K mg "_law_ties" (top 27)
  d19:Def K mg "_law_wholes" (top 22)
  e0:mg "ValueError" = none
  e1:mg "all" = none
  e2:mg "bool" = none
  e3:mg "enumerate" = none
  e4:mg "int" = none
  e5:mg "isinstance" = none
  e6:mg "len" = none
  e7:mg "list" = none
  e8:mg "max" = none
  e9:mg "range" = none
  e10:mg "sorted" = none
structure Bn (P:Program) (w:World) (K:qA1) (mg:Str → Option Value) (base:Heap):Type where
  S:Bd K mg
  u_MOST_PLACES:Value
  u_SEATS:Value
  u_SEAT_FIGURES:Value
  u_SMALL_LETTERS:Value
  a_NoText:Addr
  a_NoLetter:Addr
  a_NoNet:Addr
  a_NoWord:Addr
  a_RoundError:Addr
  a_TooMany:Addr
  c_MOST_PLACES:RelV (V.int 8) u_MOST_PLACES ∧ mg "MOST_PLACES" = some u_MOST_PLACES
  c_SEATS:RelV (V.int 4) u_SEATS ∧ mg "SEATS" = some u_SEATS
  c_SEAT_FIGURES:RelV (V.str "0123") u_SEAT_FIGURES ∧ mg "SEAT_FIGURES" = some u_SEAT_FIGURES
  c_SMALL_LETTERS:RelV (V.str "abcdefghijklmnopqrstuvwxyz") u_SMALL_LETTERS ∧ mg "SMALL_LETTERS" = some u_SMALL_LETTERS
  x_NoText:XIni P w K mg base "NoText" "at" a_NoText
  n_RoundError:XCls K mg "RoundError" a_RoundError
  n_NoNet:XCls K mg "NoNet" a_NoNet
  n_NoText:XCls K mg "NoText" a_NoText
  n_NoWord:XCls K mg "NoWord" a_NoWord
  n_NoLetter:XCls K mg "NoLetter" a_NoLetter
  n_TooMany:XCls K mg "TooMany" a_TooMany
  q0:(∀ c ∈ (["NoNet","NoText","NoWord"]:List Str),∃ C,clK K c = some C ∧ Xc.XIs K C ∧ qA8 K (.ref C) "at" = some none)
  q1:(∀ c ∈ (["NoNet","NoWord","NoLetter","TooMany"]:List Str),∃ C,clK K c = some C ∧ Xc.XIs K C ∧ qAw K (.ref C) [Value.ref a_NoLetter,Value.ref a_NoNet,Value.ref a_NoWord,Value.ref a_TooMany] = some true) ∧ (∀ c ∈ (["RoundError","NoText"]:List Str),∃ C,clK K c = some C ∧ Xc.XIs K C ∧ qAw K (.ref C) [Value.ref a_NoLetter,Value.ref a_NoNet,Value.ref a_NoWord,Value.ref a_TooMany] = some false)
  q2:(∀ c ∈ (["NoText"]:List Str),∃ C,clK K c = some C ∧ Xc.XIs K C ∧ kitV K C (V.ref a_NoText) = some true) ∧ (∀ c ∈ (["RoundError","NoNet","NoWord","NoLetter","TooMany"]:List Str),∃ C,clK K c = some C ∧ Xc.XIs K C ∧ kitV K C (V.ref a_NoText) = some false)
  q3:(∀ c ∈ (["RoundError","NoNet","NoText","NoWord","NoLetter","TooMany"]:List Str),∃ C,clK K c = some C ∧ Xc.XIs K C ∧ kitV K C (V.ty "ValueError") = some true) ∧ (∀ c ∈ ([]:List Str),∃ C,clK K c = some C ∧ Xc.XIs K C ∧ kitV K C (V.ty "ValueError") = some false)
  q4:(∀ c ∈ (["RoundError","NoNet","NoText","NoWord","NoLetter","TooMany"]:List Str),∃ C,clK K c = some C ∧ qCg K (.ref C) (.ref a_RoundError) = some true)
variable (B:Bn P w K mg base)
include B
theorem zBF:Has P w K mg base "_law_cell" 1 ["_law_script","_law_k"] (sp0 K mg 0 zAN):=by
  letI:Kc:=⟨K⟩
  exact dfM B.S.d0 S__law_cell fun hr hu h=>⟨_,(zA3 (pst 2 S__law_cell.nd zA6)
      (zA3 (zCE (zBP u_lt (pn 1) (zAL (zCG (K:=K)) rfl B.S.e6 boot_len (zA0 (pn 0) zA4)) (zB1 _)) (zAE (pst 2 S__law_cell.nd (zCN (zCL (K:=K)) (pn 0) (pn 1) (fun _ _=>rfl)))) zB2)
      (zA3 (pst 3 S__law_cell.nd (zAI zCS (zAI zDY (zAI zBD (zAI zBD (zAI zCS (pn 2) zA6) (zAI zDY zA6 (pn 1))) zA6) zA6) zA6))
      (zAE (zAQ (zAI zCS (zAI zBD (zAI zDY (pn 3) zA6) (pn 1)) zA6)))))),(zBM (zAF (zAU (n:=0) [] zA5)
      (zAF (zCH (dt_b (dz (zA8 zFX (de_v 1) (dz (zCA zCJ (zA1 (de_v 0) zA9)))))) (zAU (n:=0) [0,1] (zA8 zCM (de_v 0) (de_v 1))) zBG)
      (zAF (zAU (n:=0) [2,1] (zA8 zBN (dz (zA8 zE1 (zA8 zAX (zA8 zAX (dz (zA8 zBN (de_v 2) (dz zA5))) (dz (zA8 zE1 (dz zA5) (de_v 1)))) (dz zA5)) (dz zA5))) (dz zA5)))
      (zAY (n:=0) [1,3] (zA8 zBN (zA8 zAX (dz (zA8 zE1 (de_v 3) (dz zA5))) (de_v 1)) (dz zA5)))))) h)⟩
theorem zH0:Has P w K mg base "_law_beside" 1 ["_law_one","_law_other"] (sp0 K mg 1 zBJ):=by
  letI:Kc:=⟨K⟩
  exact dfM B.S.d1 zJ0 fun hr hu h=>⟨_,(zAE (zAQ (zAI zBD (pn 0) (zEA rfl (cn ["_law_one","1","_law_end"] 1 (by kernel_rfl)) (zHD (K:=K) (pn 1)) (fun _ _ _ _=>(pgn 2)) (fun _ _ _ _=>zE8) (fun _ _ _ _=>(zAI zBD (pn 2) (zAL (zCG (K:=K)) rfl B.S.e6 boot_len (zA0 (pn 0) zA4)))))))),(zBM (zAY (n:=1) [0,1] (zA8 zAX (de_v 0) (zD6 (n:=1) (zHP (de_v 1)) (zDJ 2) zGI (zA8 zAX (de_v 2) (dz (zCA zCJ (zA1 (de_v 0) zA9))))))) h)⟩
theorem zG5:Has P w K mg base "_law_net" 1 ["_law_number","_law_places"] (sp0 K mg 1 zCY):=by
  letI:Kc:=⟨K⟩
  exact dfM B.S.d2 S__law_net fun hr hu h=>⟨_,(zA3 (pst 2 S__law_net.nd (zCX (zL4 (K:=K) rfl) rfl B.S.e7 boot_list (zA0 (zCX zOK rfl B.S.e9 boot_range (zA0 (zAI zDY zA6 (pn 1)) zA4)) zA4)))
      (zA3 (zHB (i:=3) S__law_net.nd rfl oi rfl (cn ["0","1","2","3","4","5","_law_end"] 1 (by kernel_rfl)) (zHD (K:=K) (pn 2)) (fun _ _ _ _=>(pgn 6)) (fun _ _ _ _=>zE8) (fun _ _ _ _=>zA6))
      (zA3 (zLS PassesOwn.never (zBP (u_ne hu) (pn 2) (zJG zA4) (zB1 _)) (zA3 (pst 4 S__law_net.nd (zQB qC2 qD2 qD3 zKZ (pn 2) (zA0 zA6 zA4)))
      (zA3 (pst 0 S__law_net.nd (zAI zCS (zAI zBD (zAI zDY (pn 0) zA6) zA6) zA6))
      (zA3 (pst 5 S__law_net.nd (zQB qC2 qD2 qD3 zKZ (pn 2) (zA0 (zAI zCS (zAI zDZ (pn 0) zA6) (zAL (zCG (K:=K)) rfl B.S.e6 boot_len (zA0 (pn 2) zA4))) zA4)))
      (zA3 (zO0 (pn 5) (zRX (pn 3) (pn 4) zV9))
      (zAE (zO0 (pn 4) (zRX (pn 3) (pn 5) zV9))))))))
      (zAE (zAQ (pn 3)))))),(zBM (zAF (zAU (n:=1) [1] (zF7 (zA1 (zA8 zE1 (dz zA5) (de_v 1)) zA9)))
      (zAF (zAU (n:=1) [2] (zD6 (n:=0) (zHP (de_v 2)) (zDJ 6) zGI zA5))
      (zAF (zM4 (dt_b (dz (zA8 zGW (de_v 2) (zK7 (n:=8) zA9)))) (zAF (zSL 4 2 (dz zA5))
      (zAF (zAU (n:=0) [0] (zA8 zBN (zA8 zAX (dz (zA8 zE1 (de_v 0) (dz zA5))) (dz zA5)) (dz zA5)))
      (zAF (zSL 5 2 (dz (zA8 zBN (dz (zA8 zE2 (de_v 0) (dz zA5))) (dz (zCA zCJ (zA1 (de_v 2) zA9))))))
      (zAF (zOZ 3 (n:=0) (de_v 4) (de_v 5))
      (zOZ 3 (n:=0) (de_v 5) (de_v 4)))))))
      (zGJ 3)))) h)⟩
theorem zIC:Has P w K mg base "_law_drawn" 2 ["_law_script","_law_at"] (sp0 K mg 1 zC6):=by
  letI:Kc:=⟨K⟩
  exact dfM B.S.d3 S__law_drawn fun hr hu h=>⟨_,(zA3 (pst 2 S__law_drawn.nd (zBU (zBF B) (by decide) hr rfl (zA0 (pn 0) (zA0 (pn 1) zA4))))
      (zA3 (pst 3 S__law_drawn.nd (zAI zBD zA6 (zAI zCS (pn 2) zA6)))
      (zA3 (pst 4 S__law_drawn.nd (zBU (zG5 B) (by decide) hr rfl (zA0 (zBU (zBF B) (by decide) hr rfl (zA0 (pn 0) (zA0 (zAI zBD (pn 1) zA6) zA4))) (zA0 (pn 3) zA4))))
      (zA3 (zCE (pt_w (zW4 (zBP (u_eq hu) (zAI zCS (zAI zDZ (pn 2) zA6) zA6) zA6 (zB1 _)) (zTQ (zBP u_lt (pn 3) zA6 (zB1 _))))) (zAE (zAQ (zBU (zH0 B) (by decide) hr rfl (zA0 (pn 4) (zA0 (zBU (zG5 B) (by decide) hr rfl (zA0 (zBU (zBF B) (by decide) hr rfl (zA0 (pn 0) (zA0 (zAI zBD (pn 1) zA6) zA4))) (zA0 (zAI zBD zA6 (zAI zCS (zAI zDZ (pn 2) zA6) (zAI zV8 zA6 (pn 3)))) zA4))) zA4))))) zB2)
      (zAE (zAQ (pn 4))))))),(zBM (zAF (zAU (n:=0) [0,1] (zAS (zA1 (de_v 0) (zA1 (de_v 1) zA9))))
      (zAF (zAU (n:=1) [2] (zA8 zAX (dz zA5) (dz (zA8 zBN (de_v 2) (dz zA5)))))
      (zAF (zAU (n:=1) [3,0,1] (zAS (zA1 (zAS (zA1 (de_v 0) (zA1 (zAK (zA8 zAX (de_v 1) (dz zA5))) zA9))) (zA1 (de_v 3) zA9))))
      (zAF (zCH (zX7 (dt_b (dz (zA8 zEW (dz (zA8 zBN (dz (zA8 zE2 (de_v 2) (dz zA5))) (dz zA5))) (dz zA5)))) (dt_b (dz (zA8 zFX (de_v 3) (dz zA5))))) (zAY (n:=1) [4,0,1,2,3] (zAS (zA1 (de_v 4) (zA1 (zAK (zAS (zA1 (zAS (zA1 (de_v 0) (zA1 (zAK (zA8 zAX (de_v 1) (dz zA5))) zA9))) (zA1 (zAK (zA8 zAX (dz zA5) (dz (zA8 zBN (dz (zA8 zE2 (de_v 2) (dz zA5))) (dz (zA8 zRT (dz zA5) (de_v 3))))))) zA9)))) zA9)))) zBG)
      (zGJ 4))))) h)⟩
theorem zE3:Has P w K mg base "_law_end_of" 1 ["_law_text"] (sp0 K mg 1 zAM):=by
  letI:Kc:=⟨K⟩
  exact dfM B.S.d4 zIZ fun hr hu h=>⟨_,(zA3 (zCE (pt_w (zF9 (zBP (u_ne hu) (zAL (zCG (K:=K)) rfl B.S.e6 boot_len (zA0 (pn 0) zA4)) zA6 (zB1 _)) (zF9 (zBP (zNC (K:=K)) (zCN (zCL (K:=K)) (pn 0) zA6 (fun _ _=>rfl)) zBQ rfl) (zEH (zBP (zNC (K:=K)) (zCN (zCL (K:=K)) (pn 0) zA6 (fun _ _=>rfl)) zBQ rfl))))) (zAE (zAQ zCO)) zB2)
      (zAE (zAQ (zAI zBD (zAI zDY zA6 (zEY qAr qCa qCb zFE zBQ (zA0 (zCN (zCL (K:=K)) (pn 0) zA6 (fun _ _=>rfl)) zA4))) (zEY qAr qCa qCb zFE zBQ (zA0 (zCN (zCL (K:=K)) (pn 0) zA6 (fun _ _=>rfl)) zA4)))))),(zBM (zAF (zCH (zFC (dt_b (dz (zA8 zGW (dz (zCA zCJ (zA1 (de_v 0) zA9))) (dz zA5)))) (zFC (dt_b (dz (zA8 zPZ (zA8 zCM (de_v 0) (dz zA5)) (dz zBH)))) (dt_b (dz (zA8 zPZ (zA8 zCM (de_v 0) (dz zA5)) (dz zBH)))))) (zAY (n:=1) [] zCR) zBG)
      (zAY (n:=1) [0] (zA8 zAX (dz (zA8 zE1 (dz zA5) (dz (zF0 zI3 (dz zBH) (zA1 (zA8 zCM (de_v 0) (dz zA5)) zA9))))) (dz (zF0 zI3 (dz zBH) (zA1 (zA8 zCM (de_v 0) (dz zA5)) zA9)))))) h)⟩
theorem zKX:Has P w K mg base "_law_due" 2 ["_law_text"] (sp0 K mg 2 zBV):=by
  letI:Kc:=⟨K⟩
  exact dfM B.S.d5 S__law_due fun hr hu h=>⟨_,(zA3 (pst 1 S__law_due.nd zLV)
      (zA3 (pst 2 S__law_due.nd (zEY qAr qB4 qC3 zEK (pn 0) (zA0 zBQ zA4)))
      (zA3 (zKT PassesOwn.never rfl (zI9 (K:=K) rfl B.S.e3 (zA0 (pn 2) zA4)) (zG1 (K:=K) rfl (zC2 (zDK (i:=3) S__law_due.nd rfl oi) (zC2 (zDK (i:=4) S__law_due.nd rfl oi) zG0))) (zA3 (pst 5 S__law_due.nd (zBU (zE3 B) (by decide) hr rfl (zA0 (zB3 (u_sl (K:=K)) (pn 4) zBE (zB7 zA6)) zA4)))
      (zA3 (pst 6 S__law_due.nd (zBU (zE3 B) (by decide) hr rfl (zA0 (zB3 (u_sl (K:=K)) (pn 4) (zB7 zA6) zBE) zA4)))
      (zA3 (zCE (pt_w (zF9 (zBP zOA (pn 5) zCO (zB1 _)) (zF9 (zBP zOA (pn 6) zCO (zB1 _)) (zEH (zBP (u_ne hu) (zB3 (u_sl (K:=K)) (pn 4) (zB7 zA6) (zB7 zA6)) zBQ (zB1 _)))))) (zAE (zAQ (zHE (zA0 (pn 3) (zA0 zCO zA4))))) zB2)
      (zA3 (zCE (pt_w (zF9 (zBP (u_eq hu) (pn 5) (pn 6) (zB1 _)) (zF9 (zRW (zS1 (zH1 hr) (pn 5) (pn 1))) (zEH (zRW (zS1 (zH1 hr) (pn 6) (pn 1))))))) (zAE (zAQ (zHE (zA0 (pn 3) (zA0 zCO zA4))))) zB2)
      (zA3 (zI6 (zH1 hr) (pn 1) (pn 5) (pn 6) rfl)
      (zAE (zI6 (zH1 hr) (pn 1) (pn 6) (pn 5) rfl))))))))
      (zA3 (zCE (pt_w (zF9 (zBP (u_ne hu) (zAI zCS (zAL zIJ rfl B.S.e6 boot_len (zA0 (pn 1) zA4)) zA6) zA6 (zB1 _)) (zEH (zBP (u_ne hu) (zAL (zQM rfl) rfl B.S.e10 boot_sorted (zA0 (pn 1) zA4)) (zCX (zL4 (K:=K) rfl) rfl B.S.e7 boot_list (zA0 (zCX zOK rfl B.S.e9 boot_range (zA0 (zAL zIJ rfl B.S.e6 boot_len (zA0 (pn 1) zA4)) zA4)) zA4)) (zB1 _))))) (zAE (zAQ (zHE (zA0 (zAL (zCG (K:=K)) rfl B.S.e6 boot_len (zA0 (pn 2) zA4)) (zA0 zCO zA4))))) zB2)
      (zAE (zAQ (zHE (zA0 zCO (zA0 (zEA rfl (cn ["0","_law_net_here","2","3","4","5","6","_law_end"] 1 (by kernel_rfl)) (zFZ rfl B.S.e9 (zA0 (zAL zIJ rfl B.S.e6 boot_len (zA0 (pn 1) zA4)) zA4)) (fun _ _ _ _=>(pgn 7)) (fun _ _ _ _=>zE8) (fun _ _ _ _=>(zO5 (zH1 hr) (pn 1) (pn 7) (fun _ _=>rfl)))) zA4))))))))),(zBM (zAF (zAU (n:=1) [] zP9)
      (zAF (zAU (n:=1) [0] (zF0 zFD (de_v 0) (zA1 zBH zA9)))
      (zAF (zSM [2] (zUN (zA1 (de_v 2) zA9)) (zJ5 (zC1 3 (zC1 4 zFR)) rfl) (zAF (zAU (n:=1) [4] (zAS (zA1 (zAK (zDH (de_v 4) zDP (do_e (dz zA5)))) zA9)))
      (zAF (zAU (n:=1) [4] (zAS (zA1 (zAK (zDH (de_v 4) (do_e (dz zA5)) zDP)) zA9)))
      (zAF (zCH (zFC (dt_b (dz (zA8 zTG (de_v 5) (dz zCR)))) (zFC (dt_b (dz (zA8 zTG (de_v 6) (dz zCR)))) (dt_b (dz (zA8 zGW (zDH (de_v 4) (do_e (dz zA5)) (do_e (dz zA5))) (dz zBH)))))) (zAY (n:=1) [3] (zK6 (n:=0) (zA1 (de_v 3) (zA1 zCR zA9)))) zBG)
      (zAF (zCH (zFC (dt_b (dz (zA8 zEW (de_v 5) (de_v 6)))) (zFC (dt_B (dz (zSP (de_v 5) (de_v 1)))) (dt_B (dz (zSP (de_v 6) (de_v 1)))))) (zAY (n:=1) [3] (zK6 (n:=0) (zA1 (de_v 3) (zA1 zCR zA9)))) zBG)
      (zAF (zIQ 1 (de_v 5) (de_v 6))
      (zIQ 1 (de_v 6) (de_v 5))))))))
      (zAF (zCH (zFC (dt_b (dz (zA8 zGW (dz (zA8 zBN (dz (zCA zIT (zA1 (de_v 1) zA9))) (dz zA5))) (dz zA5)))) (dt_b (dz (zA8 zGW (zCA zXG (zA1 (de_v 1) zA9)) (zF7 (zA1 (zCA zIT (zA1 (de_v 1) zA9)) zA9)))))) (zAY (n:=1) [2] (zK6 (n:=0) (zA1 (zCA zCJ (zA1 (de_v 2) zA9)) (zA1 zCR zA9)))) zBG)
      (zAY (n:=2) [1] (zK6 (n:=1) (zA1 zCR (zA1 (zD6 (n:=0) (zUM (zA1 (zCA zIT (zA1 (de_v 1) zA9)) zA9)) (zDJ 7) zGI (zSO (de_v 1) (de_v 7))) zA9)))))))) h)⟩
theorem zDD:Has P w K mg base "_law_end_text" 1 ["_law_end"] (sp0 K mg 1 zAJ):=by
  letI:Kc:=⟨K⟩
  exact dfM B.S.d6 zGU fun hr hu h=>⟨_,(zAE (zAQ (zAI zBD (zCN (zCL (K:=K)) zBQ (zAI zDZ (pn 0) zA6) (fun _ _=>rfl)) (zCN (zCL (K:=K)) zBQ (zAI zCS (pn 0) zA6) (fun _ _=>rfl))))),(zBM (zAY (n:=1) [0] (zA8 zAX (zA8 zCM (dz zBH) (dz (zA8 zE2 (de_v 0) (dz zA5)))) (zA8 zCM (dz zBH) (dz (zA8 zBN (de_v 0) (dz zA5)))))) h)⟩
theorem zEI:Has P w K mg base "_law_whole" 1 ["_law_thing"] (sp0 K mg 0 zBT):=by
  letI:Kc:=⟨K⟩
  exact dfM B.S.d7 zKO fun hr hu h=>⟨_,(zAE (zAQ (zKU (zAL zDN rfl B.S.e5 boot_isinstance (zA0 (pn 0) (zA0 (zIB (v:=.ty "int") rfl B.S.e4 boot_int rfl) zA4))) (zHF (zXZ (zAL zDN rfl B.S.e5 boot_isinstance (zA0 (pn 0) (zA0 (zIB (v:=.ty "bool") rfl B.S.e2 boot_bool rfl) zA4)))))))),(zBM (zAY (n:=0) [0] (zGM (dz (zP7 (by decide) (de_v 0))) (zXE (dz (zP7 (by decide) (de_v 0)))))) h)⟩
theorem zG3:Has P w K mg base "fills_places" 1 ["many"] (sp0 K mg 0 zC3):=by
  letI:Kc:=⟨K⟩
  exact dfM B.S.d8 zH3 fun hr hu h=>⟨_,(zAE (zAQ (zKU (zIA (u_eq hu) (zAI zCS (pn 0) (zE9 rfl B.c_SEATS.2 B.c_SEATS.1)) zA6 (zB1 _)) (zHF (zWB u_le u_le zA6 (zAI zDZ (pn 0) (zE9 rfl B.c_SEATS.2 B.c_SEATS.1)) (zE9 rfl B.c_MOST_PLACES.2 B.c_MOST_PLACES.1)))))),(zBM (zAY (n:=0) [0] (zGM (dz (zA8 zEW (dz (zA8 zBN (de_v 0) (dz zA5))) (dz zA5))) (zR5 zFX zFX (dz zA5) (dz (zA8 zE2 (de_v 0) (dz zA5))) (dz zA5)))) h)⟩
theorem zG4:Has P w K mg base "are_all_ends" 2 ["ends"] (sp0 K mg 0 zAV):=by
  letI:Kc:=⟨K⟩
  exact dfM B.S.d9 zH4 fun hr hu h=>⟨_,(zAE (zAQ (zKU (zBU (zG3 B) (by decide) hr rfl (zA0 (zAL (zCG (K:=K)) rfl B.S.e6 boot_len (zA0 (pn 0) zA4)) zA4)) (zHF (zIA (u_eq hu) (zAL (zWT rfl) rfl B.S.e8 boot_max (zA0 (pn 0) zA4)) (zAI zV8 (zAL (zCG (K:=K)) rfl B.S.e6 boot_len (zA0 (pn 0) zA4)) zA6) (zB1 _)))))),(zBM (zAY (n:=0) [0] (zGM (zAS (zA1 (zCA zCJ (zA1 (de_v 0) zA9)) zA9)) (zA8 zEW (dz (zCA zUS (zA1 (de_v 0) zA9))) (dz (zA8 zRT (dz (zCA zCJ (zA1 (de_v 0) zA9))) (dz zA5)))))) h)⟩
theorem zMN:Has P w K mg base "are_new" 1 ["ends","tied"] (sp0 K mg 0 zC5):=by
  letI:Kc:=⟨K⟩
  exact dfM B.S.d10 zPN fun hr hu h=>⟨_,(zAE (zAQ (zKU (zIA (u_ne hu) (zCN (zCL (K:=K)) (pn 0) zA6 (fun _ _=>rfl)) (zCN (zCL (K:=K)) (pn 0) zA6 (fun _ _=>rfl)) (zB1 _)) (zKU (zS0 (zJI (zH1 hr) (zCN (zCL (K:=K)) (pn 0) zA6 (fun _ _=>rfl)) (pn 1))) (zHF (zS0 (zJI (zH1 hr) (zCN (zCL (K:=K)) (pn 0) zA6 (fun _ _=>rfl)) (pn 1)))))))),(zBM (zAY (n:=0) [1,0] (zGM (dz (zA8 zGW (zA8 zCM (de_v 0) (dz zA5)) (zA8 zCM (de_v 0) (dz zA5)))) (zGM (dz (zP8 (zA8 zCM (de_v 0) (dz zA5)) (de_v 1))) (zP8 (zA8 zCM (de_v 0) (dz zA5)) (de_v 1))))) h)⟩
theorem zKW:Has P w K mg base "end_read" 1 ["word"] (sp0 K mg 1 zBZ):=by
  letI:Kc:=⟨K⟩
  exact dfM B.S.d11 S_end_read fun hr hu h=>⟨_,(zA3 (zCE (zBP (u_ne hu) (zAL (zCG (K:=K)) rfl B.S.e6 boot_len (zA0 (pn 0) zA4)) zA6 (zB1 _)) (zAE (zAQ zCO)) zB2)
      (zA3 (pst 1 S_end_read.nd (zEY qAr qCa qCb zFE (zB3 (u_sl (K:=K)) (zE9 rfl B.c_SMALL_LETTERS.2 B.c_SMALL_LETTERS.1) zBE (zB7 (zE9 rfl B.c_MOST_PLACES.2 B.c_MOST_PLACES.1))) (zA0 (zCN (zCL (K:=K)) (pn 0) zA6 (fun _ _=>rfl)) zA4)))
      (zA3 (pst 2 S_end_read.nd (zEY qAr qCa qCb zFE (zE9 rfl B.c_SEAT_FIGURES.2 B.c_SEAT_FIGURES.1) (zA0 (zCN (zCL (K:=K)) (pn 0) zA6 (fun _ _=>rfl)) zA4)))
      (zA3 (zCE (pt_w (zF9 (zBP u_lt (pn 1) zA6 (zB1 _)) (zEH (zBP u_lt (pn 2) zA6 (zB1 _))))) (zAE (zAQ zCO)) zB2)
      (zAE (zAQ (zAI zBD (zAI zDY (pn 1) (zE9 rfl B.c_SEATS.2 B.c_SEATS.1)) (pn 2)))))))),(zBM (zAF (zCH (dt_b (dz (zA8 zGW (dz (zCA zCJ (zA1 (de_v 0) zA9))) (dz zA5)))) (zAY (n:=1) [] zCR) zBG)
      (zAF (zAU (n:=0) [0] (zF0 zI3 (zDH (dz zBH) zDP (do_e (dz zA5))) (zA1 (zA8 zCM (de_v 0) (dz zA5)) zA9)))
      (zAF (zAU (n:=0) [0] (zF0 zI3 (dz zBH) (zA1 (zA8 zCM (de_v 0) (dz zA5)) zA9)))
      (zAF (zCH (zFC (dt_b (dz (zA8 zFX (de_v 1) (dz zA5)))) (dt_b (dz (zA8 zFX (de_v 2) (dz zA5))))) (zAY (n:=1) [] zCR) zBG)
      (zAY (n:=1) [2,1] (zA8 zAX (dz (zA8 zE1 (de_v 1) (dz zA5))) (de_v 2))))))) h)⟩
theorem zKV:Has P w K mg base "tie_read" 2 ["word"] (sp0 K mg 2 zBS):=by
  letI:Kc:=⟨K⟩
  exact dfM B.S.d12 S_tie_read fun hr hu h=>⟨_,(zA3 (zHB (i:=1) S_tie_read.nd rfl oi rfl (cn ["0","1","side"] 1 (by kernel_rfl)) (zHD (K:=K) (zEY qAr qB4 qC3 zEK (pn 0) (zA0 zBQ zA4))) (fun _ _ _ _=>(pgn 2)) (fun _ _ _ _=>zE8) (fun _ _ _ _=>(zBU (zKW B) (by decide) hr rfl (zA0 (pn 2) zA4))))
      (zA3 (zCE (pt_w (zF9 (zBP (u_ne hu) (zAL (zCG (K:=K)) rfl B.S.e6 boot_len (zA0 (pn 1) zA4)) zA6 (zB1 _)) (zEH (zBP (u_in (K:=K)) zCO (pn 1) rfl)))) (zAE (zAQ zCO)) zB2)
      (zAE (zAQ (pn 1))))),(zBM (zAF (zAU (n:=2) [0] (zD6 (n:=1) (zHP (zF0 zFD (de_v 0) (zA1 zBH zA9))) (zDJ 2) zGI (zAS (zA1 (de_v 2) zA9))))
      (zAF (zCH (zFC (dt_b (dz (zA8 zGW (dz (zCA zCJ (zA1 (de_v 1) zA9))) (dz zA5)))) (dt_b (dz (zA8 zPZ (dz zCR) (de_v 1))))) (zAY (n:=2) [] zCR) zBG)
      (zGJ 1))) h)⟩
theorem zG2:HasX P w K mg base "net_read" 3 ["text"] (spE K mg 1 zB8):=by
  letI:Kc:=⟨K⟩
  exact dfX B.S.d13 S_net_read fun hr hu h=>⟨_,(zA3 (pst 1 S_net_read.nd (zEY qAr qB4 qC3 zEK (pn 0) (zA0 zBQ zA4)))
      (zA3 (pst 2 S_net_read.nd zLV)
      (zA3 (zKT zTU rfl (zI9 (K:=K) rfl B.S.e3 (zA0 (pn 1) zA4)) (zG1 (K:=K) rfl (zC2 (zDK (i:=3) S_net_read.nd rfl oi) (zC2 (zDK (i:=4) S_net_read.nd rfl oi) zG0))) (zA3 (pst 5 S_net_read.nd (zBU (zKV B) (by decide) hr rfl (zA0 (pn 4) zA4)))
      (zA3 (zCE (pt_w (zF9 (zBP zOA (pn 5) zCO (zB1 _)) (zEH (zJF (pt_m (zBU (zMN B) (by decide) hr rfl (zA0 (pn 5) (zA0 (pn 2) zA4)))))))) (zAE (zLT (zRZ B.x_NoText hr (by decide) zEO rfl (zA0 (pn 3) zA4)) zEO rfl)) zB2)
      (zA3 (zI6 (zH1 hr) (pn 2) (zCN (zCL (K:=K)) (pn 5) zA6 (fun _ _=>rfl)) (zCN (zCL (K:=K)) (pn 5) zA6 (fun _ _=>rfl)) rfl)
      (zAE (zI6 (zH1 hr) (pn 2) (zCN (zCL (K:=K)) (pn 5) zA6 (fun _ _=>rfl)) (zCN (zCL (K:=K)) (pn 5) zA6 (fun _ _=>rfl)) rfl))))))
      (zA3 (zCE (zJF (pt_m (zBU (zG4 B) (by decide) hr rfl (zA0 (zCX (zQN rfl) rfl B.S.e7 boot_list (zA0 (pn 2) zA4)) zA4)))) (zAE (zLT (zRZ B.x_NoText hr (by decide) zEO rfl (zA0 (zAL (zCG (K:=K)) rfl B.S.e6 boot_len (zA0 (pn 1) zA4)) zA4)) zEO rfl)) zB2)
      (zAE (zAQ (zEA rfl (cn ["0","1","tied","3","4","5","end"] 1 (by kernel_rfl)) (zFZ rfl B.S.e9 (zA0 (zAL zIJ rfl B.S.e6 boot_len (zA0 (pn 2) zA4)) zA4)) (fun _ _ _ _=>(pgn 6)) (fun _ _ _ _=>zE8) (fun _ _ _ _=>(zO5 (zH1 hr) (pn 2) (pn 6) (fun _ _=>rfl)))))))))),(zBM (zAF (zAU (n:=1) [0] (zF0 zFD (de_v 0) (zA1 zBH zA9)))
      (zAF (zAU (n:=1) [] zP9)
      (zAF (zSM [1] (zUN (zA1 (de_v 1) zA9)) (zJ5 (zC1 3 (zC1 4 zFR)) rfl) (zAF (zAU (n:=2) [4] (zIR (zA1 (de_v 4) zA9)))
      (zAF (zCH (zFC (dt_b (dz (zA8 zTG (de_v 5) (dz zCR)))) (zK4 (dt_m (zIR (zA1 (de_v 5) (zA1 (de_v 2) zA9)))))) (zK5 B.x_NoText (zA1 (de_v 3) zA9)) zBG)
      (zAF (zIQ 2 (zA8 zCM (de_v 5) (dz zA5)) (zA8 zCM (de_v 5) (dz zA5)))
      (zIQ 2 (zA8 zCM (de_v 5) (dz zA5)) (zA8 zCM (de_v 5) (dz zA5)))))))
      (zAF (zCH (zK4 (dt_m (zIR (zA1 (zAK (zCA zR9 (zA1 (de_v 2) zA9))) zA9)))) (zK5 B.x_NoText (zA1 (zCA zCJ (zA1 (de_v 1) zA9)) zA9)) zBG)
      (zAY (n:=1) [2] (zD6 (n:=0) (zUM (zA1 (zCA zIT (zA1 (de_v 2) zA9)) zA9)) (zDJ 6) zGI (zSO (de_v 2) (de_v 6)))))))) h)⟩
theorem zDM:Has P w K mg base "_law_refused" 4 ["_law_text","_law_due_here"] (sp0 K mg 0 zAT):=by
  letI:Kc:=⟨K⟩
  exact dfM B.S.d14 S__law_refused fun hr hu h=>⟨_,(zA3 (pst 2 S__law_refused.nd zCO)
      (zA3 (zQ8 (i:=3) (zQ6 (zQ7 (zW9 (zG2 B) (by decide) hr rfl (zA0 (pn 0) zA4)))) ⟨rfl,rfl⟩ (qGb B.n_RoundError.gm) rfl S__law_refused.nd rfl rfl (fun _=>(zAE (pst 2 S__law_refused.nd (pn 3)))))
      (zA3 (zCE (pt_w (zF9 (zJF (pt_m (zAL zGN rfl B.S.e5 boot_isinstance (zA0 (pn 2) (zA0 (zJH rfl B.n_NoText.gm) zA4))))) (zEH (zJF (pt_m (zAL zGN rfl B.S.e5 boot_isinstance (zA0 (pn 2) (zA0 (zIB (v:=.ty "ValueError") rfl B.S.e0 zGO rfl) zA4)))))))) (zAE (zAQ zTT)) zB2)
      (zA3 (zCE (pt_m (zAL zGN rfl B.S.e5 boot_isinstance (zA0 (pn 2) (zA0 (zHE (zA0 (zJH rfl B.n_NoLetter.gm) (zA0 (zJH rfl B.n_NoNet.gm) (zA0 (zJH rfl B.n_NoWord.gm) (zA0 (zJH rfl B.n_TooMany.gm) zA4))))) zA4)))) (zAE (zAQ zTT)) zB2)
      (zAE (zAQ (zKU (zBU (zEI B) (by decide) hr rfl (zA0 (zLW (pn 2) rfl) zA4)) (zHF (zIA (u_eq hu) (zLW (pn 2) rfl) (pn 1) (zB1 _)))))))))),(zBM (zAF (zAU (n:=0) [] zCR)
      (zAF (zX9 (te:=fun E'=>zGV (spE K mg 1 zB8) [] E' _) none [0] B.q4 (fun _=>zAK (n:=1) (zM7 (zA1 (de_v 0) zA9))) (zAU (n:=0) [3] (de_v 3)))
      (zAF (zCH (zFC (zK4 (dt_m (zSN B.q2.1 B.q2.2 (de_v 2)))) (zK4 (dt_m (zSN B.q3.1 B.q3.2 (de_v 2))))) (zAY (n:=0) [] zUQ) zBG)
      (zAF (zCH (dt_m (zUP (vs:=[.ref B.a_NoLetter,.ref B.a_NoNet,.ref B.a_NoWord,.ref B.a_TooMany]) rfl (by simp) B.q1.1 B.q1.2 (de_v 2))) (zAY (n:=0) [] zUQ) zBG)
      (zAY (n:=0) [1,2] (zGM (zAS (zA1 (zSQ B.q0 (de_v 2)) zA9)) (zA8 zEW (zSQ B.q0 (de_v 2)) (de_v 1)))))))) h)⟩
theorem zFA:Has P w K mg base "_law_shuffled" 1 ["_law_things","_law_number"] (sp0 K mg 1 zBB):=by
  letI:Kc:=⟨K⟩
  exact dfM B.S.d15 S__law_shuffled fun hr hu h=>⟨_,(zA3 (pst 2 S__law_shuffled.nd (zCX (zL4 (K:=K) rfl) rfl B.S.e7 boot_list (zA0 (pn 0) zA4)))
      (zA3 (pst 3 S__law_shuffled.nd (zJG zA4))
      (zA3 (zLS PassesOwn.never (zBP (u_ne hu) (pn 2) (zJG zA4) (zB1 _)) (zA3 (pst 1 S__law_shuffled.nd (zAI zCS (zAI zBD (zAI zDY (pn 1) zA6) zA6) zA6))
      (zAE (zNZ (zQB qC2 PySem.F.slot_list_append PySem.F.type_list_append zU6 (pn 3) (zA0 (zQB qC2 qD2 qD3 zKZ (pn 2) (zA0 (zAI zCS (zAI zDZ (pn 1) zA6) (zAL (zCG (K:=K)) rfl B.S.e6 boot_len (zA0 (pn 2) zA4))) zA4)) zA4))))))
      (zAE (zAQ (pn 3)))))),(zBM (zAF (zAU (n:=1) [0] (zCA zUT (zA1 (de_v 0) zA9)))
      (zAF (zAU (n:=9) [] (zK7 (n:=8) zA9))
      (zAF (zM4 (dt_b (dz (zA8 zGW (de_v 2) (zK7 (n:=8) zA9)))) (zAF (zAU (n:=0) [1] (zA8 zBN (zA8 zAX (dz (zA8 zE1 (de_v 1) (dz zA5))) (dz zA5)) (dz zA5)))
      (zMY 3 2 (dz (zA8 zBN (dz (zA8 zE2 (de_v 1) (dz zA5))) (dz (zCA zCJ (zA1 (de_v 2) zA9))))))))
      (zGJ 3)))) h)⟩
theorem zFB:Has P w K mg base "_law_any_sign" 1 ["_law_cell_here"] (sp0 K mg 0 zBW):=by
  letI:Kc:=⟨K⟩
  exact dfM B.S.d16 S__law_any_sign fun hr hu h=>⟨_,(zA3 (pst 1 S__law_any_sign.nd zBQ)
      (zAE (zAQ (zCN (zCL (K:=K)) (pn 1) (zAI zCS (pn 0) (zAL (zCG (K:=K)) rfl B.S.e6 boot_len (zA0 (pn 1) zA4))) (fun _ _=>rfl))))),(zBM (zAF (zAU (n:=0) [] zBH)
      (zAY (n:=0) [1,0] (zA8 zCM (de_v 1) (dz (zA8 zBN (de_v 0) (dz (zCA zCJ (zA1 (de_v 1) zA9)))))))) h)⟩
theorem zGZ:Has P w K mg base "_law_spoilt" 2 ["_law_text","_law_cell_here","_law_other"] (sp0 K mg 0 zBR):=by
  letI:Kc:=⟨K⟩
  exact dfM B.S.d17 S__law_spoilt fun hr hu h=>⟨_,(zA3 (pst 3 S__law_spoilt.nd (zEY qAr qB4 qC3 zEK (pn 0) (zA0 zBQ zA4)))
      (zA3 (pst 4 S__law_spoilt.nd (zAI zCS (pn 2) (zAL (zCG (K:=K)) rfl B.S.e6 boot_len (zA0 (pn 3) zA4))))
      (zA3 (pst 5 S__law_spoilt.nd (zAI zCS (pn 2) (zAI zBD (zAL (zCG (K:=K)) rfl B.S.e6 boot_len (zA0 (pn 0) zA4)) zA6)))
      (zA3 (pst 6 S__law_spoilt.nd (zBU (zFB B) (by decide) hr rfl (zA0 (zAI zDZ (pn 1) zA6) zA4)))
      (zA3 (zCE (zBP (u_eq hu) (zAI zCS (pn 1) zA6) zA6 (zB1 _)) (zAE (pst 6 S__law_spoilt.nd (zCN (zCL (K:=K)) zBQ (zAI zCS (zAI zDZ (pn 1) zA6) zA6) (fun _ _=>rfl)))) zB2)
      (zA3 (pst 7 S__law_spoilt.nd (zAI zCS (zAI zDZ (pn 1) zA6) zA6))
      (zA3 (zCE (zBP (u_eq hu) (pn 7) zA6 (zB1 _)) (zAE (zAQ (zAI zBD (zAI zBD (zB3 (u_sl (K:=K)) (pn 0) zBE (zB7 (pn 5))) (pn 6)) (zB3 (u_sl (K:=K)) (pn 0) (zB7 (pn 5)) zBE)))) zB2)
      (zA3 (zCE (zBP (u_eq hu) (pn 7) zA6 (zB1 _)) (zAE (zAQ (zAI zBD (zB3 (u_sl (K:=K)) (pn 0) zBE (zB7 (pn 5))) (zB3 (u_sl (K:=K)) (pn 0) (zB7 (zAI zBD (pn 5) zA6)) zBE)))) zB2)
      (zA3 (zCE (zBP (u_eq hu) (pn 7) zA6 (zB1 _)) (zAE (zAQ (zAI zBD (zAI zBD (zB3 (u_sl (K:=K)) (pn 0) zBE (zB7 (pn 5))) (pn 6)) (zB3 (u_sl (K:=K)) (pn 0) (zB7 (zAI zBD (pn 5) zA6)) zBE)))) zB2)
      (zA3 (zCE (zBP (u_eq hu) (pn 7) zA6 (zB1 _)) (zAE (zAQ (zEY qAr qBp qBq zEL zBQ (zA0 (zAI zBD (zB3 (u_sl (K:=K)) (pn 3) zBE (zB7 (pn 4))) (zB3 (u_sl (K:=K)) (pn 3) (zB7 (zAI zBD (pn 4) zA6)) zBE)) zA4)))) zB2)
      (zA3 (pst 8 S__law_spoilt.nd (zCN (zCL (K:=K)) (pn 3) (zAI zCS (zAI zDZ (pn 1) zA6) (zAL (zCG (K:=K)) rfl B.S.e6 boot_len (zA0 (pn 3) zA4))) (fun _ _=>rfl)))
      (zA3 (zCE (zBP (u_eq hu) (pn 7) zA6 (zB1 _)) (zAE (zAQ (zEY qAr qBp qBq zEL zBQ (zA0 (zAI zBD (zAI zBD (zB3 (u_sl (K:=K)) (pn 3) zBE (zB7 (pn 4))) (zJG (zA0 (pn 8) zA4))) (zB3 (u_sl (K:=K)) (pn 3) (zB7 (pn 4)) zBE)) zA4)))) zB2)
      (zA3 (pst 8 S__law_spoilt.nd (zAI zBD (zAI zBD (zB3 (u_sl (K:=K)) (zCN (zCL (K:=K)) (pn 3) (pn 4) (fun _ _=>rfl)) zBE (zB7 zA6)) zBQ) (zB3 (u_sl (K:=K)) (zCN (zCL (K:=K)) (pn 3) (pn 4) (fun _ _=>rfl)) zBE (zB7 zA6))))
      (zA3 (zCE (zBP (u_eq hu) (pn 7) zA6 (zB1 _)) (zAE (zAQ (zEY qAr qBp qBq zEL zBQ (zA0 (zAI zBD (zAI zBD (zB3 (u_sl (K:=K)) (pn 3) zBE (zB7 (pn 4))) (zJG (zA0 (pn 8) zA4))) (zB3 (u_sl (K:=K)) (pn 3) (zB7 (zAI zBD (pn 4) zA6)) zBE)) zA4)))) zB2)
      (zA3 (zCE (zBP (u_eq hu) (pn 7) zA6 (zB1 _)) (zAE (zAQ (zEY qAr qBp qBq zEL zBQ (zA0 (zEA rfl (cn ["0","1","2","3","4","5","6","7","8","_law_word"] 1 (by kernel_rfl)) (zHD (K:=K) (pn 3)) (fun _ _ _ _=>(pgn 9)) (fun _ _ _ _=>zNY (zBP (u_in (K:=K)) zBQ (pn 9) rfl)) (fun _ _ _ _=>(pn 9))) zA4)))) zB2)
      (zAE (zAQ (pn 0)))))))))))))))))),(zBM (zAF (zAU (n:=1) [0] (zF0 zFD (de_v 0) (zA1 zBH zA9)))
      (zAF (zAU (n:=0) [2,3] (zA8 zBN (de_v 2) (dz (zCA zCJ (zA1 (de_v 3) zA9)))))
      (zAF (zAU (n:=0) [2,0] (zA8 zBN (de_v 2) (zA8 zAX (dz (zCA zCJ (zA1 (de_v 0) zA9))) (dz zA5))))
      (zAF (zAU (n:=0) [1] (zAS (zA1 (zA8 zE2 (de_v 1) (dz zA5)) zA9)))
      (zAF (zCH (dt_b (dz (zA8 zEW (dz (zA8 zBN (de_v 1) (dz zA5))) (dz zA5)))) (zAU (n:=0) [1] (zA8 zCM (dz zBH) (dz (zA8 zBN (dz (zA8 zE2 (de_v 1) (dz zA5))) (dz zA5))))) zBG)
      (zAF (zAU (n:=0) [1] (zA8 zBN (dz (zA8 zE2 (de_v 1) (dz zA5))) (dz zA5)))
      (zAF (zCH (dt_b (dz (zA8 zEW (de_v 7) (dz zA5)))) (zAY (n:=0) [6,0,5] (zAK (zA8 zAX (zA8 zAX (zDH (de_v 0) zDP (do_e (de_v 5))) (de_v 6)) (zDH (de_v 0) (do_e (de_v 5)) zDP)))) zBG)
      (zAF (zCH (dt_b (dz (zA8 zEW (de_v 7) (dz zA5)))) (zAY (n:=0) [0,5] (zAK (zA8 zAX (zDH (de_v 0) zDP (do_e (de_v 5))) (zDH (de_v 0) (do_e (zA8 zAX (de_v 5) (dz zA5))) zDP)))) zBG)
      (zAF (zCH (dt_b (dz (zA8 zEW (de_v 7) (dz zA5)))) (zAY (n:=0) [6,0,5] (zAK (zA8 zAX (zA8 zAX (zDH (de_v 0) zDP (do_e (de_v 5))) (de_v 6)) (zDH (de_v 0) (do_e (zA8 zAX (de_v 5) (dz zA5))) zDP)))) zBG)
      (zAF (zCH (dt_b (dz (zA8 zEW (de_v 7) (dz zA5)))) (zAY (n:=0) [3,4] (zF0 zFY (dz zBH) (zA1 (zAK (zA8 zAX (zDH (de_v 3) zDP (do_e (de_v 4))) (zDH (de_v 3) (do_e (zA8 zAX (de_v 4) (dz zA5))) zDP))) zA9))) zBG)
      (zAF (zAU (n:=0) [3,1] (zA8 zCM (de_v 3) (dz (zA8 zBN (dz (zA8 zE2 (de_v 1) (dz zA5))) (dz (zCA zCJ (zA1 (de_v 3) zA9)))))))
      (zAF (zCH (dt_b (dz (zA8 zEW (de_v 7) (dz zA5)))) (zAY (n:=0) [3,8,4] (zF0 zFY (dz zBH) (zA1 (zAK (zA8 zAX (zA8 zAX (zDH (de_v 3) zDP (do_e (de_v 4))) (zK7 (n:=0) (zA1 (de_v 8) zA9))) (zDH (de_v 3) (do_e (de_v 4)) zDP))) zA9))) zBG)
      (zAF (zAU (n:=1) [3,4] (zA8 zAX (zA8 zAX (zDH (zA8 zCM (de_v 3) (de_v 4)) zDP (do_e (dz zA5))) (dz zBH)) (zDH (zA8 zCM (de_v 3) (de_v 4)) zDP (do_e (dz zA5)))))
      (zAF (zCH (dt_b (dz (zA8 zEW (de_v 7) (dz zA5)))) (zAY (n:=0) [3,8,4] (zF0 zFY (dz zBH) (zA1 (zAK (zA8 zAX (zA8 zAX (zDH (de_v 3) zDP (do_e (de_v 4))) (zK7 (n:=0) (zA1 (de_v 8) zA9))) (zDH (de_v 3) (do_e (zA8 zAX (de_v 4) (dz zA5))) zDP))) zA9))) zBG)
      (zAF (zCH (dt_b (dz (zA8 zEW (de_v 7) (dz zA5)))) (zAY (n:=0) [3] (zF0 zFY (dz zBH) (zA1 (zAK (zD6 (n:=0) (zHP (de_v 3)) (zDJ 9) (dt_b (dz (zA8 zPZ (dz zBH) (de_v 9)))) (de_v 9))) zA9))) zBG)
      (zGJ 0)))))))))))))))) h)⟩
theorem zJL:Has P w K mg base "_law_ties" 1 ["_law_net_here"] (sp0 K mg 2 zCF):=by
  letI:Kc:=⟨K⟩
  exact dfM B.S.d18 zLJ fun hr hu h=>⟨_,(zAE (zAQ (zEA rfl (cn ["0","_law_end","_law_other"] 2 (by kernel_rfl)) (zI9 (K:=K) rfl B.S.e3 (zA0 (pn 0) zA4)) (fun _ _ _ _=>zG1 (K:=K) rfl (zC2 (pgn 1) (zC2 (pgn 2) zG0))) (fun _ _ _ _=>zNY (zBP u_lt (pn 1) (pn 2) (zB1 _))) (fun _ _ _ _=>(zHE (zA0 (pn 1) (zA0 (pn 2) zA4))))))),(zBM (zAY (n:=2) [0] (zD6 (n:=1) (zUN (zA1 (de_v 0) zA9)) (zJ5 (zC1 1 (zC1 2 zFR)) rfl) (dt_b (dz (zA8 zFX (de_v 1) (de_v 2)))) (zK6 (n:=0) (zA1 (de_v 1) (zA1 (de_v 2) zA9))))) h)⟩
theorem zGY:Has P w K mg base "_law_wholes" 2 ["_law_found","_law_due_here"] (sp0 K mg 0 zBI):=by
  letI:Kc:=⟨K⟩
  exact dfM B.S.d19 zIY fun hr hu h=>⟨_,(zA3 (zCE (pt_w (zF9 (zJF (pt_m (zAL zDN rfl B.S.e5 boot_isinstance (zA0 (pn 0) (zA0 (zIB (v:=.ty "list") rfl B.S.e7 boot_list rfl) zA4))))) (zEH (zBP (u_ne hu) (pn 0) (pn 1) (zB1 _))))) (zAE (zAQ zTT)) zB2)
      (zAE (zAQ (zAL (zYA rfl) rfl B.S.e1 boot_all (zA0 (zEA rfl (cn ["0","1","_law_number"] 1 (by kernel_rfl)) (zHD (K:=K) (pn 0)) (fun _ _ _ _=>(pgn 2)) (fun _ _ _ _=>zE8) (fun _ _ _ _=>(zBU (zEI B) (by decide) hr rfl (zA0 (pn 2) zA4)))) zA4))))),(zBM (zAF (zCH (zFC (zK4 (dt_m (dz (zP7 (by decide) (de_v 0))))) (dt_b (dz (zA8 zGW (de_v 0) (de_v 1))))) (zAY (n:=0) [] zUQ) zBG)
      (zAY (n:=0) [0] (zCA zXH (zA1 (zAK (zD6 (n:=0) (zHP (de_v 0)) (zDJ 2) zGI (zAS (zA1 (de_v 2) zA9)))) zA9)))) h)⟩
theorem zWJ {f:Addr} {fd:FuncData} (F:Fun K "law" "law" (top 34) f fd):FnOk P w K mg base CX0 5 f fd ["_law_script"] (zJ9 K):=by
  letI:Kc:=⟨K⟩
  refine (F.ok S_law (sp:=sp0 K mg 0 zG9) (fun vs H Q E h=>zKS h) (fun cdv A outer s H vs Q E hr h=>?_)).imp (zQK zQJ)
  have hu:=hr.units
  exact ⟨_,(zA3 (pst 1 S_law.nd (zBU (zFA B) (by decide) hr rfl (zA0 (zBU (zJL B) (by decide) hr rfl (zA0 (zBU (zIC B) (by decide) hr rfl (zA0 (pn 0) (zA0 zA6 zA4))) zA4)) (zA0 (zBU (zBF B) (by decide) hr rfl (zA0 (pn 0) (zA0 zA6 zA4))) zA4))))
      (zA3 (pst 2 S_law.nd (zEY qAr qBp qBq zEL zBQ (zA0 (zEA rfl (cn ["0","1","2","3","4","5","_law_one","_law_other"] 2 (by kernel_rfl)) (zHD (K:=K) (pn 1)) (fun _ _ _ _=>zG1 (K:=K) rfl (zC2 (pgn 6) (zC2 (pgn 7) zG0))) (fun _ _ _ _=>zE8) (fun _ _ _ _=>(zAI zBD (zAI zBD (zBU (zDD B) (by decide) hr rfl (zA0 (pn 6) zA4)) zBQ) (zBU (zDD B) (by decide) hr rfl (zA0 (pn 7) zA4))))) zA4)))
      (zA3 (zKT PassesOwn.never rfl (zFZ rfl B.S.e9 (zA0 (zAI zCS (zBU (zBF B) (by decide) hr rfl (zA0 (pn 0) (zA0 zA6 zA4))) zA6) zA4)) (zDK (i:=3) S_law.nd rfl oi) (zAE (pst 2 S_law.nd (zBU (zGZ B) (by decide) hr rfl (zA0 (pn 2) (zA0 (zBU (zBF B) (by decide) hr rfl (zA0 (pn 0) (zA0 (zAI zBD zA6 (zAI zDY zA6 (pn 3))) zA4))) (zA0 (zBU (zBF B) (by decide) hr rfl (zA0 (pn 0) (zA0 (zAI zBD zA6 (zAI zDY zA6 (pn 3))) zA4))) zA4)))))))
      (zA3 (zO0 (zBU (zKX B) (by decide) hr rfl (zA0 (pn 2) zA4)) (zG1 (K:=K) rfl (zC2 (zDK (i:=4) S_law.nd rfl oi) (zC2 (zDK (i:=5) S_law.nd rfl oi) zG0))))
      (zA3 (zCE (zBP zTW (pn 5) zCO (zB1 _)) (zAE (zAQ (zBU (zGY B) (by decide) hr rfl (zA0 (zWA (zG2 B) (by decide) hr zX5 rfl (zA0 (pn 2) zA4)) (zA0 (pn 5) zA4))))) zB2)
      (zAE (zAQ (zKU (zBU (zDM B) (by decide) hr rfl (zA0 (pn 2) (zA0 (pn 4) zA4))) (zHF (zBU (zDM B) (by decide) hr rfl (zA0 (pn 2) (zA0 (pn 4) zA4)))))))))))),(zBM (zAF (zAU (n:=1) [0] (zAS (zA1 (zAK (zAS (zA1 (zAK (zAS (zA1 (de_v 0) (zA1 zA5 zA9)))) zA9))) (zA1 (zAS (zA1 (de_v 0) (zA1 zA5 zA9))) zA9))))
      (zAF (zAU (n:=0) [1] (zF0 zFY (dz zBH) (zA1 (zAK (zD6 (n:=1) (zHP (de_v 1)) (zJ5 (zC1 6 (zC1 7 zFR)) rfl) zGI (zA8 zAX (zA8 zAX (zAS (zA1 (de_v 6) zA9)) (dz zBH)) (zAS (zA1 (de_v 7) zA9))))) zA9)))
      (zAF (zUL (zUM (zA1 (zA8 zBN (zAS (zA1 (de_v 0) (zA1 zA5 zA9))) (dz zA5)) zA9)) (zAU (n:=0) [2,0,3] (zAS (zA1 (de_v 2) (zA1 (zAS (zA1 (de_v 0) (zA1 (zAK (zA8 zAX (dz zA5) (dz (zA8 zE1 (dz zA5) (de_v 3))))) zA9))) (zA1 (zAS (zA1 (de_v 0) (zA1 (zAK (zA8 zAX (dz zA5) (dz (zA8 zE1 (dz zA5) (de_v 3))))) zA9))) zA9))))))
      (zAF (zX8 [2] (zJ5 (zC1 4 (zC1 5 zFR)) rfl) (zAS (zA1 (de_v 2) zA9)))
      (zAF (zCH (dt_b (dz (zA8 zTF (de_v 5) (dz zCR)))) (zAY (n:=0) [5,2] (zAS (zA1 (zAK (zM7 (zA1 (de_v 2) zA9))) (zA1 (de_v 5) zA9)))) zBG)
      (zAY (n:=0) [2,4] (zGM (zAS (zA1 (de_v 2) (zA1 (de_v 4) zA9))) (zAS (zA1 (de_v 2) (zA1 (de_v 4) zA9)))))))))) h)⟩
end
theorem all_mk {l:qEc} {w:World} {K:qA1} {h:Heap} {mg:Str → Option Value} {fa f20 f21 a_RoundError a_NoNet a_NoText a_NoWord a_NoLetter a_TooMany:Addr} {dd_RoundError dd_NoNet dd_NoText dd_NoWord dd_NoLetter dd_TooMany:Option Addr} {cd_RoundError cd_NoNet cd_NoText cd_NoWord cd_NoLetter cd_TooMany:ClassData} {sl_RoundError sl_NoNet sl_NoText sl_NoWord sl_NoLetter sl_TooMany:Array (Option Value)} (X:K.In h) (G:h.Ns mainGlobals mg) (hfa:mg "law" = some (.ref fa))
    {od20 an20 od21 an21:Option Addr} {sl20 sl21:Array (Option Value)} {oc20 kV20 dc20 pm20 cd20 ct20 oc21 kV21 dc21 pm21 cd21 ct21:Value} {t0 t1 t2 t3:Tok}
    (S:Bd K mg)
    (a20:qB8 K mainGlobals "law" = some (some (.ref f20)))
    (l20:K.lookup f20 = some ⟨oc20,od20,.func (qB7 "law" "law" (zC7 (top 34)) (zBA (top 34)) (zA7 (top 34)) .none kV20 dc20 pm20 an20 cd20 ct20),sl20⟩)
    (c20:qCe K cd20 "law" = true)
    (k20:qAv K (.ref f20) = true)
    (y0:qB8 K mainGlobals "MOST_PLACES" = some (some (.int 8 t0)))
    (y1:qB8 K mainGlobals "SEATS" = some (some (.int 4 t1)))
    (y2:qB8 K mainGlobals "SEAT_FIGURES" = some (some (.str "0123" t2)))
    (y3:qB8 K mainGlobals "SMALL_LETTERS" = some (some (.str "abcdefghijklmnopqrstuvwxyz" t3)))
    (xa_RoundError:qB8 K mainGlobals "RoundError" = some (some (.ref a_RoundError)))
    (xl_RoundError:K.lookup a_RoundError = some ⟨.type "type",dd_RoundError,.cls cd_RoundError,sl_RoundError⟩)
    (xd_RoundError:xcD a_RoundError cd_RoundError sl_RoundError = true)
    (xn_RoundError:qB5 K a_RoundError = some cd_RoundError)
    (xo_RoundError:PySem.W.excTail cd_RoundError.mro = true)
    (xt_RoundError:qB9 K (.ref a_RoundError) = some (.type "type"))
    (xg_RoundError:qA8 K (.ref a_RoundError) "__getattribute__" = some (some (.builtin "BaseException.__getattribute__")))
    (xh_RoundError:qA8 K (.ref a_RoundError) "__getattr__" = some none)
    (xj_RoundError:qBm K a_RoundError = true)
    (xm_RoundError:qA8 K (.ref a_RoundError) "__class__" = some (some (.builtin "object.__class__")))
    (xp_RoundError:qBz K a_RoundError (.type "object") = some true)
    (xv_RoundError:qA5 K (.ref a_RoundError) (.type "ValueError") = some true)
    (xw_RoundError:qA5 K (.ref a_RoundError) (.type "BaseException") = some true)
    (xa_NoNet:qB8 K mainGlobals "NoNet" = some (some (.ref a_NoNet)))
    (xl_NoNet:K.lookup a_NoNet = some ⟨.type "type",dd_NoNet,.cls cd_NoNet,sl_NoNet⟩)
    (xd_NoNet:xcD a_NoNet cd_NoNet sl_NoNet = true)
    (xn_NoNet:qB5 K a_NoNet = some cd_NoNet)
    (xo_NoNet:PySem.W.excTail cd_NoNet.mro = true)
    (xt_NoNet:qB9 K (.ref a_NoNet) = some (.type "type"))
    (xg_NoNet:qA8 K (.ref a_NoNet) "__getattribute__" = some (some (.builtin "BaseException.__getattribute__")))
    (xh_NoNet:qA8 K (.ref a_NoNet) "__getattr__" = some none)
    (xj_NoNet:qBm K a_NoNet = true)
    (xm_NoNet:qA8 K (.ref a_NoNet) "__class__" = some (some (.builtin "object.__class__")))
    (xp_NoNet:qBz K a_NoNet (.type "object") = some true)
    (xv_NoNet:qA5 K (.ref a_NoNet) (.type "ValueError") = some true)
    (xw_NoNet:qA5 K (.ref a_NoNet) (.type "BaseException") = some true)
    (xa_NoText:qB8 K mainGlobals "NoText" = some (some (.ref a_NoText)))
    (xl_NoText:K.lookup a_NoText = some ⟨.type "type",dd_NoText,.cls cd_NoText,sl_NoText⟩)
    (xd_NoText:xcD a_NoText cd_NoText sl_NoText = true)
    (xn_NoText:qB5 K a_NoText = some cd_NoText)
    (xo_NoText:PySem.W.excTail cd_NoText.mro = true)
    (xt_NoText:qB9 K (.ref a_NoText) = some (.type "type"))
    (xg_NoText:qA8 K (.ref a_NoText) "__getattribute__" = some (some (.builtin "BaseException.__getattribute__")))
    (xh_NoText:qA8 K (.ref a_NoText) "__getattr__" = some none)
    (xj_NoText:qBm K a_NoText = true)
    (xm_NoText:qA8 K (.ref a_NoText) "__class__" = some (some (.builtin "object.__class__")))
    (xp_NoText:qBz K a_NoText (.type "object") = some true)
    (xv_NoText:qA5 K (.ref a_NoText) (.type "ValueError") = some true)
    (xw_NoText:qA5 K (.ref a_NoText) (.type "BaseException") = some true)
    (xa_NoWord:qB8 K mainGlobals "NoWord" = some (some (.ref a_NoWord)))
    (xl_NoWord:K.lookup a_NoWord = some ⟨.type "type",dd_NoWord,.cls cd_NoWord,sl_NoWord⟩)
    (xd_NoWord:xcD a_NoWord cd_NoWord sl_NoWord = true)
    (xn_NoWord:qB5 K a_NoWord = some cd_NoWord)
    (xo_NoWord:PySem.W.excTail cd_NoWord.mro = true)
    (xt_NoWord:qB9 K (.ref a_NoWord) = some (.type "type"))
    (xg_NoWord:qA8 K (.ref a_NoWord) "__getattribute__" = some (some (.builtin "BaseException.__getattribute__")))
    (xh_NoWord:qA8 K (.ref a_NoWord) "__getattr__" = some none)
    (xj_NoWord:qBm K a_NoWord = true)
    (xm_NoWord:qA8 K (.ref a_NoWord) "__class__" = some (some (.builtin "object.__class__")))
    (xp_NoWord:qBz K a_NoWord (.type "object") = some true)
    (xv_NoWord:qA5 K (.ref a_NoWord) (.type "ValueError") = some true)
    (xw_NoWord:qA5 K (.ref a_NoWord) (.type "BaseException") = some true)
    (xa_NoLetter:qB8 K mainGlobals "NoLetter" = some (some (.ref a_NoLetter)))
    (xl_NoLetter:K.lookup a_NoLetter = some ⟨.type "type",dd_NoLetter,.cls cd_NoLetter,sl_NoLetter⟩)
    (xd_NoLetter:xcD a_NoLetter cd_NoLetter sl_NoLetter = true)
    (xn_NoLetter:qB5 K a_NoLetter = some cd_NoLetter)
    (xo_NoLetter:PySem.W.excTail cd_NoLetter.mro = true)
    (xt_NoLetter:qB9 K (.ref a_NoLetter) = some (.type "type"))
    (xg_NoLetter:qA8 K (.ref a_NoLetter) "__getattribute__" = some (some (.builtin "BaseException.__getattribute__")))
    (xh_NoLetter:qA8 K (.ref a_NoLetter) "__getattr__" = some none)
    (xj_NoLetter:qBm K a_NoLetter = true)
    (xm_NoLetter:qA8 K (.ref a_NoLetter) "__class__" = some (some (.builtin "object.__class__")))
    (xp_NoLetter:qBz K a_NoLetter (.type "object") = some true)
    (xv_NoLetter:qA5 K (.ref a_NoLetter) (.type "ValueError") = some true)
    (xw_NoLetter:qA5 K (.ref a_NoLetter) (.type "BaseException") = some true)
    (xa_TooMany:qB8 K mainGlobals "TooMany" = some (some (.ref a_TooMany)))
    (xl_TooMany:K.lookup a_TooMany = some ⟨.type "type",dd_TooMany,.cls cd_TooMany,sl_TooMany⟩)
    (xd_TooMany:xcD a_TooMany cd_TooMany sl_TooMany = true)
    (xn_TooMany:qB5 K a_TooMany = some cd_TooMany)
    (xo_TooMany:PySem.W.excTail cd_TooMany.mro = true)
    (xt_TooMany:qB9 K (.ref a_TooMany) = some (.type "type"))
    (xg_TooMany:qA8 K (.ref a_TooMany) "__getattribute__" = some (some (.builtin "BaseException.__getattribute__")))
    (xh_TooMany:qA8 K (.ref a_TooMany) "__getattr__" = some none)
    (xj_TooMany:qBm K a_TooMany = true)
    (xm_TooMany:qA8 K (.ref a_TooMany) "__class__" = some (some (.builtin "object.__class__")))
    (xp_TooMany:qBz K a_TooMany (.type "object") = some true)
    (xv_TooMany:qA5 K (.ref a_TooMany) (.type "ValueError") = some true)
    (xw_TooMany:qA5 K (.ref a_TooMany) (.type "BaseException") = some true)
    (ycg:qBs K (.builtin "object.__class__") "__get__" = some (some (.builtin "getset_descriptor.__get__")))
    (yct:qE6 K (.builtin "object.__class__") = some true)
    (xc_NoText:qA8 K (.ref a_NoText) "__setattr__" = some (some (.builtin "object.__setattr__")))
    (xq_NoText:qFc K a_NoText "at" = some none)
    (xr_NoText:qA8 K (.ref a_NoText) "at" = some none)
    (xs_NoText:qAv K (.ref a_NoText) = true)
    (xi_NoText:qA8 K (.ref a_NoText) "__init__" = some (some (.ref f21)))
    (xf_NoText:qCy K (.ref f21) = true)
    (l21:K.lookup f21 = some ⟨oc21,od21,.func (qB7 "__init__" "NoText.__init__" (zC7 zCW) (zBA zCW) (zA7 zCW) .none kV21 dc21 pm21 an21 cd21 ct21),sl21⟩)
    (c21:qCe K cd21 "NoText.__init__" = true)
    (k21:qAv K (.ref f21) = true)
    (wg_RoundError:qBs K (.ref a_RoundError) "__getattribute__" = some (some (.builtin "type.__getattribute__")))
    (wr_RoundError:qFa K a_RoundError (.type "type") = true)
    (wf_RoundError:qFb K (.ref a_RoundError) (.type "type") "__init__" = some (.val (.builtin "ValueError.__init__")))
    (q0_NoNet:qA8 K (.ref a_NoNet) "at" = some none)
    (q0_NoText:qA8 K (.ref a_NoText) "at" = some none)
    (q0_NoWord:qA8 K (.ref a_NoWord) "at" = some none)
    (s_NoNet_NoLetter:qA5 K (.ref a_NoNet) (.ref a_NoLetter) = some false)
    (e_NoNet_NoLetter:(a_NoNet == a_NoLetter) = false)
    (s_NoNet_NoNet:qA5 K (.ref a_NoNet) (.ref a_NoNet) = some true)
    (s_NoWord_NoLetter:qA5 K (.ref a_NoWord) (.ref a_NoLetter) = some false)
    (e_NoWord_NoLetter:(a_NoWord == a_NoLetter) = false)
    (s_NoWord_NoNet:qA5 K (.ref a_NoWord) (.ref a_NoNet) = some false)
    (e_NoWord_NoNet:(a_NoWord == a_NoNet) = false)
    (s_NoWord_NoWord:qA5 K (.ref a_NoWord) (.ref a_NoWord) = some true)
    (s_NoLetter_NoLetter:qA5 K (.ref a_NoLetter) (.ref a_NoLetter) = some true)
    (s_TooMany_NoLetter:qA5 K (.ref a_TooMany) (.ref a_NoLetter) = some false)
    (e_TooMany_NoLetter:(a_TooMany == a_NoLetter) = false)
    (s_TooMany_NoNet:qA5 K (.ref a_TooMany) (.ref a_NoNet) = some false)
    (e_TooMany_NoNet:(a_TooMany == a_NoNet) = false)
    (s_TooMany_NoWord:qA5 K (.ref a_TooMany) (.ref a_NoWord) = some false)
    (e_TooMany_NoWord:(a_TooMany == a_NoWord) = false)
    (s_TooMany_TooMany:qA5 K (.ref a_TooMany) (.ref a_TooMany) = some true)
    (s_RoundError_NoLetter:qA5 K (.ref a_RoundError) (.ref a_NoLetter) = some false)
    (e_RoundError_NoLetter:(a_RoundError == a_NoLetter) = false)
    (s_RoundError_NoNet:qA5 K (.ref a_RoundError) (.ref a_NoNet) = some false)
    (e_RoundError_NoNet:(a_RoundError == a_NoNet) = false)
    (s_RoundError_NoWord:qA5 K (.ref a_RoundError) (.ref a_NoWord) = some false)
    (e_RoundError_NoWord:(a_RoundError == a_NoWord) = false)
    (s_RoundError_TooMany:qA5 K (.ref a_RoundError) (.ref a_TooMany) = some false)
    (e_RoundError_TooMany:(a_RoundError == a_TooMany) = false)
    (s_NoText_NoLetter:qA5 K (.ref a_NoText) (.ref a_NoLetter) = some false)
    (e_NoText_NoLetter:(a_NoText == a_NoLetter) = false)
    (s_NoText_NoNet:qA5 K (.ref a_NoText) (.ref a_NoNet) = some false)
    (e_NoText_NoNet:(a_NoText == a_NoNet) = false)
    (s_NoText_NoWord:qA5 K (.ref a_NoText) (.ref a_NoWord) = some false)
    (e_NoText_NoWord:(a_NoText == a_NoWord) = false)
    (s_NoText_TooMany:qA5 K (.ref a_NoText) (.ref a_TooMany) = some false)
    (e_NoText_TooMany:(a_NoText == a_TooMany) = false)
    (s_NoText_NoText:qA5 K (.ref a_NoText) (.ref a_NoText) = some true)
    (s_RoundError_NoText:qA5 K (.ref a_RoundError) (.ref a_NoText) = some false)
    (e_RoundError_NoText:(a_RoundError == a_NoText) = false)
    (s_NoNet_NoText:qA5 K (.ref a_NoNet) (.ref a_NoText) = some false)
    (e_NoNet_NoText:(a_NoNet == a_NoText) = false)
    (s_NoWord_NoText:qA5 K (.ref a_NoWord) (.ref a_NoText) = some false)
    (e_NoWord_NoText:(a_NoWord == a_NoText) = false)
    (s_NoLetter_NoText:qA5 K (.ref a_NoLetter) (.ref a_NoText) = some false)
    (e_NoLetter_NoText:(a_NoLetter == a_NoText) = false)
    (s_TooMany_NoText:qA5 K (.ref a_TooMany) (.ref a_NoText) = some false)
    (e_TooMany_NoText:(a_TooMany == a_NoText) = false)
    (s_RoundError_RoundError:qA5 K (.ref a_RoundError) (.ref a_RoundError) = some true)
    (s_NoNet_RoundError:qA5 K (.ref a_NoNet) (.ref a_RoundError) = some true)
    (s_NoText_RoundError:qA5 K (.ref a_NoText) (.ref a_RoundError) = some true)
    (s_NoWord_RoundError:qA5 K (.ref a_NoWord) (.ref a_RoundError) = some true)
    (s_NoLetter_RoundError:qA5 K (.ref a_NoLetter) (.ref a_RoundError) = some true)
    (s_TooMany_RoundError:qA5 K (.ref a_TooMany) (.ref a_RoundError) = some true)
   :∃ fd:FuncData,(∀ (s:Shared) (v:Value),BindsTo s fd ⟨[v],[]⟩ [("_law_script",v)]) ∧ ∀ base:Heap,K.In base → base.Ns mainGlobals mg → FnOk l.prog w K mg base CX0 5 fa fd ["_law_script"] (zJ9 K):=by
  have e:=hfa.symm.trans (qBc X G a20)
  cases e
  have c_MOST_PLACES:RelV (V.int 8) (.int 8 t0) ∧ mg "MOST_PLACES" = some (.int 8 t0):=⟨⟨_,rfl⟩,qBc X G y0⟩
  have c_SEATS:RelV (V.int 4) (.int 4 t1) ∧ mg "SEATS" = some (.int 4 t1):=⟨⟨_,rfl⟩,qBc X G y1⟩
  have c_SEAT_FIGURES:RelV (V.str "0123") (.str "0123" t2) ∧ mg "SEAT_FIGURES" = some (.str "0123" t2):=⟨⟨_,rfl⟩,qBc X G y2⟩
  have c_SMALL_LETTERS:RelV (V.str "abcdefghijklmnopqrstuvwxyz") (.str "abcdefghijklmnopqrstuvwxyz" t3) ∧ mg "SMALL_LETTERS" = some (.str "abcdefghijklmnopqrstuvwxyz" t3):=⟨⟨_,rfl⟩,qBc X G y3⟩
  have i_RoundError:Xc.XIs K a_RoundError:=⟨zEV xl_RoundError xd_RoundError,xg_RoundError,xh_RoundError,xj_RoundError,xm_RoundError,ycg,yct,xp_RoundError⟩
  have i_NoNet:Xc.XIs K a_NoNet:=⟨zEV xl_NoNet xd_NoNet,xg_NoNet,xh_NoNet,xj_NoNet,xm_NoNet,ycg,yct,xp_NoNet⟩
  have i_NoText:Xc.XIs K a_NoText:=⟨zEV xl_NoText xd_NoText,xg_NoText,xh_NoText,xj_NoText,xm_NoText,ycg,yct,xp_NoText⟩
  have i_NoWord:Xc.XIs K a_NoWord:=⟨zEV xl_NoWord xd_NoWord,xg_NoWord,xh_NoWord,xj_NoWord,xm_NoWord,ycg,yct,xp_NoWord⟩
  have i_NoLetter:Xc.XIs K a_NoLetter:=⟨zEV xl_NoLetter xd_NoLetter,xg_NoLetter,xh_NoLetter,xj_NoLetter,xm_NoLetter,ycg,yct,xp_NoLetter⟩
  have i_TooMany:Xc.XIs K a_TooMany:=⟨zEV xl_TooMany xd_TooMany,xg_TooMany,xh_TooMany,xj_TooMany,xm_TooMany,ycg,yct,xp_TooMany⟩
  have n_RoundError:XCls K mg "RoundError" a_RoundError:=⟨zBL xa_RoundError,qBc X G xa_RoundError,i_RoundError⟩
  have n_NoNet:XCls K mg "NoNet" a_NoNet:=⟨zBL xa_NoNet,qBc X G xa_NoNet,i_NoNet⟩
  have n_NoText:XCls K mg "NoText" a_NoText:=⟨zBL xa_NoText,qBc X G xa_NoText,i_NoText⟩
  have n_NoWord:XCls K mg "NoWord" a_NoWord:=⟨zBL xa_NoWord,qBc X G xa_NoWord,i_NoWord⟩
  have n_NoLetter:XCls K mg "NoLetter" a_NoLetter:=⟨zBL xa_NoLetter,qBc X G xa_NoLetter,i_NoLetter⟩
  have n_TooMany:XCls K mg "TooMany" a_TooMany:=⟨zBL xa_TooMany,qBc X G xa_TooMany,i_TooMany⟩
  have w_RoundError:XBase K a_RoundError:=⟨wg_RoundError,wr_RoundError,wf_RoundError,zYC⟩
  have q0:(∀ c ∈ (["NoNet","NoText","NoWord"]:List Str),∃ C,clK K c = some C ∧ Xc.XIs K C ∧ qA8 K (.ref C) "at" = some none):=by
    intro c h
    simp only [qA9,qB6,or_false] at h
    rcases h with rfl | rfl | rfl
    · exact ⟨a_NoNet,zBL xa_NoNet,i_NoNet,q0_NoNet⟩
    · exact ⟨a_NoText,zBL xa_NoText,i_NoText,q0_NoText⟩
    · exact ⟨a_NoWord,zBL xa_NoWord,i_NoWord,q0_NoWord⟩
  have q1_y:(∀ c ∈ (["NoNet","NoWord","NoLetter","TooMany"]:List Str),∃ C,clK K c = some C ∧ Xc.XIs K C ∧ qAw K (.ref C) [Value.ref a_NoLetter,Value.ref a_NoNet,Value.ref a_NoWord,Value.ref a_TooMany] = some true):=by
    intro c h
    simp only [qA9,qB6,or_false] at h
    rcases h with rfl | rfl | rfl | rfl
    · exact ⟨a_NoNet,zBL xa_NoNet,i_NoNet,(zBC (zB0 xn_NoLetter xt_NoLetter s_NoNet_NoLetter e_NoNet_NoLetter) (zFF (zEN xn_NoNet xt_NoNet s_NoNet_NoNet)))⟩
    · exact ⟨a_NoWord,zBL xa_NoWord,i_NoWord,(zBC (zB0 xn_NoLetter xt_NoLetter s_NoWord_NoLetter e_NoWord_NoLetter) (zBC (zB0 xn_NoNet xt_NoNet s_NoWord_NoNet e_NoWord_NoNet) (zFF (zEN xn_NoWord xt_NoWord s_NoWord_NoWord))))⟩
    · exact ⟨a_NoLetter,zBL xa_NoLetter,i_NoLetter,(zFF (zEN xn_NoLetter xt_NoLetter s_NoLetter_NoLetter))⟩
    · exact ⟨a_TooMany,zBL xa_TooMany,i_TooMany,(zBC (zB0 xn_NoLetter xt_NoLetter s_TooMany_NoLetter e_TooMany_NoLetter) (zBC (zB0 xn_NoNet xt_NoNet s_TooMany_NoNet e_TooMany_NoNet) (zBC (zB0 xn_NoWord xt_NoWord s_TooMany_NoWord e_TooMany_NoWord) (zFF (zEN xn_TooMany xt_TooMany s_TooMany_TooMany)))))⟩
  have q1_n:(∀ c ∈ (["RoundError","NoText"]:List Str),∃ C,clK K c = some C ∧ Xc.XIs K C ∧ qAw K (.ref C) [Value.ref a_NoLetter,Value.ref a_NoNet,Value.ref a_NoWord,Value.ref a_TooMany] = some false):=by
    intro c h
    simp only [qA9,qB6,or_false] at h
    rcases h with rfl | rfl
    · exact ⟨a_RoundError,zBL xa_RoundError,i_RoundError,(zBC (zB0 xn_NoLetter xt_NoLetter s_RoundError_NoLetter e_RoundError_NoLetter) (zBC (zB0 xn_NoNet xt_NoNet s_RoundError_NoNet e_RoundError_NoNet) (zBC (zB0 xn_NoWord xt_NoWord s_RoundError_NoWord e_RoundError_NoWord) (zBC (zB0 xn_TooMany xt_TooMany s_RoundError_TooMany e_RoundError_TooMany) zM1))))⟩
    · exact ⟨a_NoText,zBL xa_NoText,i_NoText,(zBC (zB0 xn_NoLetter xt_NoLetter s_NoText_NoLetter e_NoText_NoLetter) (zBC (zB0 xn_NoNet xt_NoNet s_NoText_NoNet e_NoText_NoNet) (zBC (zB0 xn_NoWord xt_NoWord s_NoText_NoWord e_NoText_NoWord) (zBC (zB0 xn_TooMany xt_TooMany s_NoText_TooMany e_NoText_TooMany) zM1))))⟩
  have q1:(∀ c ∈ (["NoNet","NoWord","NoLetter","TooMany"]:List Str),∃ C,clK K c = some C ∧ Xc.XIs K C ∧ qAw K (.ref C) [Value.ref a_NoLetter,Value.ref a_NoNet,Value.ref a_NoWord,Value.ref a_TooMany] = some true) ∧ (∀ c ∈ (["RoundError","NoText"]:List Str),∃ C,clK K c = some C ∧ Xc.XIs K C ∧ qAw K (.ref C) [Value.ref a_NoLetter,Value.ref a_NoNet,Value.ref a_NoWord,Value.ref a_TooMany] = some false):=⟨q1_y,q1_n⟩
  have q2_y:(∀ c ∈ (["NoText"]:List Str),∃ C,clK K c = some C ∧ Xc.XIs K C ∧ kitV K C (V.ref a_NoText) = some true):=by
    intro c h
    simp only [qA9,qB6,or_false] at h
    subst h
    exact ⟨a_NoText,zBL xa_NoText,i_NoText,(zEN xn_NoText xt_NoText s_NoText_NoText)⟩
  have q2_n:(∀ c ∈ (["RoundError","NoNet","NoWord","NoLetter","TooMany"]:List Str),∃ C,clK K c = some C ∧ Xc.XIs K C ∧ kitV K C (V.ref a_NoText) = some false):=by
    intro c h
    simp only [qA9,qB6,or_false] at h
    rcases h with rfl | rfl | rfl | rfl | rfl
    · exact ⟨a_RoundError,zBL xa_RoundError,i_RoundError,(zB0 xn_NoText xt_NoText s_RoundError_NoText e_RoundError_NoText)⟩
    · exact ⟨a_NoNet,zBL xa_NoNet,i_NoNet,(zB0 xn_NoText xt_NoText s_NoNet_NoText e_NoNet_NoText)⟩
    · exact ⟨a_NoWord,zBL xa_NoWord,i_NoWord,(zB0 xn_NoText xt_NoText s_NoWord_NoText e_NoWord_NoText)⟩
    · exact ⟨a_NoLetter,zBL xa_NoLetter,i_NoLetter,(zB0 xn_NoText xt_NoText s_NoLetter_NoText e_NoLetter_NoText)⟩
    · exact ⟨a_TooMany,zBL xa_TooMany,i_TooMany,(zB0 xn_NoText xt_NoText s_TooMany_NoText e_TooMany_NoText)⟩
  have q2:(∀ c ∈ (["NoText"]:List Str),∃ C,clK K c = some C ∧ Xc.XIs K C ∧ kitV K C (V.ref a_NoText) = some true) ∧ (∀ c ∈ (["RoundError","NoNet","NoWord","NoLetter","TooMany"]:List Str),∃ C,clK K c = some C ∧ Xc.XIs K C ∧ kitV K C (V.ref a_NoText) = some false):=⟨q2_y,q2_n⟩
  have q3_y:(∀ c ∈ (["RoundError","NoNet","NoText","NoWord","NoLetter","TooMany"]:List Str),∃ C,clK K c = some C ∧ Xc.XIs K C ∧ kitV K C (V.ty "ValueError") = some true):=by
    intro c h
    simp only [qA9,qB6,or_false] at h
    rcases h with rfl | rfl | rfl | rfl | rfl | rfl
    · exact ⟨a_RoundError,zBL xa_RoundError,i_RoundError,(zCZ xv_RoundError)⟩
    · exact ⟨a_NoNet,zBL xa_NoNet,i_NoNet,(zCZ xv_NoNet)⟩
    · exact ⟨a_NoText,zBL xa_NoText,i_NoText,(zCZ xv_NoText)⟩
    · exact ⟨a_NoWord,zBL xa_NoWord,i_NoWord,(zCZ xv_NoWord)⟩
    · exact ⟨a_NoLetter,zBL xa_NoLetter,i_NoLetter,(zCZ xv_NoLetter)⟩
    · exact ⟨a_TooMany,zBL xa_TooMany,i_TooMany,(zCZ xv_TooMany)⟩
  have q3_n:(∀ c ∈ ([]:List Str),∃ C,clK K c = some C ∧ Xc.XIs K C ∧ kitV K C (V.ty "ValueError") = some false):=by
    intro c h
    simp only [qA9,qB6,or_false] at h
  have q3:(∀ c ∈ (["RoundError","NoNet","NoText","NoWord","NoLetter","TooMany"]:List Str),∃ C,clK K c = some C ∧ Xc.XIs K C ∧ kitV K C (V.ty "ValueError") = some true) ∧ (∀ c ∈ ([]:List Str),∃ C,clK K c = some C ∧ Xc.XIs K C ∧ kitV K C (V.ty "ValueError") = some false):=⟨q3_y,q3_n⟩
  have q4:(∀ c ∈ (["RoundError","NoNet","NoText","NoWord","NoLetter","TooMany"]:List Str),∃ C,clK K c = some C ∧ qCg K (.ref C) (.ref a_RoundError) = some true):=by
    intro c h
    simp only [qA9,qB6,or_false] at h
    rcases h with rfl | rfl | rfl | rfl | rfl | rfl
    · exact ⟨a_RoundError,zBL xa_RoundError,zD0 xw_RoundError xn_RoundError xt_RoundError s_RoundError_RoundError⟩
    · exact ⟨a_NoNet,zBL xa_NoNet,zD0 xw_RoundError xn_RoundError xt_RoundError s_NoNet_RoundError⟩
    · exact ⟨a_NoText,zBL xa_NoText,zD0 xw_RoundError xn_RoundError xt_RoundError s_NoText_RoundError⟩
    · exact ⟨a_NoWord,zBL xa_NoWord,zD0 xw_RoundError xn_RoundError xt_RoundError s_NoWord_RoundError⟩
    · exact ⟨a_NoLetter,zBL xa_NoLetter,zD0 xw_RoundError xn_RoundError xt_RoundError s_NoLetter_RoundError⟩
    · exact ⟨a_TooMany,zBL xa_TooMany,zD0 xw_RoundError xn_RoundError xt_RoundError s_TooMany_RoundError⟩
  refine ⟨qB7 "law" "law" (zC7 (top 34)) (zBA (top 34)) (zA7 (top 34)) .none kV20 dc20 pm20 an20 cd20 ct20,fun s v=>.of_eq rfl,fun base _ _=>?_⟩
  have F_NoText:=zOV (x:="__init__") (qual:="NoText.__init__") (st:=zCW) l21 c21 k21
  have x_NoText:XIni l.prog w K mg base "NoText" "at" a_NoText:=⟨n_NoText,xs_NoText,⟨xc_NoText,zTV xn_NoText xo_NoText,xq_NoText,xj_NoText⟩,xr_NoText,f21,_,["self","at"],xi_NoText,xf_NoText,zGX F_NoText w_RoundError n_RoundError.gm,F_NoText.binds (fun _ _ _ _ _ _=>uw2 fun _ _=>rfl)⟩
  exact zWJ ⟨S,_,_,_,_,_,_,_,_,_,_,c_MOST_PLACES,c_SEATS,c_SEAT_FIGURES,c_SMALL_LETTERS,x_NoText,n_RoundError,n_NoNet,n_NoText,n_NoWord,n_NoLetter,n_TooMany,q0,q1,q2,q3,q4⟩ (zOV (st:=(top 34)) l20 c20 k20)
theorem walk {l:qEc} {q:Program} {loose:List Str} {XP:(Str → Option Value) → Heap → Prop} {YP:World → Heap → Prop} {d:DefRec} {K:Params → qA1} (hn:l.most = some 63) (hdf:d.params.defaults = [])
    (hY:∀ (w:World) (h:Heap),YP w h → (K w.params).In h)
    (F:∀ (w:World) (mg:Str → Option Value) (fa:Addr) (h:Heap),(K w.params).In h → h.Ns mainGlobals mg → mg d.name = some (.ref fa) →
      ∃ fd:FuncData,(∀ (s:Shared) (u:Value),BindsTo s fd ⟨[u],[]⟩ [("_law_script",u)]) ∧ ∀ base:Heap,(K w.params).In base → base.Ns mainGlobals mg → FnOk l.prog w (K w.params) mg base CX0 5 fa fd ["_law_script"] (zJ9 (K w.params))) :
    qG6 q loose XP YP l.row.toRowW d [] (fun f vs=>qG5 f vs) :=
  L2.walk_ofW (n:=63) (k:=5) (x:="_law_script") (CX:=fun _=>CX0) (sp:=fun w=>zJ9 (K w.params)) hn (by decide) hdf ⟨rfl,by decide,by decide⟩ hY F (fun _ _ a ns hl hw _ hS=>⟨a,ns,rfl,hS,hl,hw,fun _=>rfl⟩) fun _ _ _ _ _ z=>z
end Q05
open PySem PySem.W PyProof.Rows
set_option maxRecDepth 100000 in
set_option maxHeartbeats 0 in
theorem PySem.Challenge.cw_fourway_k05_texts_refused_holds : PySem.Challenge.rw_fourway_k05_texts_refused.Holds := by
  w_on; o_law; k_head; (case hw=>w_witness2)
  k_fill
  refine Q05.walk (l:=qBw) rfl rfl (fun w h Y=>PySem.W.kIn_of Y) ?F
  case F =>
    intro w mg fa h KX G hmg
    refine' Q05.all_mk KX G hmg (by constructor <;> first | exact L3.mkD KX G (by k_is) (by k_is) (by k_is) (by k_is) | exact PySem.W.mg_none_of KX G (by k_is)) (by k_is) (by k_is) (by k_is) (by k_is) (by k_is) (by k_is) (by k_is) (by k_is) (by k_is) (by k_is) (by rfl) (by k_is) (by rfl) (by k_is) (by k_is) (by k_is) (by k_is) (by k_is) (by k_is) (by k_is) (by k_is) (by k_is) (by k_is) (by rfl) (by k_is) (by rfl) (by k_is) (by k_is) (by k_is) (by k_is) (by k_is) (by k_is) (by k_is) (by k_is) (by k_is) (by k_is) (by rfl) (by k_is) (by rfl) (by k_is) (by k_is) (by k_is) (by k_is) (by k_is) (by k_is) (by k_is) (by k_is) (by k_is) (by k_is) (by rfl) (by k_is) (by rfl) (by k_is) (by k_is) (by k_is) (by k_is) (by k_is) (by k_is) (by k_is) (by k_is) (by k_is) (by k_is) (by rfl) (by k_is) (by rfl) (by k_is) (by k_is) (by k_is) (by k_is) (by k_is) (by k_is) (by k_is) (by k_is) (by k_is) (by k_is) (by rfl) (by k_is) (by rfl) (by k_is) (by k_is) (by k_is) (by k_is) (by k_is) (by k_is) (by k_is) (by k_is) (by k_is) (by k_is) (by k_is) (by k_is) (by k_is) (by k_is) (by k_is) (by k_is) (by k_is) (by k_is) (by k_is) (by k_is) (by k_is) (by k_is) (by k_is) (by k_is) (by k_is) (by k_is) (by rfl) (by k_is) (by k_is) (by rfl) (by k_is) (by rfl) (by k_is) (by k_is) (by k_is) (by rfl) (by k_is) (by rfl) (by k_is) (by rfl) (by k_is) (by k_is) (by rfl) (by k_is) (by rfl) (by k_is) (by rfl) (by k_is) (by rfl) (by k_is) (by rfl) (by k_is) (by rfl) (by k_is) (by rfl) (by k_is) (by rfl) (by k_is) (by k_is) (by rfl) (by k_is) (by rfl) (by k_is) (by rfl) (by k_is) (by rfl) (by k_is) (by rfl) (by k_is) (by k_is) (by k_is) (by k_is) (by k_is) (by k_is)
