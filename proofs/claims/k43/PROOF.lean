import PyProof.Rows.All
import Wide.All
import OpenK.AllK
import Wide.FinOn
import Lean
import PyProof.EqAt
import PyProof.EqKinds
import PyProof.TupleCall
import PyProof.NeKinds
import PySem.Challenge.RW_fourway_k43_passed_once
set_option Elab.async false
set_option linter.all false
set_option maxRecDepth 100000
open Array renaming length_toList→qB5,getElem?_toList→qBi,getElem?_eq_some_iff→qBs,getElem?_eq_getElem→qEh,toList_push→qFv,toList→qG0
open Bool renaming false_ne_true→qAg,and_eq_true→qBb,and_false→qCx,eq_iff_iff→qD6,and_true→qEp,or_true→qF6,false_eq_true→qFn,noConfusion→qGb,or_eq_true→qGi,or_false→qHh
open Char renaming toNat→qHv
open Classical renaming propDecidable→qA4
open False renaming elim→qA5
open ForInStep renaming yield→qCq
open Int renaming toNat_natCast→qC4,mul_one→qHq
open List renaming getD_eq_getElem?_getD→qA0,getElem?_eq_some_iff→qA1,getElem?_eq_getElem→qA3,getElem?_append_right→qA6,getElem?_append_left→qA7,replicate→qA8,range→qA9,mem_cons→qAb,size_toArray→qAc,getElem?_map→qAd,getElem?_set_self→qAf,getElem?_set_ne→qAh,map_cons→qAi,length_map→qAj,idxOf_lt_length_of_mem→qAo,not_mem_nil→qAp,length_append→qAr,mem_cons_of_mem→qAt,length_cons→qAu,mem_map→qAv,mem_append_right→qAw,drop_eq_getElem_cons→qAx,flatten_cons→qAy,mem_cons_self→qAz,map_append→qB0,map_map→qB3,getElem?_cons_zero→qB4,mem_append_left→qB6,mem_append→qB8,getElem?_cons_succ→qBd,mem_singleton→qBe,replicate_succ→qBg,append_assoc→qBh,nodup_cons→qBl,contains_cons→qBm,range_succ→qBn,lookup_cons→qBr,pairwise_cons→qBu,mem_of_getElem?→qBx,getElem?_replicate→qBy,all_cons→qBz,eraseIdx_cons_succ→qC0,foldl_append→qC5,map_congr_left→qC7,length_replicate→qCa,find?_cons→qCd,any_cons→qCj,mem_flatten→qCl,mem_range→qCn,getElem_range→qCp,take_append_drop→qCr,length_eraseIdx_of_lt→qCw,getElem_mem→qD0,getElem_map→qD1,mergeSort_perm→qD2,getElem?_range→qD3,mem_filter→qD5,append_nil→qD8,foldl_cons→qD9,findIdx?_eq_some_iff_getElem→qDb,length_eq_zero_iff→qDc,findIdx?_cons→qDd,filter_cons_of_neg→qDe,filter_cons_of_pos→qDf,getElem_idxOf→qDg,idxOf_cons→qDh,map_singleton→qDi,take_succ_eq_append_getElem→qDj,range_succ_eq_map→qDm,eraseIdxIfInBounds_toArray→qDp,length_range→qDr,pairwise_map→qDs,idxOf_append→qDt,length_singleton→qDv,set_getElem_self→qDw,length_filter_le→qDy,length_take→qE1,drop_length→qE2,countP_cons→qE3,eq_nil_of_length_eq_zero→qE4,ext_getElem→qE5,nodup_range→qE6,length_eraseIdx→qE7,filterMap_cons→qE9,of_mem_zip→qEa,length_set→qEb,flatten_append→qEd,extract_eq_drop_take→qEi,count_append→qEl,length_erase_of_mem→qEm,all_eq_true→qEv,any_eq_true→qEw,getElem_cons_succ→qEz,length_eq_one_iff→qF0,length_pos_of_mem→qF1,forIn_cons→qF5,set_append_right→qF8,getElem?_eq_none→qFa,perm_append_comm→qFc,count_cons_self→qFe,mem_erase_of_ne→qFf,drop_zero→qFh,take_succ_cons→qFj,mem_filterMap→qFm,count_eq_zero→qFo,find?_eq_none→qFp,nodup_append→qFw,filter_congr→qFx,count→qFy,countP_congr→qFz,map_nil→qG3,set_set→qG5,filter_cons→qG9,cons_append→qGc,take_length→qGd,nil_append→qGf,length_nil→qGg,lookup→qGh,range'→qGj,countP_map→qGn,foldl→qHe,Nodup→qHg,set_comm→qHj,all_map→qHl,map_set→qHm,not_lt→qHr,take→qI0
open List.Nodup renaming count→qHx
open List.Pairwise renaming imp_of_mem→qEn,nil→qFt
open List.Perm renaming append_left→qDx,refl→qEj,swap→qH0
open Nat renaming le_refl→qAa,lt_of_lt_of_le→qAe,ne_of_lt→qAk,le_trans→qAq,zero_le→qAs,mod_eq_of_lt→qB2,lt_succ_of_lt→qBc,mod_lt→qBo,ne_of_gt→qBp,zero_add→qBt,le_succ→qBv,lt_succ_self→qBw,lt_irrefl→qC8,le_of_lt→qC9,add_mod_right→qCe,lt_of_le_of_lt→qCo,succ_mul→qEf,le_of_eq→qF4,le_antisymm→qF9,le_zero→qFk,lt_trichotomy→qFu,min_self→qG4,succ_le_succ→qG8,le_add_right→qGa,min_eq_left→qGk,mod_add_mod→qGl,strongRecOn→qGm,mul_le_mul→qH1,mod_self→qHo,lt_or_ge→qHp
open Nat.succ renaming inj→qHn
open Ne renaming symm→qCh
open Option renaming isSome_iff_exists→qD4,map_eq_some_iff→qDl,isSome_map→qDq,map_some→qEc,isSome_some→qEg,getD_some→qEu,bind_some→qEx,map_none→qFd,none→qFi,getD_none→qG7,map→qHt
open Option.some renaming inj→qB7,injEq→qHu
open Or renaming inl→qHy,inr→qHz
open Prod renaming fst→qHs
open PyProof.Rows renaming callWith_type1→qC6,envOfC→qFl,callWith_builtin1→qG2
open PyProof.Rows.F renaming plain_set_update_loop→qC3,entry_set_update_loop→qCz
open PySem renaming mem_of_lookup→qCi,call→qHf,Within→qHk
open PySem.Challenge renaming rw_fourway_k43_passed_once→qCm,pw_fourway_k43_passed_once→qEy
open PySem.EqMixed renaming eq_bool_str→qGr,eq_str_bool→qGs,ne_bool_str→qGw,ne_str_bool→qGx,eq_int_str→qH5,eq_str_int→qH7,ne_int_str→qHb,ne_str_int→qHd
open PySem.EqNone renaming eq_none_none→qGo,eq_none_bool→qGp,eq_bool_none→qGq,ne_none_none→qGt,ne_none_bool→qGu,ne_bool_none→qGv,eq_none_int→qH2,eq_none_str→qH3,eq_int_none→qH4,eq_str_none→qH6,ne_none_int→qH8,ne_none_str→qH9,ne_int_none→qHa,ne_str_none→qHc
open PySem.F renaming plainAttrs_list→qAn,plainAttrs_str→qB1,slot_list_append→qBj,type_list_append→qBk,slot_list_extend→qCf,type_list_extend→qCg,slot_str_find→qCs,type_str_find→qCt,slot_list_count→qDa,slot_str_index→qDn,type_str_index→qDo,slot_str_join→qDz,type_str_join→qE0,plain_list_iadd→qEq,slot_list_index→qEr,type_list_count→qEs,slot_set_iter→qFb
open PySem.W renaming Frag→qA2,subIn→qAl,findIn→qAm,keepIn→qB9,kia_one→qBa,kitOne→qBf,fnOf→qBq,clsIn→qC1,typeIn→qC2,nsIn→qCb,hasDictIn→qCc,mg_of→qCk,specialIn→qCu,exmOne→qCy,mroIn→qD7,cellsFrom_some→qDk,codeIn→qDu,Looks→qE8,callWith_K→qEe,methodObj→qEk,plainGet→qEt,instObj→qF2,takesIn→qF3,OpenLaw→qF7,lookIn→qFg,kitx_list→qFr,kitx_dict→qFs,isFn→qG1,handedIn→qG6,makesIn→qGe,InstAt→qGy,notCls→qGz,WalkO→qHi
open PySem.W.Looks renaming ld→qHw
open Sum renaming inl→qEo,inr→qFq
open True renaming intro→qCv
set_option compiler.extract_closed false
set_option genSizeOf false
set_option genSizeOfSpec false
set_option bootstrap.genMatcherCode false
noncomputable section
namespace L2
open PySem PySem.Spec PyProof.Rows
abbrev Key:=Sum Int Str
noncomputable def zOX:Key→Value→Bool
  | .inl k,v=>Value.isInt k v
  | .inr x,v=>Value.isStrOf x v
noncomputable def keyH (w:World):Key→Int
  | .inl k=>hashInt k
  | .inr x=>hashStr w x
theorem zB6:∀ {k:Key} {v:Value},zOX k v = true→(∃ i t,k = qEo i∧v = Value.int i t)∨(∃ x t,k = qFq x∧v = Value.str x t)
  | .inl i,v,h=>by
    obtain ⟨t,e⟩:=Value.isInt_shape (k:=i) (v:=v) h
    exact .inl ⟨i,t,rfl,e⟩
  | .inr x,v,h=>by
    obtain ⟨t,e⟩:=Value.isStrOf_shape (x:=x) (v:=v) h
    exact .inr ⟨x,t,rfl,e⟩
theorem zQP (i:Int) (t:Tok):zOX (.inl i) (.int i t) = true:=by simp [zOX,Value.isInt]
theorem zQO (x:Str) (t:Tok):zOX (.inr x) (.str x t) = true:=by simp [zOX,Value.isStrOf]
theorem zY5 (a b:Int):decide ((qEo a:Key) = qEo b) = (a == b):=by
  by_cases e:a = b
  · subst e; simp
  · have h:¬ (qEo a:Key) = qEo b:=fun q=>e (Sum.inl.inj q)
    rw [decide_eq_false h]
    exact (beq_eq_false_iff_ne.mpr e).symm
theorem zY2 (a b:Str):decide ((qFq a:Key) = qFq b) = decide (a = b):=by
  by_cases e:a = b
  · subst e; simp
  · have h:¬ (qFq a:Key) = qFq b:=fun q=>e (Sum.inr.inj q)
    rw [decide_eq_false h,decide_eq_false e]
theorem zY4 (a:Int) (b:Str):decide ((qEo a:Key) = qFq b) = false:=decide_eq_false (fun q=>nomatch q)
theorem zY3 (a:Str) (b:Int):decide ((qFq a:Key) = qEo b) = false:=decide_eq_false (fun q=>nomatch q)
def zBF (prog:Program) (w:World):PySem.KeyKind prog w Key where
  is:=zOX
  hash:=keyH w
  inj:=fun v a b ha hb=>by
    rcases zB6 ha with ⟨i,t,rfl,rfl⟩ | ⟨x,t,rfl,rfl⟩
    · rcases zB6 hb with ⟨j,u,rfl,e⟩ | ⟨y,u,rfl,e⟩
      · injection e with e1 _; rw [e1]
      · exact nomatch e
    · rcases zB6 hb with ⟨j,u,rfl,e⟩ | ⟨y,u,rfl,e⟩
      · exact nomatch e
      · injection e with e1 _; rw [e1]
  byValue:=fun k v h=>by
    rcases zB6 h with ⟨i,t,rfl,rfl⟩ | ⟨x,t,rfl,rfl⟩ <;> rfl
  pyHash:=fun hv h=>by
    rcases zB6 hv with ⟨i,t,rfl,rfl⟩ | ⟨x,t,rfl,rfl⟩
    · exact wpAny_pyHash_int h
    · exact wpAny_pyHash_str h
  eqBool:=fun hu hv h=>by
    rcases zB6 hu with ⟨i,t,rfl,rfl⟩ | ⟨x,t,rfl,rfl⟩
    · rcases zB6 hv with ⟨j,u,rfl,rfl⟩ | ⟨y,u,rfl,rfl⟩
      · rw [zY5] at h; exact wpAny_eqBool_int h
      · rw [zY4] at h; exact SeqAt.EqAt.int_str i t y u _ _ _ _ h
    · rcases zB6 hv with ⟨j,u,rfl,rfl⟩ | ⟨y,u,rfl,rfl⟩
      · rw [zY3] at h; exact SeqAt.EqAt.str_int x t j u _ _ _ _ h
      · rw [zY2] at h; exact wpAny_eqBool_str h
  «strs»:=fun k x t v h=>by
    rcases zB6 h with ⟨i,u,rfl,e⟩ | ⟨y,u,rfl,e⟩
    · exact nomatch e
    · injection e with e1 _
      subst e1
      cases v <;> rfl
theorem zMF (prog:Program) (w:World) (i:Int) (t:Tok):(zBF prog w).is (.inl i) (.int i t) = true:=zQP i t
theorem zME (prog:Program) (w:World) (x:Str) (t:Tok):(zBF prog w).is (.inr x) (.str x t) = true:=zQO x t
inductive V where
  | non | bl (b:Bool) | int (i:Int) | str (x:Str) | byt (b:Array UInt8) | flt (b:UInt64) | ref (a:Addr) | ty (n:String)
  deriving DecidableEq
noncomputable def RelV:V→Value→Prop
  | .non,u=>u = Value.none
  | .bl b,u=>u = Value.bool b
  | .int i,u=>∃ t,u = Value.int i t
  | .str x,u=>∃ t,u = Value.str x t
  | .byt b,u=>∃ t,u = Value.bytes b t
  | .flt b,u=>∃ t,u = Value.float b t
  | .ref a,u=>u = Value.ref a
  | .ty n,u=>u = Value.type n
abbrev Vals:List V→List Value→Prop:=Paired RelV
theorem Vals.length {xs:List V} {us:List Value} (r:Vals xs us):xs.length = us.length:=Paired.length r
theorem Vals.get:∀ {xs:List V} {us:List Value} {i:Nat} {x:V},Vals xs us→xs[i]? = some x→∃ u,us[i]? = some u∧RelV x u
  | _,_,_,_,.nil,e=>by simp at e
  | _,_,0,_,.cons r _,e=>by simp at e; subst e; exact ⟨_,rfl,r⟩
  | _,_,i + 1,x,.cons _ t,e=>by
    obtain ⟨u,h1,h2⟩:=Vals.get (i:=i) (x:=x) t (by simpa using e)
    exact ⟨u,by simpa using h1,h2⟩
theorem Vals.set {x:V} {u:Value} (r:RelV x u):∀ {xs:List V} {us:List Value} (i:Nat),Vals xs us→Vals (xs.set i x) (us.set i u)
  | _,_,_,.nil=>.nil
  | _,_,0,.cons _ t=>.cons r t
  | _,_,i + 1,.cons q t=>.cons q (Vals.set r i t)
theorem Vals.append:∀ {xs ys:List V} {us ws:List Value},Vals xs us→Vals ys ws→Vals (xs ++ ys) (us ++ ws)
  | _,_,_,_,.nil,s=>s
  | _,_,_,_,.cons r t,s=>.cons r (Vals.append t s)
theorem Vals.take:∀ {xs:List V} {us:List Value} (n:Nat),Vals xs us→Vals (xs.take n) (us.take n)
  | _,_,0,_=>.nil
  | _,_,_ + 1,.nil=>.nil
  | _,_,n + 1,.cons r t=>.cons r (Vals.take n t)
theorem Vals.drop:∀ {xs:List V} {us:List Value} (n:Nat),Vals xs us→Vals (xs.drop n) (us.drop n)
  | _,_,0,r=>r
  | _,_,_ + 1,.nil=>.nil
  | _,_,n + 1,.cons _ t=>Vals.drop n t
def RelO:Option V→Option Value→Prop
  | some v,some u=>RelV v u
  | none,none=>True
  | _,_=>False
def KV {κ:Type}:List (κ × V)→List (κ × Value)→Prop:=Paired fun (p:κ × V) (q:κ × Value)=>p.1 = q.1∧RelV p.2 q.2
noncomputable def kV:Key→V
  | .inl i=>.int i
  | .inr x=>.str x
inductive HO where
  | lst (xs:List V)
  | tup (xs:List V)
  | dK (kvs:List (Key × V)) | dT (kvs:List (List Key × V))
  | set (S:Int→Bool) (n:Nat)
  | ins (C dx:Addr) (fs:List (Str × V))
  | own (x:Addr)
  | xd (fs:List (Str × V))
  | met (f x:Addr)
  | rng (lo hi:Int)
  | frz (o:Obj) (u:HO)
  | tbl (ps:Array Value)
  | ext (φ:Heap→Prop)
abbrev Hp:=Addr→Option HO
noncomputable def upd (H:Hp) (a:Addr) (o:HO):Hp:=fun b=>if b = a then some o else H b
theorem zAH {H:Hp} {a:Addr} {o:HO}:upd H a o a = some o:=by unfold upd; rw [if_pos rfl]
theorem zAK {H:Hp} {a b:Addr} {o:HO} (h:b≠a):upd H a o b = H b:=by unfold upd; rw [if_neg h]
theorem zV4 {H:Hp} {a b:Addr} {o u:HO} (h:H a = some o) (h':H b = some u) (d:o≠u):a≠b:=by
  intro e; subst e; rw [h] at h'; exact d (qB7 h')
theorem zAN {H:Hp} {a b:Addr} {o:HO} (h:H a = some o) (h':H b = none):a≠b:=by
  intro e; subst e; rw [h] at h'; cases h'
section
variable (P:Program) (w:World)
def ObjOk (H:Hp) (h:Heap) (a:Addr):HO→Prop
  | .lst xs=>xs.length≤sizeLine∧∃ (its:List Value) (n:Nat),Vals xs its∧h.get? a = some { cls:=.type "list",data:=.seq its.toArray n }
  | .tup xs=>xs.length≤sizeLine∧∃ its:List Value,Vals xs its∧IsTup h a its.toArray
  | .dK kvs=>kvs.length≤sizeLine∧(a == sysModules) = false∧∃ vs,KV kvs vs∧h.DictOf (zBF P w) a vs
  | .dT kvs=>kvs.length≤sizeLine∧(a == sysModules) = false∧∃ xs:List (List Key × Addr × Value),
      Paired (fun (p:List Key × V) (q:List Key × Addr × Value)=>p.1 = q.1∧H q.2.1 = some (.tup (p.1.map kV))∧RelV p.2 q.2.2) kvs xs ∧
      ∃ o es ep,h.get? a = some o∧o.ExactDict∧o.data = .dict es ep∧es.toList = xs.map (entryOfKey (tupleKind (zBF P w)))∧(xs.map (·.1)).Nodup
  | .set S n=>h.SetOf (intKind P w) a S n
  | .ins C dx fs=>H dx = some (.own a)∧fs.length≤1000∧dx≠a∧h.get? a = some (qF2 C dx) ∧
      ∃ mA,h.Ns1 dx mA∧(∀ f,RelO (fs.lookup f) (mA f))∧qHk mA (fs.map (·.1))
  | .own _=>∃ o,h.get? a = some o
  | .xd fs=>∃ mA,h.Ns1 a mA∧∀ f,RelO (fs.lookup f) (mA f)
  | .rng lo hi=>∃ t u v,h.get? a = some { cls:=.type "range",data:=.fields #[.int lo t,.int hi u,.int 1 v] }
  | .frz o u=>h.get? a = some o∧ObjOk H h a u
  | .tbl ps=>h.get? a = some { cls:=.none,data:=.fields ps }
  | .met f x=>h.get? a = some (qEk (.ref f) (.ref x))
  | .ext φ=>φ h∧(∃ o,h.get? a = some o)∧∀ h1 h2:Heap,φ h1→(∀ o,h1.get? a = some o→h2.get? a = some o)→φ h2
def HOk (H:Hp) (h:Heap):Prop:=∀ a o,H a = some o→ObjOk P w H h a o
end
section
variable {P:Program} {w:World} {H H':Hp} {h h':Heap} {a:Addr} {o:HO}
theorem ObjOk.lt (x:ObjOk P w H h a o):a < h.objs.size:=by
  cases o with
  | lst xs=>obtain ⟨_,_,_,_,e⟩:=x; exact Heap.lt_size e
  | tup xs=>obtain ⟨_,_,_,p⟩:=x; exact p.lt
  | dK kvs=>obtain ⟨_,_,_,_,o,_,_,e,_⟩:=x; exact Heap.lt_size e
  | dT kvs=>obtain ⟨_,_,_,_,o,_,_,e,_⟩:=x; exact Heap.lt_size e
  | set S n=>obtain ⟨o,_,_,_,e,_⟩:=x; exact Heap.lt_size e
  | ins C dx fs=>obtain ⟨_,_,_,e,_⟩:=x; exact Heap.lt_size e
  | own y=>obtain ⟨_,e⟩:=x; exact Heap.lt_size e
  | xd fs=>obtain ⟨_,⟨_,_,_,e,_⟩,_⟩:=x; exact Heap.lt_size e
  | rng lo hi=>obtain ⟨_,_,_,e⟩:=x; exact Heap.lt_size e
  | frz ob u=>obtain ⟨e,_⟩:=x; exact Heap.lt_size e
  | tbl ps=>exact Heap.lt_size (show h.get? a = some _ from x)
  | met f y=>exact Heap.lt_size (show h.get? a = some _ from x)
  | ext φ=>obtain ⟨_,⟨_,e⟩,_⟩:=x; exact Heap.lt_size e
theorem Paired.mapP {α β:Type} {F G:α→β→Prop}:∀ {l₁:List α} {l₂:List β},Paired F l₁ l₂→(∀ a b,F a b→G a b)→Paired G l₁ l₂
  | _,_,.nil,_=>.nil
  | _,_,.cons r t,f=>.cons (f _ _ r) (Paired.mapP t f)
theorem ObjOk.stay (x:ObjOk P w H h a o) (k:∀ b u,(b = a∨H b = some (.own a))→h.get? b = some u→h'.get? b = some u)
    (ho:∀ b,H b = some (.own a)→H' b = some (.own a)) (ht:∀ b xs,H b = some (.tup xs)→H' b = some (.tup xs)):ObjOk P w H' h' a o:=by
  induction o with
  | lst xs=>obtain ⟨z,its,n,r,e⟩:=x; exact ⟨z,its,n,r,k _ _ (.inl rfl) e⟩
  | tup xs=>obtain ⟨z,its,r,ob,e,c⟩:=x; exact ⟨z,its,r,ob,k _ _ (.inl rfl) e,c⟩
  | dK kvs=>obtain ⟨z,y,vs,r,ob,es,ep,e,c⟩:=x; exact ⟨z,y,vs,r,ob,es,ep,k _ _ (.inl rfl) e,c⟩
  | dT kvs =>
    obtain ⟨z,y,xs,r,ob,es,ep,e,c⟩:=x
    exact ⟨z,y,xs,Paired.mapP r fun p q z=>⟨z.1,ht _ _ z.2.1,z.2.2⟩,ob,es,ep,k _ _ (.inl rfl) e,c⟩
  | set S n=>obtain ⟨ob,es,ep,t,e,c⟩:=x; exact ⟨ob,es,ep,t,k _ _ (.inl rfl) e,c⟩
  | ins C dx fs =>
    obtain ⟨d,z,ne,e,mA,⟨od,es,ep,e2,c⟩,r⟩:=x
    exact ⟨ho _ d,z,ne,k _ _ (.inl rfl) e,mA,⟨od,es,ep,k _ _ (.inr d) e2,c⟩,r⟩
  | own y=>obtain ⟨ob,e⟩:=x; exact ⟨ob,k _ _ (.inl rfl) e⟩
  | xd fs=>obtain ⟨mA,⟨od,es,ep,e,c⟩,r⟩:=x; exact ⟨mA,⟨od,es,ep,k _ _ (.inl rfl) e,c⟩,r⟩
  | rng lo hi=>obtain ⟨t,u,v,e⟩:=x; exact ⟨t,u,v,k _ _ (.inl rfl) e⟩
  | frz ob u ih=>obtain ⟨e,q⟩:=x; exact ⟨k _ _ (.inl rfl) e,ih q⟩
  | tbl ps =>
    have e:h.get? a = some { cls:=.none,data:=.fields ps }:=x
    show h'.get? a = some { cls:=.none,data:=.fields ps }
    exact k a _ (.inl rfl) e
  | met f y =>
    have e:h.get? a = some (qEk (.ref f) (.ref y)):=x
    show h'.get? a = some (qEk (.ref f) (.ref y))
    exact k a _ (.inl rfl) e
  | ext φ=>obtain ⟨p,⟨o,e⟩,st⟩:=x; exact ⟨st _ _ p fun o q=>k _ _ (.inl rfl) q,⟨o,k _ _ (.inl rfl) e⟩,st⟩
theorem HOk.lt (x:HOk P w H h) (e:H a = some o):a < h.objs.size:=(x a o e).lt
theorem HOk.fresh (x:HOk P w H h) (e:h.objs.size≤a):H a = none:=by
  cases q:H a with
  | none=>rfl
  | some u=>exact absurd (qAe (x.lt q) e) (qC8 _)
theorem HOk.kept (x:HOk P w H h) (k:∀ b u,h.get? b = some u→h'.get? b = some u):HOk P w H h':=fun a o e =>
  (x a o e).stay (fun b u _ q=>k b u q) (fun _ q=>q) fun _ _ q=>q
theorem HOk.laid (x:HOk P w H h) (k:∀ b u,h.get? b = some u→h'.get? b = some u) (hp:h.objs.size≤a) (new:ObjOk P w (upd H a o) h' a o):HOk P w (upd H a o) h':=fun b u e=>by
  have hn:=x.fresh hp
  by_cases hb:b = a
  · subst hb; rw [zAH] at e; cases e; exact new
  · rw [zAK hb] at e
    exact (x b u e).stay (fun c v _ q=>k c v q) (fun c q=>by rw [zAK (zAN q hn)]; exact q) fun c xs q=>by rw [zAK (zAN q hn)]; exact q
end
def Rd (H:Hp) (a:Addr) (u:HO):Prop:=H a = some u∨∃ o,H a = some (.frz o u)
theorem Rd.ok {P:Program} {w:World} {H:Hp} {h:Heap} {a:Addr} {u:HO} (r:Rd H a u) (x:HOk P w H h):ObjOk P w H h a u:=by
  rcases r with r | ⟨o,r⟩
  · exact x a u r
  · obtain ⟨_,q⟩:=x a _ r
    exact q
noncomputable def Mut:Option HO→Prop
  | some (.lst _)=>True
  | some (.dK _)=>True
  | some (.dT _)=>True
  | some (.set _ _)=>True
  | some (.ins _ _ _)=>True
  | some (.ext _)=>True
  | _=>False
section
variable {P:Program} {w:World} {H:Hp} {h h':Heap} {x e:Addr} {o':HO}
theorem HOk.write (ok:HOk P w H h) (mu:Mut (H x)) (he:e = x∨H e = some (.own x)) (k:∀ b u,b≠e→h.get? b = some u→h'.get? b = some u) (heo:∃ u,h'.get? e = some u)
    (new:ObjOk P w (upd H x o') h' x o'):HOk P w (upd H x o') h':=fun b u q=>by
  have nown:∀ c y,H c = some (.own y)→c≠x:=fun c y r z=>by subst z; rw [r] at mu; exact mu
  have ntup:∀ c xs,H c = some (.tup xs)→c≠x:=fun c xs r z=>by subst z; rw [r] at mu; exact mu
  by_cases hb:b = x
  · subst hb; rw [zAH] at q; cases q; exact new
  · rw [zAK hb] at q
    by_cases hbe:b = e
    · have q':H b = some (.own x):=by
        rcases he with z | z
        · exact absurd (hbe.trans z) hb
        · rw [hbe]; exact z
      rw [q] at q'; cases q'
      obtain ⟨v,hv⟩:=heo
      exact ⟨v,by rw [hbe]; exact hv⟩
    · refine (ok b u q).stay (fun c v hc r=>k c v ?_ r) (fun c r=>by rw [zAK (nown c b r)]; exact r) fun c xs r=>by rw [zAK (ntup c xs r)]; exact r
      rcases hc with rfl | hc
      · exact hbe
      · rintro rfl
        rcases he with z | z
        · exact nown c b hc z
        · rw [hc] at z; cases z; exact hb rfl
end
structure Un (fs ex:List Addr) (H H':Hp) (h h':Heap):Prop where
  keep:∀ b o,h.get? b = some o→H b = none→b ∉ fs→b ∉ ex→h'.get? b = some o
  slot:∀ b o,h.get? b = some o→H b = none→b∈fs→b ∉ ex→∃ sl,h'.get? b = some { o with slots:=sl }
  free:∀ b o,h.get? b = some o→H b = none→b ∉ ex→H' b = none
  there:∀ b o,h.get? b = some o→b ∉ ex→∃ o',h'.get? b = some o'
  tups:∀ b xs,H b = some (.tup xs)→H' b = some (.tup xs)
  frzs:∀ b o u,H b = some (.frz o u)→H' b = some (.frz o u)
  tbls:∀ b ps,H b = some (.tbl ps)→∃ more,H' b = some (.tbl (ps ++ more))
section
variable {fs fs' ex ex':List Addr} {H H1 H2:Hp} {h h1 h2 h':Heap} {a x e:Addr} {o:HO}
theorem Un.any (u:Un fs ex H H1 h h1) {b:Addr} {ob:Obj} (q:h.get? b = some ob) (n:H b = none) (hx:b ∉ ex):∃ sl,h1.get? b = some { ob with slots:=sl }:=by
  by_cases hb:b∈fs
  · exact u.slot b ob q n hb hx
  · exact ⟨ob.slots,u.keep b ob q n hb hx⟩
theorem Un.kept (k:∀ b u,h.get? b = some u→h'.get? b = some u):Un fs ex H H h h' :=
  ⟨fun b ob q _ _ _=>k b ob q,fun b ob q _ _ _=>⟨ob.slots,k b ob q⟩,fun _ _ _ n _=>n,fun b ob q _=>⟨ob,k b ob q⟩,fun _ _ q=>q,fun _ _ _ q=>q,fun _ ps q=>⟨#[],by rw [q]; simp⟩⟩
theorem Un.refl:Un fs ex H H h h:=Un.kept fun _ _ q=>q
theorem Un.laid (k:∀ b u,h.get? b = some u→h'.get? b = some u) (hp:h.objs.size≤a) (hn:H a = none):Un fs ex H (upd H a o) h h' where
  keep:=fun b u q _ _ _=>k b u q
  slot:=fun b u q _ _ _=>⟨u.slots,k b u q⟩
  free:=fun b u q n _=>by rw [zAK (qAk (qAe (Heap.lt_size q) hp))]; exact n
  there:=fun b u q _=>⟨u,k b u q⟩
  tups:=fun b xs q=>by rw [zAK (zAN q hn)]; exact q
  frzs:=fun b u xs q=>by rw [zAK (zAN q hn)]; exact q
  tbls:=fun b ps q=>⟨#[],by rw [zAK (zAN q hn),q]; simp⟩
theorem Un.write (mu:Mut (H x)) (he:e = x∨H e = some (.own x)) (k:∀ b u,b≠e→h.get? b = some u→h'.get? b = some u) (heo:∃ u,h'.get? e = some u):Un fs ex H (upd H x o) h h':=by
  have hx:∀ b,H b = none→b≠x:=fun b n z=>by subst z; rw [n] at mu; exact mu
  have hb:∀ b,H b = none→b≠e:=fun b n z=>by
    subst z
    rcases he with r | r
    · exact hx b n r
    · rw [n] at r; cases r
  have hm:∀ b u,H b = some u→¬ Mut (some u)→b≠x:=fun b u q nm z=>by subst z; rw [q] at mu; exact nm mu
  refine ⟨fun b u q n _ _=>k b u (hb b n) q,fun b u q n _ _=>⟨u.slots,k b u (hb b n) q⟩,fun b u q n _=>by rw [zAK (hx b n)]; exact n,fun b u q _=>?_,
    fun b xs q=>by rw [zAK (hm b _ q fun z=>z)]; exact q,fun b u xs q=>by rw [zAK (hm b _ q fun z=>z)]; exact q,fun b ps q=>⟨#[],by rw [zAK (hm b _ q fun z=>z),q]; simp⟩⟩
  by_cases hbe:b = e
  · subst hbe; exact heo
  · exact ⟨u,k b u hbe q⟩
end
noncomputable def trk (h:Heap) (H:Hp):List Addr:=(qA9 h.objs.size).filter fun a=>(H a).isSome
def hidT (h:Heap) (H:Hp):Heap:=PySem.W.hideAll h (trk h H)
theorem zQX (h:Heap) (H:Hp):(hidT h H).objs.size = h.objs.size:=PySem.W.hideAll_size _ _
theorem zSY {h:Heap} {H:Hp} {b:Addr} {o:Obj} (e:h.get? b = some o) (n:H b = none):(hidT h H).get? b = some o :=
  PySem.W.hideAll_get _ e fun hm=>by
    have q:(H b).isSome = true:=(qD5.mp hm).2
    rw [n] at q; simp at q
theorem zV1 {h:Heap} {H:Hp} {b:Addr} {o:Obj} (e:(hidT h H).get? b = some o):h.get? b = some o∧H b = none:=by
  have e':h.get? b = some o:=PySem.W.of_hideAll (trk h H) e
  refine ⟨e',?_⟩
  cases q:H b with
  | none=>rfl
  | some x =>
    have hm:b∈trk h H:=qD5.mpr ⟨qCn.mpr (Heap.lt_size e'),by simp [q]⟩
    have z:(hidT h H).get? b = none:=PySem.W.hideAll_none (trk h H) hm
    rw [z] at e; cases e
noncomputable def zW7 (g h:Heap) (L:Addr):List (Addr × Obj):=(qA9 h.objs.size).filterMap fun a=>if a = L∨(g.get? a).isSome = true then none else (h.get? a).map fun o=>(a,o)
def rest (g h:Heap) (L d:Addr):List (Addr × Obj):=(zW7 g h L).filter fun p=>decide (p.1≠d)
end L2
namespace L2
open PySem PySem.Spec PyProof.Rows
structure Mod (K:qA2) (mg:Str→Option Value) (base:Heap):Prop where
  kin:K.In base
  glob:base.Ns mainGlobals mg
  blt:∃ mb,base.Ns builtinsNs mb∧∀ x:Str,x≠"__name__"→mb x = bootBuiltins x
  nolimit:base.NoLimit
structure Cx where
  prog:Program
  w:World
  K:qA2
  mg:Str→Option Value
  base:Heap
  A:Around
  N:List Str
  s₀:Shared
  H₀:Hp
  env:Env
  outer:List Env
  stack:List Env
  ex:List Addr
  fn:Str→Bool
  calm:Bool
  pn:List (Addr × Obj)
  xe:Value→Shared→Prop
noncomputable def frs (l:List Env):List Addr:=l.filterMap (·.frame)
abbrev Cx.fs (X:Cx):List Addr:=frs X.outer
def Vis (sc:Scope) (x:Str):Prop:=sc.names.lookup x = some .local∨sc.names.lookup x = some .cell∨sc.names.lookup x = some .free
def Loc (sc:Scope) (x:Str):Prop:=sc.names.lookup x = some .local∨sc.names.lookup x = some .cell
def Look (env:Env) (h:Heap) (m:Str→Option Value) (x:Str) (u:Value):Prop :=
  (env.kindOf x = some .local∧m x = some u)∨((env.kindOf x = some .cell∨env.kindOf x = some .free)∧∃ c,env.cells.lookup x = some c∧h.IsCell c (some u))
structure Cx.Ok (X:Cx):Prop where
  mod:Mod X.K X.mg X.base
  kind:X.env.scope.kind = .function
  glob:X.env.globals = mainGlobals
  blt:X.env.builtins = builtinsNs
  above:X.s₀.heap.objs.size≤X.env.locals
  inj:∀ x y c,X.env.cells.lookup x = some c→X.env.cells.lookup y = some c→x = y
  has:∀ x,(X.env.kindOf x = some .cell∨X.env.kindOf x = some .free)→∃ c,X.env.cells.lookup x = some c
  cab:∀ x c,X.fn x = true→X.env.cells.lookup x = some c→X.s₀.heap.objs.size≤c
  hd:X.calm = true→X.A.handled = none
  frames:X.A.frames = some X.stack
  stk:X.stack = X.outer∨(X.stack = X.env :: X.outer∧X.env.frame = some X.env.locals)
  exf:∀ b∈X.ex,b≠X.env.locals∧∀ x c,X.env.cells.lookup x = some c→c≠b
  bs:∀ b o,X.base.get? b = some o→X.s₀.heap.get? b = some o∧X.H₀ b = none
  bsz:X.base.objs.size≤X.s₀.heap.objs.size
  noex:∀ b o,X.base.get? b = some o→b ∉ X.ex
  exfs:∀ b∈X.ex,b ∉ X.fs
  funs:X.s₀.heap.FunFrames X.base X.outer
  frf:∀ b∈X.fs,X.H₀ b = none
structure Inv (X:Cx) (pins:List (Addr × Obj)) (σ:List (Option V)) (H:Hp) (s:Shared):Prop where
  ok:X.Ok
  os:s.os = X.s₀.os
  bare:AllBare s.gens
  base:Un X.fs X.ex X.H₀ H X.s₀.heap s.heap
  loc:∃ m,s.heap.Ns X.env.locals m∧∀ (i:Nat) (x:Str) (v:V),X.N[i]? = some x→σ[i]? = some (some v)→Vis X.env.scope x→∃ u,RelV v u∧Look X.env s.heap m x u
  cell:∀ x c,X.env.cells.lookup x = some c→∃ v,s.heap.IsCell c v
  free:H X.env.locals = none
  freeC:∀ x c,X.env.cells.lookup x = some c→H c = none
  pin:∀ p∈X.pn ++ pins,s.heap.get? p.1 = some p.2∧H p.1 = none∧p.1≠X.env.locals∧p.1 ∉ X.fs∧∀ v,p.2.data≠.cell v
  hok:HOk X.prog X.w H s.heap
  len:σ.length = X.N.length
section
variable {X:Cx} {pins:List (Addr × Obj)} {σ:List (Option V)} {H H':Hp} {s:Shared} {h':Heap}
theorem Cx.Ok.nofr (ok:X.Ok) {b:Addr} {o:Obj} (e:X.base.get? b = some o):b ∉ X.fs:=fun hb=>by
  have:=(ok.funs.mem hb).1
  rw [e] at this; cases this
theorem Inv.bs (I:Inv X pins σ H s):∀ b o,X.base.get? b = some o→s.heap.get? b = some o∧H b = none:=fun b o e =>
  ⟨I.base.keep b o (I.ok.bs b o e).1 (I.ok.bs b o e).2 (I.ok.nofr e) (I.ok.noex b o e),I.base.free b o (I.ok.bs b o e).1 (I.ok.bs b o e).2 (I.ok.noex b o e)⟩
theorem Inv.bk (I:Inv X pins σ H s):∀ b o,X.base.get? b = some o→s.heap.get? b = some o:=fun b o e=>(I.bs b o e).1
theorem Inv.mod (I:Inv X pins σ H s):Mod X.K X.mg X.base:=I.ok.mod
theorem Inv.kIn (I:Inv X pins σ H s):X.K.In s.heap:=I.ok.mod.kin.keeps I.bk
theorem Inv.fr (I:Inv X pins σ H s):∃ m,Fr X.base X.env.locals s.heap m :=
  let ⟨m,hn,_⟩:=I.loc
  ⟨m,hn,I.bk,qAq I.ok.bsz I.ok.above⟩
theorem Inv.lt (I:Inv X pins σ H s):X.env.locals < s.heap.objs.size:=let ⟨_,hn,_⟩:=I.loc; hn.lt
theorem Inv.sz (I:Inv X pins σ H s):X.s₀.heap.objs.size≤s.heap.objs.size:=qAq I.ok.above (qC9 I.lt)
theorem Inv.nofs (I:Inv X pins σ H s) {a:Addr} (h:s.heap.objs.size≤a):a ∉ X.fs:=fun hb=>by
  obtain ⟨_,o,ho,_⟩:=I.ok.funs.mem hb
  exact absurd (qAe (Heap.lt_size ho) (qAq I.sz h)) (qC8 _)
theorem Inv.cne (I:Inv X pins σ H s):∀ x c,X.env.cells.lookup x = some c→c≠X.env.locals:=fun x c e z=>by
  obtain ⟨v,o,ho,hd⟩:=I.cell x c e
  obtain ⟨m,⟨o',es,ep,ho',hd',_⟩,_⟩:=I.loc
  rw [z,ho'] at ho; cases ho; rw [hd'] at hd; cases hd
theorem Inv.funs (I:Inv X pins σ H s):s.heap.FunFrames X.base X.outer:=by
  have all:∀ (l:List Env),(∀ b∈frs l,b∈X.fs)→X.s₀.heap.FunFrames X.base l→s.heap.FunFrames X.base l:=by
    intro l
    induction l with
    | nil=>intro _ _; trivial
    | cons env r ih =>
      intro hs hl
      obtain ⟨hk,⟨L,o,hf,hn,ho,hd⟩,hr⟩:=hl
      have hL:L∈X.fs:=hs L (by unfold frs; rw [qE9,hf]; exact qAz)
      obtain ⟨sl,e⟩:=I.base.slot L o ho (I.ok.frf L hL) hL fun z=>I.ok.exfs L z hL
      exact ⟨hk,⟨L,_,hf,hn,e,hd⟩,ih (fun b hb=>hs b (by unfold frs; rw [qE9,hf]; exact qAt _ hb)) hr⟩
  exact all X.outer (fun _ hb=>hb) I.ok.funs
theorem Inv.stack (I:Inv X pins σ H s):s.heap.FunFrames X.base X.stack:=by
  rcases I.ok.stk with e | ⟨e,hf⟩
  · rw [e]; exact I.funs
  · rw [e]
    obtain ⟨m,hn,_⟩:=I.loc
    refine .cons (by rw [I.ok.kind]; decide) hf hn ?_ I.funs
    exact Heap.get?_none_of_le (qAq I.ok.bsz I.ok.above)
theorem Inv.stkSub (I:Inv X pins σ H s):∀ b∈frs X.stack,b∈X.env.locals :: X.fs:=fun b hb=>by
  rcases I.ok.stk with e | ⟨e,hf⟩
  · rw [e] at hb; exact qAt _ hb
  · rw [e] at hb
    unfold frs at hb
    rw [qE9,hf] at hb
    exact hb
theorem Inv.stkFree (I:Inv X pins σ H s):∀ b∈frs X.stack,H b = none:=fun b hb=>by
  rcases qAb.mp (I.stkSub b hb) with e | hb
  · rw [e]; exact I.free
  · obtain ⟨_,o,ho,_⟩:=I.ok.funs.mem hb
    exact I.base.free b o ho (I.ok.frf b hb) fun z=>I.ok.exfs b z hb
theorem Inv.step {g':Array GenState} {t':Nat} {d':Drawn} {ch:List Addr} (I:Inv X pins σ H s)
    (hch:∀ b∈ch,(b∈X.ex∨X.s₀.heap.objs.size≤b)∧b≠X.env.locals∧(∀ x c,X.env.cells.lookup x = some c→c≠b)∧∀ p∈X.pn ++ pins,p.1≠b)
    (keep:∀ b o,b≠X.env.locals→b ∉ X.fs→b ∉ ch→s.heap.get? b = some o→H b = none→h'.get? b = some o)
    (slot:∀ b o,b≠X.env.locals→b∈X.fs→b ∉ ch→s.heap.get? b = some o→H b = none→∃ sl,h'.get? b = some { o with slots:=sl }) (free:∀ b o,b ∉ ch→s.heap.get? b = some o→H b = none→H' b = none)
    (there:∀ b o,b ∉ ch→s.heap.get? b = some o→∃ o',h'.get? b = some o')
    (tups:∀ b xs,H b = some (.tup xs)→H' b = some (.tup xs)) (frzs:∀ b o u,H b = some (.frz o u)→H' b = some (.frz o u)) (tbls:∀ b ps,H b = some (.tbl ps)→∃ more,H' b = some (.tbl (ps ++ more)))
    (ns:∀ m,s.heap.Ns X.env.locals m→h'.Ns X.env.locals m) (hok:HOk X.prog X.w H' h') (hg:AllBare g') :
    Inv X pins σ H' { s with heap:=h',gens:=g',drawn:=d',toks:=t' }:=by
  have neL:∀ b o,X.s₀.heap.get? b = some o→b≠X.env.locals:=fun b o e=>qAk (qAe (Heap.lt_size e) I.ok.above)
  have neC:∀ b o,X.s₀.heap.get? b = some o→b ∉ X.ex→b ∉ ch:=fun b o e hx hb=>by
    rcases (hch b hb).1 with z | z
    · exact hx z
    · exact absurd (qAe (Heap.lt_size e) z) (qC8 _)
  have cellK:∀ x c,X.env.cells.lookup x = some c→∀ v,s.heap.IsCell c v→h'.IsCell c v:=fun x c e v ⟨o,ho,hd⟩=>by
    have nch:c ∉ ch:=fun z=>(hch c z).2.2.1 x c e rfl
    by_cases hc:c∈X.fs
    · obtain ⟨sl,q⟩:=slot c o (I.cne x c e) hc nch ho (I.freeC x c e)
      exact ⟨_,q,hd⟩
    · exact ⟨o,keep c o (I.cne x c e) hc nch ho (I.freeC x c e),hd⟩
  refine ⟨I.ok,I.os,hg,⟨fun b o e n hb hx=>?_,fun b o e n hb hx=>?_,fun b o e n hx=>?_,fun b o e hx=>?_,fun b xs e=>tups b xs (I.base.tups b xs e),fun b o xs e=>frzs b o xs (I.base.frzs b o xs e),fun b ps e=>?_⟩,?_,fun x c e=>?_,?_,fun x c e=>?_,fun p hp=>?_,hok,I.len⟩
  · exact keep b o (neL b o e) hb (neC b o e hx) (I.base.keep b o e n hb hx) (I.base.free b o e n hx)
  · obtain ⟨sl,e1⟩:=I.base.slot b o e n hb hx
    obtain ⟨sl',e2⟩:=slot b _ (neL b o e) hb (neC b o e hx) e1 (I.base.free b o e n hx)
    exact ⟨sl',e2⟩
  · obtain ⟨o',e1⟩:=I.base.there b o e hx
    exact free b o' (neC b o e hx) e1 (I.base.free b o e n hx)
  · obtain ⟨o',e1⟩:=I.base.there b o e hx
    exact there b o' (neC b o e hx) e1
  · obtain ⟨m1,e1⟩:=I.base.tbls b ps e
    obtain ⟨m2,e2⟩:=tbls b _ e1
    exact ⟨m1 ++ m2,by rw [e2,Array.append_assoc]⟩
  · obtain ⟨m,hn,hl⟩:=I.loc
    refine ⟨m,ns m hn,fun i x v e1 e2 e3=>?_⟩
    obtain ⟨u,r,l⟩:=hl i x v e1 e2 e3
    refine ⟨u,r,?_⟩
    rcases l with l | ⟨k,c,e,z⟩
    · exact .inl l
    · exact .inr ⟨k,c,e,cellK x c e _ z⟩
  · obtain ⟨v,z⟩:=I.cell x c e
    exact ⟨v,cellK x c e v z⟩
  · obtain ⟨m,⟨o,_,_,ho,_⟩,_⟩:=I.loc
    exact free _ o (fun z=>(hch _ z).2.1 rfl) ho I.free
  · obtain ⟨v,o,ho,hd⟩:=I.cell x c e
    exact free c o (fun z=>(hch c z).2.2.1 x c e rfl) ho (I.freeC x c e)
  · obtain ⟨e,n,ne,nf,d⟩:=I.pin p hp
    have nch:p.1 ∉ ch:=fun z=>(hch p.1 z).2.2.2 p hp rfl
    exact ⟨keep p.1 p.2 ne nf nch e n,free p.1 p.2 nch e n,ne,nf,d⟩
theorem Inv.un {t':Nat} (I:Inv X pins σ H s) (u:Un X.fs [] H H' s.heap h') (hok:HOk X.prog X.w H' h'):Inv X pins σ H' { s with heap:=h',toks:=t' }:=by
  obtain ⟨m,⟨o,es,ep,ho,r⟩,_⟩:=id I.loc
  obtain ⟨sl,hL⟩:=u.any ho I.free (by simp)
  exact I.step (g':=s.gens) (d':=s.drawn) (ch:=[]) (fun _ z=>nomatch z) (fun b o _ hb _ e n=>u.keep b o e n hb (by simp)) (fun b o _ hb _ e n=>u.slot b o e n hb (by simp)) (fun b o _ e n=>u.free b o e n (by simp)) (fun b o _ e=>u.there b o e (by simp)) u.tups u.frzs u.tbls (fun m' hm=>by
    obtain ⟨o',es',ep',ho',r'⟩:=hm
    rw [ho] at ho'; cases ho'
    exact ⟨_,es',ep',hL,r'⟩) hok I.bare
theorem Inv.call {g':Array GenState} {t':Nat} {d':Drawn} {ch:List Addr} (I:Inv X pins σ H s) (u:Un (frs X.stack) ch H H' s.heap h') (hok:HOk X.prog X.w H' h') (hg:AllBare g')
    (hch:∀ b∈ch,(b∈X.ex∨X.s₀.heap.objs.size≤b)∧b≠X.env.locals∧(∀ x c,X.env.cells.lookup x = some c→c≠b)∧∀ p∈X.pn ++ pins,p.1≠b) :
    Inv X pins σ H' { s with heap:=h',gens:=g',drawn:=d',toks:=t' }:=by
  obtain ⟨m,⟨o,es,ep,ho,r⟩,_⟩:=id I.loc
  obtain ⟨sl,hL⟩:=u.any ho I.free fun z=>(hch _ z).2.1 rfl
  exact I.step (ch:=ch) hch (fun b o hL hb hc e n=>u.keep b o e n (fun z=>(qAb.mp (I.stkSub b z)).elim hL hb) hc) (fun b o _ _ hc e n=>u.any e n hc) (fun b o hc e n=>u.free b o e n hc) (fun b o hc e=>u.there b o e hc) u.tups u.frzs u.tbls (fun m' hm=>by
    obtain ⟨o',es',ep',ho',r'⟩:=hm
    rw [ho] at ho'; cases ho'
    exact ⟨_,es',ep',hL,r'⟩) hok hg
theorem Inv.turned {t':Nat} {it:Addr} (I:Inv X pins σ H s) (k:∀ b o,b≠it→s.heap.get? b = some o→h'.get? b = some o) (hn:H it = none) (hL:it≠X.env.locals)
    (h1:it∈X.ex∨X.s₀.heap.objs.size≤it) (h2:∀ x c,X.env.cells.lookup x = some c→c≠it) (h3:∀ p∈X.pn ++ pins,p.1≠it):Inv X pins σ H { s with heap:=h',toks:=t' }:=by
  have nit:∀ b u,H b = some u→b≠it:=fun b u e z=>by rw [z,hn] at e; cases e
  refine I.step (g':=s.gens) (d':=s.drawn) (ch:=[it]) (fun b hb=>?_) (fun b o _ _ hc e _=>k b o (fun z=>hc (by simp [z])) e) (fun b o _ _ hc e _=>⟨o.slots,k b o (fun z=>hc (by simp [z])) e⟩) (fun _ _ _ _ n=>n)
    (fun b o hc e=>⟨o,k b o (fun z=>hc (by simp [z])) e⟩) (fun _ _ e=>e) (fun _ _ _ e=>e) (fun b ps e=>⟨#[],by rw [e]; simp⟩) (fun m hm=>?_) (fun b u e=>?_) I.bare
  · have e:b = it:=by simpa using hb
    subst e
    exact ⟨h1,hL,h2,h3⟩
  · obtain ⟨o,es,ep,ho,r⟩:=hm
    exact ⟨o,es,ep,k _ o (qCh hL) ho,r⟩
  · refine (I.hok b u e).stay (fun c v hc q=>k c v ?_ q) (fun _ q=>q) fun _ _ q=>q
    rcases hc with z | z
    · rw [z]; exact nit b u e
    · exact nit c _ z
theorem Inv.tok (I:Inv X pins σ H s) (t:Nat):Inv X pins σ H { s with toks:=t }:=I.un (h':=s.heap) (t':=t) Un.refl I.hok
theorem Inv.kept {t':Nat} (I:Inv X pins σ H s) (k:∀ b u,s.heap.get? b = some u→h'.get? b = some u):Inv X pins σ H { s with heap:=h',toks:=t' }:=I.un (Un.kept k) (I.hok.kept k)
theorem Inv.laid {a:Addr} {o:HO} {t':Nat} (I:Inv X pins σ H s) (k:∀ b u,s.heap.get? b = some u→h'.get? b = some u) (hp:s.heap.objs.size≤a) (new:ObjOk X.prog X.w (upd H a o) h' a o) :
    Inv X pins σ (upd H a o) { s with heap:=h',toks:=t' }:=I.un (Un.laid k hp (I.hok.fresh hp)) (I.hok.laid k hp new)
theorem Inv.write {x e:Addr} {o:HO} {t':Nat} (I:Inv X pins σ H s) (mu:Mut (H x)) (he:e = x∨H e = some (.own x)) (k:∀ b u,b≠e→s.heap.get? b = some u→h'.get? b = some u) (heo:∃ u,h'.get? e = some u)
    (new:ObjOk X.prog X.w (upd H x o) h' x o):Inv X pins σ (upd H x o) { s with heap:=h',toks:=t' }:=I.un (Un.write mu he k heo) (I.hok.write mu he k heo new)
theorem Inv.weak {σ':List (Option V)} (I:Inv X pins σ H s) (hl:σ'.length = σ.length) (w:∀ (i:Nat) v,σ'[i]? = some (some v)→σ[i]? = some (some v)):Inv X pins σ' H s :=
  ⟨I.ok,I.os,I.bare,I.base,let ⟨m,hn,hl'⟩:=I.loc; ⟨m,hn,fun i x v e1 e2 e3=>hl' i x v e1 (w i v e2) e3⟩,I.cell,I.free,I.freeC,I.pin,I.hok,hl.trans I.len⟩
theorem Inv.pins_of {pins':List (Addr × Obj)} (I:Inv X pins σ H s) (h:∀ p∈pins',s.heap.get? p.1 = some p.2∧H p.1 = none∧p.1≠X.env.locals∧p.1 ∉ X.fs∧∀ v,p.2.data≠.cell v):Inv X pins' σ H s :=
  ⟨I.ok,I.os,I.bare,I.base,I.loc,I.cell,I.free,I.freeC,fun p hp=>(qB8.mp hp).elim (fun z=>I.pin p (qB6 _ z)) (h p),I.hok,I.len⟩
theorem zIS {N:List Str} (hN:N.Nodup) {i j:Nat} {x:Str} (a:N[i]? = some x) (b:N[j]? = some x):i = j:=by
  obtain ⟨h1,e1⟩:=qA1.mp a
  obtain ⟨h2,e2⟩:=qA1.mp b
  exact (List.getElem_inj hN).mp (e1.trans e2.symm)
theorem zK1 {M:Model} {A:Around} {E:Value→Shared→Prop} {i:Nat} {x:Str} {v:V} {u:Value} {Q:Unit→Shared→Prop} (I:Inv X pins σ H s) (hN:X.N.Nodup) (hi:X.N[i]? = some x) (hx:Loc X.env.scope x) (r:RelV v u)
    (h:∀ s',Inv X pins (σ.set i (some v)) H s'→(∃ a,Heap.SameBut a s.heap s'.heap∧(a = X.env.locals∨X.env.cells.lookup x = some a))→Q () s') (hf:X.fn x = true∨X.env.scope.names.lookup x = some .local:=by first | exact .inl rfl | exact .inr rfl | assumption):wpAny M A (storeName X.env x u) Q E s:=by
  obtain ⟨m,hn,hl⟩:=id I.loc
  have hcls:(X.env.scope.kind == .class || (X.env.scope.kind == .module && X.env.locals != X.env.globals)) = false:=by rw [I.ok.kind]; rfl
  have hiσ:i < σ.length:=by rw [I.len]; exact (qA1.mp hi).1
  have cne:=I.cne
  have tracked:∀ {a:Addr} {h':Heap},(∃ o,s.heap.get? a = some o∧H a = none)→Heap.SameBut a s.heap h'→HOk X.prog X.w H h':=fun {a h'} ha hs b ob e=>by
    obtain ⟨_,_,hfree⟩:=ha
    refine (I.hok b ob e).stay (fun c w' hc q=>(hs.2 c ?_).trans q) (fun _ q=>q) fun _ _ q=>q
    rintro rfl
    rcases hc with rfl | hc
    · rw [hfree] at e; cases e
    · rw [hfree] at hc; cases hc
  rcases hx with hk | hk
  · refine wpAny_storeName_local hk hn (fun h' hn' hs=>?_) hcls
    obtain ⟨oL,_,_,hoL,_⟩:=id hn
    refine h _ ⟨I.ok,I.os,I.bare,⟨fun b o e n hb hx=>?_,fun b o e n hb hx=>?_,I.base.free,fun b o e hx=>?_,I.base.tups,I.base.frzs,I.base.tbls⟩,⟨_,hn',fun j y v' e1 e2 e3=>?_⟩,fun y c e=>?_,I.free,I.freeC,fun p hp=>?_,tracked ⟨oL,hoL,I.free⟩ hs,by simpa using I.len⟩ ⟨_,hs,.inl rfl⟩
    · exact (hs.2 b (qAk (qAe (Heap.lt_size e) I.ok.above))).trans (I.base.keep b o e n hb hx)
    · obtain ⟨sl,e1⟩:=I.base.slot b o e n hb hx
      exact ⟨sl,(hs.2 b (qAk (qAe (Heap.lt_size e) I.ok.above))).trans e1⟩
    · obtain ⟨o',e1⟩:=I.base.there b o e hx
      exact ⟨o',(hs.2 b (qAk (qAe (Heap.lt_size e) I.ok.above))).trans e1⟩
    · by_cases hj:j = i
      · subst hj
        rw [hi] at e1; cases e1
        rw [qAf hiσ] at e2
        cases e2
        exact ⟨u,r,.inl ⟨hk,by simp⟩⟩
      · rw [qAh (qCh hj)] at e2
        obtain ⟨u',r',q⟩:=hl j y v' e1 e2 e3
        refine ⟨u',r',?_⟩
        rcases q with ⟨k,e⟩ | ⟨k,c,e,z⟩
        · refine .inl ⟨k,?_⟩
          have:y≠x:=fun e=>hj (zIS hN e1 (e ▸ hi))
          simp [this,e]
        · exact .inr ⟨k,c,e,z.sameBut hs (cne y c e)⟩
    · obtain ⟨w',z⟩:=I.cell y c e
      exact ⟨w',z.sameBut hs (cne y c e)⟩
    · obtain ⟨e,n,ne,nf,d⟩:=I.pin p hp
      exact ⟨(hs.2 p.1 ne).trans e,n,ne,nf,d⟩
  · have hfn:X.fn x = true:=by
      rcases hf with z | z
      · exact z
      · rw [z] at hk; cases hk
    obtain ⟨c,hc⟩:=I.ok.has x (.inl hk)
    obtain ⟨w',z⟩:=I.cell x c hc
    refine wpAny_storeName_cell I.ok.kind hk hc z (fun h' hc' hs=>?_)
    obtain ⟨oc,hoc,hocd⟩:=id z
    refine h { s with heap:=h' } ⟨I.ok,I.os,I.bare,⟨fun b o e n hb hx=>?_,fun b o e n hb hx=>?_,I.base.free,fun b o e hx=>?_,I.base.tups,I.base.frzs,I.base.tbls⟩,⟨m,hn.sameBut hs (qCh (cne x c hc)),fun j y v' e1 e2 e3=>?_⟩,fun y c' e=>?_,I.free,I.freeC,fun p hp=>?_,tracked ⟨oc,hoc,I.freeC x c hc⟩ hs,by simpa using I.len⟩ ⟨c,hs,.inr hc⟩
    · exact (hs.2 b (qAk (qAe (Heap.lt_size e) (I.ok.cab x c hfn hc)))).trans (I.base.keep b o e n hb hx)
    · obtain ⟨sl,e1⟩:=I.base.slot b o e n hb hx
      exact ⟨sl,(hs.2 b (qAk (qAe (Heap.lt_size e) (I.ok.cab x c hfn hc)))).trans e1⟩
    · obtain ⟨o',e1⟩:=I.base.there b o e hx
      exact ⟨o',(hs.2 b (qAk (qAe (Heap.lt_size e) (I.ok.cab x c hfn hc)))).trans e1⟩
    · by_cases hj:j = i
      · subst hj
        rw [hi] at e1; cases e1
        rw [qAf hiσ] at e2
        cases e2
        exact ⟨u,r,.inr ⟨.inl hk,c,hc,hc'⟩⟩
      · rw [qAh (qCh hj)] at e2
        obtain ⟨u',r',q⟩:=hl j y v' e1 e2 e3
        refine ⟨u',r',?_⟩
        rcases q with q | ⟨k,c',e,z'⟩
        · exact .inl q
        · refine .inr ⟨k,c',e,z'.sameBut hs ?_⟩
          rintro rfl
          exact hj (zIS hN e1 (I.ok.inj _ _ _ e hc ▸ hi))
    · by_cases hcc:c' = c
      · subst hcc; exact ⟨_,hc'⟩
      · obtain ⟨w2,z2⟩:=I.cell y c' e
        exact ⟨w2,z2.sameBut hs hcc⟩
    · obtain ⟨e,n,ne,nf,d⟩:=I.pin p hp
      refine ⟨(hs.2 p.1 ?_).trans e,n,ne,nf,d⟩
      intro q
      rw [q,hoc] at e
      have q':oc = p.2:=qB7 e
      exact d w' (by rw [← q']; exact hocd)
theorem zIA {M:Model} {A:Around} {E:Value→Shared→Prop} {i:Nat} {x:Str} {v:V} {u:Value} {Q:Unit→Shared→Prop} (I:Inv X pins σ H s) (hN:X.N.Nodup) (hi:X.N[i]? = some x) (hx:Loc X.env.scope x) (r:RelV v u)
    (h:∀ s',Inv X pins (σ.set i (some v)) H s'→Q () s') (hf:X.fn x = true∨X.env.scope.names.lookup x = some .local:=by first | exact .inl rfl | exact .inr rfl | assumption):wpAny M A (storeName X.env x u) Q E s :=
  zK1 I hN hi hx r (fun s' I' _=>h s' I') hf
theorem Inv.call' {s':Shared} {ch:List Addr} (I:Inv X pins σ H s) (ho:s'.os = s.os) (u:Un (frs X.stack) ch H H' s.heap s'.heap) (hok:HOk X.prog X.w H' s'.heap) (hg:AllBare s'.gens)
    (hch:∀ b∈ch,(b∈X.ex∨X.s₀.heap.objs.size≤b)∧b≠X.env.locals∧(∀ x c,X.env.cells.lookup x = some c→c≠b)∧∀ p∈X.pn ++ pins,p.1≠b):Inv X pins σ H' s':=by
  obtain ⟨h',g',d',t',o'⟩:=s'
  have e:o' = s.os:=ho
  subst e
  exact I.call (g':=g') (t':=t') (d':=d') u hok hg hch
end
abbrev XK:=Value→Option Addr→Hp→Prop
abbrev St:=List (Option V)
abbrev VK:=V→Hp→Prop
abbrev TE:=St→Hp→VK→Prop
abbrev TT:=St→Hp→(Bool→Hp→Prop)→Prop
abbrev TA:=St→Hp→(List V→Hp→Prop)→Prop
structure Ends where
  nx:St→Hp→Prop
  rt:VK
  bk:St→Hp→Prop:=fun _ _=>False
  ct:St→Hp→Prop:=fun _ _=>False
abbrev TS:=Ends→St→Hp→Prop
def EP (X:Cx) (pins:List (Addr × Obj)) (σ:St) (Q:VK) (u:Value) (s':Shared):Prop:=∃ v H',Inv X pins σ H' s'∧RelV v u∧Q v H'
def TP (X:Cx) (pins:List (Addr × Obj)) (σ:St) (Q:Bool→Hp→Prop) (b:Bool) (s':Shared):Prop:=∃ H',Inv X pins σ H' s'∧Q b H'
def AP (X:Cx) (pins:List (Addr × Obj)) (σ:St) (Q:List V→Hp→Prop) (us:List Value) (s':Shared):Prop:=∃ vs H',Inv X pins σ H' s'∧Vals vs us∧Q vs H'
def SP (X:Cx) (pins:List (Addr × Obj)) (D:Ends) (f:Flow) (s':Shared):Prop :=
  match f with
  | .next=>∃ σ' H',Inv X pins σ' H' s'∧D.nx σ' H'
  | .brk=>∃ σ' H',Inv X pins σ' H' s'∧D.bk σ' H'
  | .cont=>∃ σ' H',Inv X pins σ' H' s'∧D.ct σ' H'
  | .ret u=>∃ v σ' H',Inv X pins σ' H' s'∧RelV v u∧D.rt v H'
def PE (X:Cx) (e:Expr) (t:TE):Prop :=
  ∀ (pins:List (Addr × Obj)) (s:Shared) (σ:St) (H:Hp) (Q:VK),Inv X pins σ H s→t σ H Q→wpAny (model X.prog X.w) X.A (eval e X.env) (EP X pins σ Q) X.xe s
def PT (X:Cx) (e:Expr) (t:TT):Prop :=
  ∀ (pins:List (Addr × Obj)) (s:Shared) (σ:St) (H:Hp) (Q:Bool→Hp→Prop),Inv X pins σ H s→t σ H Q→wpAny (model X.prog X.w) X.A (isTrue e X.env (eval e X.env)) (TP X pins σ Q) X.xe s
def PW (X:Cx) (e:Expr) (t:TT):Prop :=
  ∀ (whole:Sem Value) (pins:List (Addr × Obj)) (s:Shared) (σ:St) (H:Hp) (Q:Bool→Hp→Prop),Inv X pins σ H s→t σ H Q→wpAny (model X.prog X.w) X.A (isTrue e X.env whole) (TP X pins σ Q) X.xe s
theorem PW.pt {X:Cx} {e:Expr} {t:TT} (h:PW X e t):PT X e t:=h _
def PA (X:Cx) (es:List Expr) (t:TA):Prop :=
  ∀ (pos:Pos) (pins:List (Addr × Obj)) (s:Shared) (σ:St) (H:Hp) (Q:List V→Hp→Prop),Inv X pins σ H s→t σ H Q→wpAny (model X.prog X.w) X.A (spliced (backTo pos (starEach es X.env))) (AP X pins σ Q) X.xe s
def PS (X:Cx) (st:Stmt) (t:TS):Prop :=
  ∀ (pins:List (Addr × Obj)) (s:Shared) (σ:St) (H:Hp) (D:Ends),Inv X pins σ H s→t D σ H→wpAny (model X.prog X.w) X.A (exec st X.env) (SP X pins D) X.xe s
def PSs (X:Cx) (st:List Stmt) (t:TS):Prop :=
  ∀ (pins:List (Addr × Obj)) (s:Shared) (σ:St) (H:Hp) (D:Ends),Inv X pins σ H s→t D σ H→wpAny (model X.prog X.w) X.A (execs st X.env) (SP X pins D) X.xe s
theorem thn {α:Type} {t:Sem α} {Q Q':α→Shared→Prop} {M:Model} {A:Around} {E:Value→Shared→Prop} {s:Shared} (h:wpAny M A t Q E s) (hQ:∀ a s,Q a s→Q' a s):wpAny M A t Q' E s:=wpAny_mono h hQ fun _ _ x=>x
end L2
namespace L2
open PySem PySem.Spec PyProof.Rows
section
variable {X:Cx}
theorem bin {a b:Expr} {ta tb:TE} (ha:PE X a ta) (hb:PE X b tb) {pins:List (Addr × Obj)} {s:Shared} {σ:St} {H:Hp} {R:V→V→Hp→Prop} (I:Inv X pins σ H s) (h:ta σ H fun x H1=>tb σ H1 fun y H2=>R x y H2)
    {α:Type} {Q:α→Shared→Prop} {f:Value→Value→Sem α}
    (hf:∀ v u s2 x y H2,Inv X pins σ H2 s2→RelV x v→RelV y u→R x y H2→wpAny (model X.prog X.w) X.A (f v u) Q X.xe s2) :
    wpAny (model X.prog X.w) X.A (eval a X.env) (fun v s₁=>wpAny (model X.prog X.w) X.A (eval b X.env) (fun u s₂=>wpAny (model X.prog X.w) X.A (f v u) Q X.xe s₂) X.xe s₁) X.xe s:=by
  refine thn (ha pins s σ H _ I h) fun v s1 z0=>?_
  obtain ⟨x,H1,I1,r1,q1⟩:=z0
  refine thn (hb pins s1 σ H1 _ I1 q1) fun u s2 z0=>?_
  obtain ⟨y,H2,I2,r2,q2⟩:=z0
  exact hf v u s2 x y H2 I2 r1 r2 q2
noncomputable def tVar (i:Nat):TE:=fun σ H Q=>∃ v,σ[i]? = some (some v)∧Q v H
noncomputable def tC (v:V):TE:=fun _ H Q=>Q v H
theorem zXL {i:Nat} {x:Str} {pos:Pos} (hN:X.N[i]? = some x) (hv:Vis X.env.scope x) (hd:(x == ("__debug__":Str)) = false:=by decide) (hcd:(x == ("__classdict__":Str)) = false:=by decide):PE X (.Name x pos) (tVar i):=by
  intro pins s σ H Q I h
  obtain ⟨v,e,h⟩:=h
  obtain ⟨m,hn,hl⟩:=I.loc
  obtain ⟨u,r,l⟩:=hl i x v hN e hv
  have fin:EP X pins σ Q u s:=⟨v,H,I,r,h⟩
  rcases l with ⟨hk,hm⟩ | ⟨hk,c,hc,hcell⟩
  · exact wpAny_Name (wpAny_loadName_local I.ok.kind hk hn hm fin) hd
  · rcases hk with hk | hk
    · exact wpAny_Name (wpAny_loadName_cell I.ok.kind hk hc hcell fin) hd
    · exact wpAny_Name (wpAny_loadName_free I.ok.kind hk hc hcell fin hcd) hd
theorem zAJ {i j pos}:PE X (.Constant (.int i) j pos) (tC (.int i)):=fun _ _ _ H _ I h=>wpAny_Constant_int ⟨.int i,H,I.tok _,⟨_,rfl⟩,h⟩
theorem zKE {b j pos}:PE X (.Constant (.bool b) j pos) (tC (.bl b)):=fun _ _ _ H _ I h=>Constant_bool ⟨.bl b,H,I,rfl,h⟩
theorem zHS {x j pos}:PE X (.Constant (.str x) j pos) (tC (.str x)):=fun _ _ _ H _ I h=>Calls.Constant_str ⟨.str x,H,I.tok _,⟨_,rfl⟩,h⟩
def Gl (X:Cx) (x:Str):Prop:=X.env.kindOf x = some .globalImplicit
theorem zFI {E:Value→Shared→Prop} {pins:List (Addr × Obj)} {s:Shared} {σ:St} {H:Hp} {x:Str} {u:Value} {pos:Pos} {Q:Value→Shared→Prop} (I:Inv X pins σ H s) (hg:Gl X x) (hm:X.mg x = some u) (h:Q u s)
    (hd:(x == ("__debug__":Str)) = false:=by decide):wpAny (model X.prog X.w) X.A (eval (.Name x pos) X.env) Q E s :=
  Calls.Name_function_global I.ok.kind hg (Calls.loadGlobal_global (by rw [I.ok.glob]; exact I.mod.glob.keeps I.bk) hm h) hd
theorem zGS {E:Value→Shared→Prop} {pins:List (Addr × Obj)} {s:Shared} {σ:St} {H:Hp} {x:Str} {u:Value} {pos:Pos} {Q:Value→Shared→Prop} (I:Inv X pins σ H s) (hg:Gl X x) (hm:X.mg x = none) (hv:bootBuiltins x = some u) (h:Q u s)
    (hn:x≠"__name__":=by decide) (hd:(x == ("__debug__":Str)) = false:=by decide):wpAny (model X.prog X.w) X.A (eval (.Name x pos) X.env) Q E s:=by
  obtain ⟨mb,h1,h2⟩:=I.mod.blt
  exact Calls.Name_function_global I.ok.kind hg (Calls.loadGlobal_builtin (by rw [I.ok.glob]; exact I.mod.glob.keeps I.bk) hm (by rw [I.ok.blt]; exact h1.keeps I.bk) ((h2 x hn).trans hv) h) hd
theorem zFE {x:Str} {v:V} {u:Value} {pos:Pos} (hg:Gl X x) (hm:X.mg x = some u) (r:RelV v u) (hd:(x == ("__debug__":Str)) = false:=by decide):PE X (.Name x pos) (tC v) :=
  fun _ _ _ H _ I h=>zFI I hg hm ⟨v,H,I,r,h⟩ hd
theorem zGJ {x:Str} {v:V} {u:Value} {pos:Pos} (hg:Gl X x) (hm:X.mg x = none) (hv:bootBuiltins x = some u) (r:RelV v u) (hn:x≠"__name__":=by decide) (hd:(x == ("__debug__":Str)) = false:=by decide):PE X (.Name x pos) (tC v) :=
  fun _ _ _ H _ I h=>zGS I hg hm hv ⟨v,H,I,r,h⟩ hn hd
variable {a b:Expr} {ta tb:TE} {pos:Pos}
def PC (X:Cx) (op:CmpOp) (a b:Expr) (t:TE):Prop :=
  ∀ (pins:List (Addr × Obj)) (s:Shared) (σ:St) (H:Hp) (Q:VK),Inv X pins σ H s→t σ H Q →
    wpAny (model X.prog X.w) X.A (eval a X.env) (fun v s₁=>wpAny (model X.prog X.w) X.A (eval b X.env) (fun u s₂=>wpAny (model X.prog X.w) X.A (compareOp op v u) (EP X pins σ Q) X.xe s₂) X.xe s₁) X.xe s
theorem zSM (b:Expr) {op:CmpOp} (h:op≠.In) (h2:op≠.NotIn):behindInMarks op b = false:=by
  have e1:(op == CmpOp.In) = false:=by cases op <;> first | rfl | exact absurd rfl h
  have e2:(op == CmpOp.NotIn) = false:=by cases op <;> first | rfl | exact absurd rfl h2
  cases b <;> simp [behindInMarks,e1,e2]
noncomputable def tB (t:TE):TT:=fun σ H Q=>t σ H fun x H1=>∃ c,x = .bl c∧Q c H1
theorem zXH {op:CmpOp} {t:TE} (h:PC X op a b t) (h1:behindInMarks op b = false:=by first | exact zSM _ (by decide) (by decide) | rfl):PT X (.Compare a [op] [b] pos) (tB t):=by
  intro pins s σ H Q I hw
  refine wpAny_isTrue_Compare1 (thn (h pins s σ H _ I hw) fun v s1 h1=>thn h1 fun u s2 h2=>thn h2 fun c s3 z0=>?_) h1
  obtain ⟨x,H1,I1,r1,q1⟩:=z0
  obtain ⟨d,rfl,q⟩:=q1
  cases r1
  exact wpAny_truthy_bool ⟨H1,I1,q⟩
variable {tA tB':TT} {rest:List Expr}
noncomputable def tOr (t u:TT):TT:=fun σ H Q=>t σ H fun c H1=>if c = true then Q true H1 else u σ H1 Q
noncomputable def tNot (t:TT):TT:=fun σ H Q=>t σ H fun c H1=>Q (!c) H1
theorem zPU (ha:PT X a tA):PW X (.BoolOp .Or [a] pos) tA:=by
  intro wh pins s σ H Q I h
  refine isTrue_or (thn (ha pins s σ H Q I h) fun c s1 e=>?_)
  cases c with
  | false=>exact isTrue_or_nil e
  | true=>exact e
theorem zUV (ha:PT X a tA) (hb:PW X (.BoolOp .Or (b :: rest) pos) tB'):PW X (.BoolOp .Or (a :: b :: rest) pos) (tOr tA tB'):=by
  intro wh pins s σ H Q I h
  refine isTrue_or (thn (ha pins s σ H _ I h) fun c s1 z0=>?_)
  obtain ⟨H1,I1,q1⟩:=z0
  cases c with
  | true=>exact ⟨H1,I1,q1⟩
  | false=>exact hb wh pins s1 σ H1 Q I1 q1
theorem zNF (ha:PT X a tA):PT X (.UnaryOp .Not a pos) (tNot tA):=by
  intro pins s σ H Q I h
  exact isTrue_not (ha pins s σ H (fun c H1=>Q (!c) H1) I h)
theorem zXN {op} {t:TE} (h:PE X a t):PE X (.BoolOp op [a] pos) t:=fun pins s σ H Q I hw=>BoolOp_one (h pins s σ H Q I hw)
noncomputable def tIf (t:TT) (ta tb:TE):TE:=fun σ H Q=>t σ H fun c H1=>if c = true then ta σ H1 Q else tb σ H1 Q
theorem zSK {c:Expr} (hc:PT X c tA) (ha:PE X a ta) (hb:PE X b tb):PE X (.IfExp c a b pos) (tIf tA ta tb):=by
  intro pins s σ H Q I h
  refine wpAny_IfExp (thn (hc pins s σ H _ I h) fun d s1 z0=>?_)
  obtain ⟨H1,I1,q1⟩:=z0
  cases d with
  | true=>exact ha pins s1 σ H1 Q I1 q1
  | false=>exact hb pins s1 σ H1 Q I1 q1
end
end L2
namespace L2
open PySem PySem.Spec PyProof.Rows
def SqL (K:qA2) (H:Hp) (a:Addr) (xs:List V):Prop :=
  Rd H a (.lst xs) ∨
    ∃ (o:Obj) (its:Array Value) (n:Nat),K.lookup a = some o∧o.cls = .type "list"∧o.dict = none∧o.data = .seq its n∧its.size≤sizeLine∧Vals xs its.toList
def SqT (K:qA2) (H:Hp) (a:Addr) (xs:List V):Prop :=
  Rd H a (.tup xs) ∨
    ∃ (o:Obj) (its:Array Value) (n:Nat),K.lookup a = some o∧o.cls = .type "tuple"∧o.data = .seq its n∧its.size≤sizeLine∧Vals xs its.toList
noncomputable def absV:Value→Option V
  | .none=>some .non
  | .bool b=>some (.bl b)
  | .int i _=>some (.int i)
  | .str x _=>some (.str x)
  | .bytes b _=>some (.byt b)
  | .float b _=>some (.flt b)
  | .ref a=>some (.ref a)
  | .type n=>some (.ty n)
  | _=>none
theorem RelV.abs {x:V} {u:Value} (r:RelV x u):absV u = some x:=by
  cases x with
  | non=>cases r; rfl
  | bl _=>cases r; rfl
  | int _=>obtain ⟨t,rfl⟩:=r; rfl
  | str _=>obtain ⟨t,rfl⟩:=r; rfl
  | byt _=>obtain ⟨t,rfl⟩:=r; rfl
  | flt _=>obtain ⟨t,rfl⟩:=r; rfl
  | ref _=>cases r; rfl
  | ty _=>cases r; rfl
theorem RelV.inj {x y:V} {u:Value} (r:RelV x u) (q:RelV y u):x = y:=qB7 (r.abs.symm.trans q.abs)
theorem Vals.inj:∀ {xs ys:List V} {us:List Value},Vals xs us→Vals ys us→xs = ys
  | _,_,_,.nil,.nil=>rfl
  | _,_,_,.cons r t,.cons r' t'=>by rw [r.inj r',Vals.inj t t']
section
variable {X:Cx} {pins:List (Addr × Obj)} {σ:St} {H:Hp} {s:Shared} {a:Addr} {xs ys:List V}
theorem SqL.of {K:qA2} (h:H a = some (.lst xs)):SqL K H a xs:=.inl (.inl h)
theorem SqT.of {K:qA2} (h:H a = some (.tup xs)):SqT K H a xs:=.inl (.inl h)
theorem Inv.list (I:Inv X pins σ H s) (h:SqL X.K H a xs):∃ its:List Value,Vals xs its∧PlainL s.heap a its.toArray∧xs.length≤sizeLine:=by
  rcases h with h | ⟨o,its,n,hk,hc,hd,hs,hz,r⟩
  · obtain ⟨z,its,n,r,e⟩:=h.ok I.hok
    exact ⟨its,r,⟨_,n,e,rfl,rfl,rfl⟩,z⟩
  · refine ⟨its.toList,r,⟨o,n,I.kIn a o hk,hc,hd,by simpa using hs⟩,?_⟩
    have e:=r.length
    simp only [qB5] at e
    omega
theorem Inv.tuple (I:Inv X pins σ H s) (h:SqT X.K H a xs):∃ its:List Value,Vals xs its∧IsTup s.heap a its.toArray∧xs.length≤sizeLine:=by
  rcases h with h | ⟨o,its,n,hk,hc,hs,hz,r⟩
  · obtain ⟨z,its,r,p⟩:=h.ok I.hok
    exact ⟨its,r,p,z⟩
  · refine ⟨its.toList,r,⟨o,I.kIn a o hk,hc,n,by simpa using hs⟩,?_⟩
    have e:=r.length
    simp only [qB5] at e
    omega
theorem Inv.list_inj (I:Inv X pins σ H s) (h:SqL X.K H a xs) (h':SqL X.K H a ys):xs = ys:=by
  obtain ⟨its,r,⟨o,n,e,_,_,d⟩,_⟩:=I.list h
  obtain ⟨its',r',⟨o',n',e',_,_,d'⟩,_⟩:=I.list h'
  rw [e] at e'; cases e'
  rw [d] at d'
  injection d' with d1 _
  have:its = its':=by simpa using congrArg qG0 d1
  subst this
  exact r.inj r'
theorem Inv.tuple_inj (I:Inv X pins σ H s) (h:SqT X.K H a xs) (h':SqT X.K H a ys):xs = ys:=by
  obtain ⟨its,r,⟨o,e,_,n,d⟩,_⟩:=I.tuple h
  obtain ⟨its',r',⟨o',e',_,n',d'⟩,_⟩:=I.tuple h'
  rw [e] at e'; cases e'
  rw [d] at d'
  injection d' with d1 _
  have:its = its':=by simpa using congrArg qG0 d1
  subst this
  exact r.inj r'
end
abbrev Cx.wish (X:Cx) (E:Value→Shared→Prop):Cx:={ X with xe:=E }
abbrev Cx.nox (X:Cx):Cx:=X.wish fun _ _=>False
theorem Cx.Ok.wish {X:Cx} (ok:X.Ok) (E:Value→Shared→Prop):(X.wish E).Ok :=
  ⟨ok.mod,ok.kind,ok.glob,ok.blt,ok.above,ok.inj,ok.has,ok.cab,ok.hd,ok.frames,ok.stk,ok.exf,ok.bs,ok.bsz,ok.noex,ok.exfs,ok.funs,ok.frf⟩
theorem Cx.Ok.unwish {X:Cx} {E:Value→Shared→Prop} (ok:(X.wish E).Ok):X.Ok :=
  ⟨ok.mod,ok.kind,ok.glob,ok.blt,ok.above,ok.inj,ok.has,ok.cab,ok.hd,ok.frames,ok.stk,ok.exf,ok.bs,ok.bsz,ok.noex,ok.exfs,ok.funs,ok.frf⟩
section
variable {X:Cx} {pins:List (Addr × Obj)} {σ:St} {H:Hp} {s:Shared} {E:Value→Shared→Prop}
theorem Inv.wish (I:Inv X pins σ H s) (E:Value→Shared→Prop):Inv (X.wish E) pins σ H s:=⟨I.ok.wish E,I.os,I.bare,I.base,I.loc,I.cell,I.free,I.freeC,I.pin,I.hok,I.len⟩
theorem Inv.unwish (I:Inv (X.wish E) pins σ H s):Inv X pins σ H s:=⟨I.ok.unwish,I.os,I.bare,I.base,I.loc,I.cell,I.free,I.freeC,I.pin,I.hok,I.len⟩
theorem SP.unwish {D:Ends} {f:Flow} {s':Shared} (h:SP (X.wish E) pins D f s'):SP X pins D f s':=by
  cases f with
  | next=>obtain ⟨σ',H',I,q⟩:=h; exact ⟨σ',H',I.unwish,q⟩
  | brk=>obtain ⟨σ',H',I,q⟩:=h; exact ⟨σ',H',I.unwish,q⟩
  | cont=>obtain ⟨σ',H',I,q⟩:=h; exact ⟨σ',H',I.unwish,q⟩
  | ret u=>obtain ⟨v,σ',H',I,r,q⟩:=h; exact ⟨v,σ',H',I.unwish,r,q⟩
theorem PSs.nox {st:List Stmt} {t:TS} (h:PSs X.nox st t):PSs X st t:=fun pins s σ H D I hw =>
  wpAny_mono (h pins s σ H D (I.wish _) hw) (fun _ _ q=>q.unwish) fun _ _ z=>qA5 z
end
section
variable {X:Cx} {st:Stmt} {rest:List Stmt} {t u:TS} {e:Expr} {te:TE} {pos:Pos}
noncomputable def zWQ:TS:=fun D σ H=>D.nx σ H
noncomputable def tSeq (t u:TS):TS:=fun D σ H=>t { D with nx:=u D } σ H
theorem zDL:PSs X [] zWQ:=fun _ _ σ H _ I h=>wpAny_execs_nil ⟨σ,H,I,h⟩
theorem zA6 (h1:PS X st t) (h2:PSs X rest u):PSs X (st :: rest) (tSeq t u):=by
  intro pins s σ H D I h
  refine wpAny_execs_cons (thn (h1 pins s σ H { D with nx:=u D } I h) fun f s1 q=>?_)
  cases f with
  | next =>
    obtain ⟨σ',H',I',q⟩:=q
    exact h2 pins s1 σ' H' D I' q
  | ret v=>exact q
  | brk=>exact q
  | cont=>exact q
theorem zAE (h1:PS X st t):PSs X [st] t:=by
  intro pins s σ H D I h
  refine wpAny_execs_cons (thn (h1 pins s σ H D I h) fun f s1 q=>?_)
  cases f with
  | next=>exact wpAny_execs_nil q
  | ret v=>exact q
  | brk=>exact q
  | cont=>exact q
theorem Inv.quiet {pins:List (Addr × Obj)} {σ:St} {H:Hp} {s:Shared} (I:Inv X pins σ H s):interactive X.env = false:=by simp [interactive,I.ok.kind]
noncomputable def zEK (te:TE):TS:=fun D σ H=>te σ H fun _ H1=>D.nx σ H1
theorem zCI (he:PE X e te) (hs:swapsWith e none pos.line X.env = pure false:=by rfl):PS X (.Expr e pos) (zEK te):=by
  intro pins s σ H D I h
  exact wpAny_Expr_any (thn (he pins s σ H _ I h) fun v s1 ⟨x,H1,I1,r1,q1⟩=>⟨σ,H1,I1,q1⟩) I.quiet hs
noncomputable def tRet (te:TE):TS:=fun D σ H=>te σ H D.rt
theorem zB3 (he:PE X e te):PS X (.Return (some e) pos) (tRet te):=by
  intro pins s σ H D I h
  exact wpAny_Return_some (thn (he pins s σ H _ I h) fun v s1 ⟨x,H1,I1,r1,q1⟩=>⟨x,σ,H1,I1,r1,q1⟩)
noncomputable def tIfS (c:TT) (t u:TS):TS:=fun D σ H=>c σ H fun b H1=>if b = true then t D σ H1 else u D σ H1
theorem zKC {c:Expr} {a b:List Stmt} {tc:TT} (hc:PT X c tc) (ha:PSs X a t) (hb:PSs X b u):PS X (.If c a b pos) (tIfS tc t u):=by
  intro pins s σ H D I h
  refine wpAny_If (thn (hc pins s σ H _ I h) fun d s1 z0=>?_)
  obtain ⟨H1,I1,q1⟩:=z0
  cases d with
  | true=>exact ha pins s1 σ H1 D I1 q1
  | false=>exact hb pins s1 σ H1 D I1 q1
end
abbrev TG:=V→St→Hp→(St→Hp→Prop)→Prop
abbrev TGs:=List V→St→Hp→(St→Hp→Prop)→Prop
def PG (X:Cx) (target:Expr) (t:TG):Prop :=
  ∀ (pins:List (Addr × Obj)) (s:Shared) (σ:St) (H:Hp) (v:V) (u:Value) (Q:St→Hp→Prop),Inv X pins σ H s→RelV v u→t v σ H Q →
    wpAny (model X.prog X.w) X.A (assign target X.env u) (fun _ s'=>∃ σ' H',Inv X pins σ' H' s'∧Q σ' H') X.xe s
def PGs (X:Cx) (ts:List Expr) (t:TGs):Prop :=
  ∀ (pins:List (Addr × Obj)) (s:Shared) (σ:St) (H:Hp) (vs:List V) (us:List Value) (Q:St→Hp→Prop),Inv X pins σ H s→Vals vs us→t vs σ H Q →
    wpAny (model X.prog X.w) X.A (assignInOrder ((assignEach ts X.env).map (·.2)) us) (fun _ s'=>∃ σ' H',Inv X pins σ' H' s'∧Q σ' H') X.xe s
abbrev TSet:=V→V→V→Hp→(Hp→Prop)→Prop
def PSet (X:Cx) (t:TSet):Prop :=
  ∀ (pins:List (Addr × Obj)) (s:Shared) (σ:St) (H:Hp) (o i v:V) (ov iv u:Value) (Q:Hp→Prop),Inv X pins σ H s→RelV o ov→RelV i iv→RelV v u→t o i v H Q →
    wpAny (model X.prog X.w) X.A (setItem ov iv u) (fun _ s'=>∃ H',Inv X pins σ H' s'∧Q H') X.xe s
section
variable {X:Cx} {pos:Pos}
noncomputable def zEE (i:Nat):TG:=fun v σ H Q=>Q (σ.set i (some v)) H
theorem zB8 {i:Nat} {x:Str} (hN:X.N.Nodup) (hi:X.N[i]? = some x) (hx:Loc X.env.scope x) (hf:X.fn x = true∨X.env.scope.names.lookup x = some .local:=by first | exact .inl rfl | exact .inr rfl | assumption):PG X (.Name x pos) (zEE i):=by
  intro pins s σ H v u Q I r h
  exact wpAny_assign_Name (zIA I hN hi hx r (fun s' I'=>⟨_,H,I',h⟩) hf)
noncomputable def gNil:TGs:=fun vs σ H Q=>vs = []∧Q σ H
noncomputable def zYI (t:TG) (u:TGs):TGs:=fun vs σ H Q=>∃ v r,vs = v :: r∧t v σ H fun σ' H'=>u r σ' H' Q
theorem zDA:PGs X [] gNil:=by
  intro pins s σ H vs us Q I r h
  obtain ⟨e,h⟩:=h
  subst e
  cases r
  exact assignInOrder_nil ⟨σ,H,I,h⟩
theorem zAY {e:Expr} {es:List Expr} {t:TG} {u:TGs} (h1:PG X e t) (h2:PGs X es u)
    (hs:(assignEach (e :: es) X.env).map (·.2) = assign e X.env :: (assignEach es X.env).map (·.2):=by rfl):PGs X (e :: es) (zYI t u):=by
  intro pins s σ H vs us Q I r h
  obtain ⟨v,vr,e1,h⟩:=h
  subst e1
  cases r with
  | cons r rr =>
    rw [hs]
    refine assignInOrder_cons (thn (h1 pins s σ H _ _ _ I r h) fun _ s1 z0=>?_)
    obtain ⟨σ1,H1,I1,q1⟩:=z0
    exact h2 pins s1 σ1 H1 _ _ Q I1 rr q1
noncomputable def gTup (K:qA2) (n:Nat) (t:TGs):TG:=fun v σ H Q=>∃ a xs,v = .ref a∧SqT K H a xs∧xs.length = n∧t xs σ H Q
theorem zXJ {es:List Expr} {k:Nat} {t:TGs} {n:Nat} (hc:X.calm = true) (h:PGs X es t)
    (hn:(assignEach es X.env).length = n:=by rfl) (hst:(assignEach es X.env).findIdx? (·.1) = none:=by rfl):PG X (.Tuple es k pos) (gTup X.K n t):=by
  intro pins s σ H v u Q I r hw
  obtain ⟨a,xs,e1,hq,hl,hw⟩:=hw
  subst e1
  cases r
  obtain ⟨its,rv,ht,hz⟩:=I.tuple hq
  refine assign_Tuple_tuple (I.ok.hd hc) ht (by simp [hn,← hl,rv.length]) hst fun h' hx=>?_
  have I1:Inv X pins σ H { s with heap:=h' }:=I.kept (t':=s.toks) fun b o e=>hx b o (qAk (Heap.lt_size e)) e
  exact h pins _ σ H xs _ Q I1 (by simpa using rv) hw
noncomputable def gSub (to ti:TE) (t:TSet):TG:=fun v σ H Q=>to σ H fun o H1=>ti σ H1 fun i H2=>t o i v H2 fun H3=>Q σ H3
theorem zTL {o i:Expr} {to ti:TE} {t:TSet} (ho:PE X o to) (hi:PE X i ti) (hs:PSet X t)
    (ha:∀ v,assign (.Subscript o i pos) X.env v = (do
      let ov ← holding [v] (eval o X.env)
      let iv ← holding [v,ov] (eval i X.env)
      standAt pos
      holding [v,ov,iv] (setItem ov iv v)
      release [v,ov,iv] []):=by intro _; rfl):PG X (.Subscript o i pos) (gSub to ti t):=by
  intro pins s σ H v u Q I r h
  rw [ha]
  refine wpAny_bind (wpAny_holding (thn (ho pins s σ H _ I h) fun ov s1 z0=>?_))
  obtain ⟨x,H1,I1,r1,q1⟩:=z0
  refine wpAny_bind (wpAny_holding (thn (hi pins s1 σ H1 _ I1 q1) fun iv s2 z0=>?_))
  obtain ⟨y,H2,I2,r2,q2⟩:=z0
  refine wpAny_bind (wpAny_standAt (wpAny_bind (wpAny_holding (thn (hs pins s2 σ H2 x y v ov iv u _ I2 r1 r2 r q2) fun _ s3 z0=>?_))))
  obtain ⟨H3,I3,q3⟩:=z0
  exact wpAny_release ⟨σ,H3,I3,q3⟩
noncomputable def tAsg (te:TE) (g:TG):TS:=fun D σ H=>te σ H fun x H1=>g x σ H1 D.nx
theorem zPX {tg e:Expr} {te:TE} {g:TG} (he:PE X e te) (hg:PG X tg g) (hs:swapsWithSole [tg] e pos.line X.env = pure false:=by rfl) (hw:swappedStores [tg] e X.env = pure none:=by rfl)
    (h1:(assignEach [tg] X.env).map (·.2) = [assign tg X.env]:=by rfl):PS X (.Assign [tg] e pos) (tAsg te g):=by
  intro pins s σ H D I h
  refine wpAny_Assign_stores (thn (he pins s σ H _ I h) fun v s1 z0=>?_) hs hw
  obtain ⟨x,H1,I1,r1,q1⟩:=z0
  rw [h1]
  exact thn (hg pins s1 σ H1 x v _ I1 r1 q1) fun _ s2 q=>q
theorem zPW {i:Nat} {x:Str} {e:Expr} {te:TE} {pos':Pos} (hN:X.N.Nodup) (hi:X.N[i]? = some x) (hx:Loc X.env.scope x) (he:PE X e te) (hs:swapsWith e (some (.Name x pos')) pos.line X.env = pure false:=by rfl) (hf:X.fn x = true∨X.env.scope.names.lookup x = some .local:=by first | exact .inl rfl | exact .inr rfl | assumption) :
    PS X (.Assign [.Name x pos'] e pos) (tAsg te (zEE i)):=by
  intro pins s σ H D I h
  refine wpAny_Assign_Name (thn (he pins s σ H _ I h) fun v s1 z0=>?_) hs
  obtain ⟨y,H1,I1,r1,q1⟩:=z0
  exact zIA I1 hN hi hx r1 (fun s2 I2=>⟨_,H1,I2,q1⟩) hf
noncomputable def zPG (c:TT) (tb:TS):TS:=fun D σ H=>∃ W:Nat→St→Hp→Prop,(∃ m,W m σ H)∧∀ m σ H,W m σ H →
  c σ H fun b H1=>if b = true then ∃ N:St→Hp→Prop,(∀ σ' H',N σ' H'→∃ m',m' < m∧W m' σ' H')∧tb { D with nx:=N,ct:=N,bk:=D.nx } σ H1 else D.nx σ H1
theorem zNG {c:Expr} {body:List Stmt} {tc:TT} {tb:TS} (hp:PassesOwn (model X.prog X.w) X.A X.env X.xe) (hc:PT X c tc) (hb:PSs X body tb):PS X (.While c body [] pos) (zPG tc tb):=by
  intro pins s σ H D I h
  obtain ⟨W,⟨m0,w0⟩,turn⟩:=h
  refine wpAny_While (codeAny_whileLoop (fun n s'=>∃ σ' H',Inv X pins σ' H' s'∧W n σ' H') ?_ m0 ⟨σ,H,I,w0⟩)
  rintro n s1 ⟨σ1,H1,I1,w1⟩
  refine wpAny_passesOwn hp (thn (hc pins s1 σ1 H1 _ I1 (turn n σ1 H1 w1)) fun b s2 z0=>?_)
  obtain ⟨H2,I2,q2⟩:=z0
  cases b with
  | true =>
    obtain ⟨N,hN,q2⟩:=q2
    rw [if_pos rfl]
    refine wpAny_passesOwn hp (thn (hb pins s2 σ1 H2 _ I2 q2) fun f s3 q3=>?_)
    cases f with
    | next =>
      obtain ⟨σ3,H3,I3,n3⟩:=q3
      obtain ⟨m',hm,w3⟩:=hN σ3 H3 n3
      exact ⟨m',hm,σ3,H3,I3,w3⟩
    | cont =>
      obtain ⟨σ3,H3,I3,n3⟩:=q3
      obtain ⟨m',hm,w3⟩:=hN σ3 H3 n3
      exact ⟨m',hm,σ3,H3,I3,w3⟩
    | brk=>exact q3
    | ret v=>exact q3
  | false =>
    rw [if_neg qAg]
    exact wpAny_execs_nil ⟨σ1,H2,I2,q2⟩
end
structure It where
  go:Nat→Hp→Prop
  yld:Nat→Hp→V→Hp→Prop
  stop:Nat→Hp→Prop
def FpOk (X:Cx) (pins:List (Addr × Obj)) (H:Hp) (b:Addr):Prop :=
  H b = none∧b≠X.env.locals∧b ∉ X.fs∧(b∈X.ex∨X.s₀.heap.objs.size≤b)∧(∀ x c,X.env.cells.lookup x = some c→c≠b)∧∀ p∈X.pn ++ pins,p.1≠b
theorem Inv.fpOk {X:Cx} {pins:List (Addr × Obj)} {σ:St} {H H':Hp} {s:Shared} {b:Addr} (I:Inv X pins σ H s) (hb:s.heap.objs.size≤b) (hn:H' b = none):FpOk X pins H' b:=by
  refine ⟨hn,qBp (qAe I.lt hb),I.nofs hb,.inr (qAq I.sz hb),fun x c e z=>?_,fun p hp z=>?_⟩
  · obtain ⟨v,q⟩:=I.cell x c e
    exact absurd (qAe q.lt (by rw [z]; exact hb)) (qC8 _)
  · exact absurd (qAe (Heap.lt_size (I.pin p hp).1) (by rw [z]; exact hb)) (qC8 _)
structure Turn (P:Program) (w:World) (K:qA2) (tg:Expr) (J:It) (fp:List Addr) (it:Addr) (tn:Nat→Heap→Prop):Prop where
  mem:it∈fp
  obj:∀ i h,tn i h→∀ b∈fp,∃ o,h.get? b = some o∧∀ v,o.data≠.cell v
  keep:∀ i h h',tn i h→(∀ b∈fp,∀ o,h.get? b = some o→h'.get? b = some o)→tn i h'
  item:∀ (X:Cx),X.prog = P→X.w = w→X.K = K→X.calm = true→∀ (i:Nat) (pins:List (Addr × Obj)) (s:Shared) (σ:St) (H:Hp) (E:Value→Shared→Prop),Inv X pins σ H s→(∀ b∈fp,FpOk X pins H b)→tn i s.heap→J.go i H →
    wpAny (model P w) X.A (pyNext (.ref it)) (fun r s1=>∃ u,r = some u ∧
      wpAny (model P w) X.A (letOwnedTupleGo tg (.ref it) u) (fun _ s2=>∃ x H',Inv X pins σ H' s2∧RelV x u∧J.yld i H x H'∧tn (i + 1) s2.heap∧∀ b∈fp,H' b = none) E s1) E s
  done:∀ (X:Cx),X.prog = P→X.w = w→X.K = K→X.calm = true→∀ (i:Nat) (pins:List (Addr × Obj)) (s:Shared) (σ:St) (H:Hp) (E:Value→Shared→Prop),Inv X pins σ H s→(∀ b∈fp,FpOk X pins H b)→tn i s.heap→J.stop i H →
    wpAny (model P w) X.A (pyNext (.ref it)) (fun r s1=>r = none∧Inv X pins σ H s1) E s
  self:∀ (A:Around) (i:Nat) (s:Shared) (Q:Value→Shared→Prop) (E:Value→Shared→Prop),tn i s.heap→Q (.ref it) s→wpAny (model P w) A (pyIter (.ref it)) Q E s
abbrev TI:=St→Hp→(It→Hp→Prop)→Prop
def PIE (X:Cx) (pins:List (Addr × Obj)) (σ:St) (tg:Expr) (R:It→Hp→Prop) (itv:Value) (s2:Shared):Prop :=
  ∃ (it:Addr) (fp:List Addr) (tn:Nat→Heap→Prop) (J:It) (H':Hp),itv = .ref it∧Inv X pins σ H' s2∧Turn X.prog X.w X.K tg J fp it tn∧tn 0 s2.heap∧(∀ b∈fp,FpOk X pins H' b)∧R J H'
def PI (X:Cx) (tg iter:Expr) (wi:TI):Prop :=
  ∀ (pins:List (Addr × Obj)) (s:Shared) (σ:St) (H:Hp) (R:It→Hp→Prop),Inv X pins σ H s→wi σ H R →
    wpAny (model X.prog X.w) X.A (eval iter X.env) (fun v s1=>wpAny (model X.prog X.w) X.A (pyIter v) (PIE X pins σ tg R) X.xe s1) X.xe s
theorem zT0 {M:Model} {A:Around} {E:Value→Shared→Prop} {s:Shared} {tg:Expr} {it:Addr} {u:Value} {o:Obj} {n:String} {vs:Array Value} {Q:Unit→Shared→Prop} (ho:s.heap.get? it = some o) (hc:o.cls = .type n) (hd:o.data = .fields vs)
    (hn:["enumerate","zip","dict_itemiterator","dict_reverseitemiterator","odict_iterator","itertools.zip_longest","itertools.pairwise"].contains n = false) (hQ:Q () s):wpAny M A (letOwnedTupleGo tg (.ref it) u) Q E s:=by
  unfold letOwnedTupleGo
  cases tg <;> first
    | exact wpAny_pure hQ
    | (cases u <;> first
        | exact wpAny_pure hQ
        | (refine wpAny_bind (wpAny_load ho ?_)
           rw [hc,hd]
           show wpAny M A (if (["enumerate","zip","dict_itemiterator","dict_reverseitemiterator","odict_iterator","itertools.zip_longest","itertools.pairwise"].contains n && vs[0]? == some (rawInt _)) = true then _ else _) Q E s
           rw [if_neg (by intro h; rw [hn,Bool.false_and] at h; cases h)]
           exact wpAny_pure hQ))
noncomputable def Itl (K:qA2) (a:Addr):It :=
  ⟨fun i H=>∃ xs x,SqL K H a xs∧xs[i]? = some x,fun i H x H'=>H' = H∧∀ xs,SqL K H a xs→xs[i]? = some x,fun i H=>∃ xs,SqL K H a xs∧xs.length≤i⟩
noncomputable def Itt (K:qA2) (a:Addr):It :=
  ⟨fun i H=>∃ xs x,SqT K H a xs∧xs[i]? = some x,fun i H x H'=>H' = H∧∀ xs,SqT K H a xs→xs[i]? = some x,fun i H=>∃ xs,SqT K H a xs∧xs.length≤i⟩
noncomputable def Itr (lo:Int) (n:Nat):It:=⟨fun i _=>i < n,fun i H x H'=>H' = H∧x = .int (lo + i),fun i _=>n≤i⟩
theorem zPE {P:Program} {w:World} {K:qA2} {tg:Expr} (a it:Addr):Turn P w K tg (Itl K a) [it] it (fun i h=>h.IsListIter it a i) where
  mem:=by simp
  obj:=fun i h st b hb=>by
    have e:b = it:=by simpa using hb
    subst e
    obtain ⟨o,e,c,d⟩:=st
    exact ⟨o,e,fun v z=>by rw [d] at z; cases z⟩
  keep:=fun i h h' st k=>st.at fun o e=>k it (by simp) o e
  item:=by
    intro X hP hw hK hc i pins s σ H E I hf st hg
    subst hP hw hK
    obtain ⟨xs,x,hq,hx⟩:=hg
    obtain ⟨its,rv,p,hz⟩:=I.list hq
    obtain ⟨u,hu,ru⟩:=rv.get hx
    obtain ⟨f0,f1,f2,f3,f4,f5⟩:=hf it (by simp)
    refine wpAny_pyNext_list_item st p.isList (x:=u) (by simpa using hu) fun h' st' sb=>?_
    have I1:Inv X pins σ H { s with heap:=h' }:=I.turned (t':=s.toks) (fun b o hb e=>(sb.2 b hb).trans e) f0 f1 f3 f4 f5
    obtain ⟨o,e,c,d⟩:=id st'
    exact ⟨u,rfl,zT0 (s:={ s with heap:=h' }) e c d (by decide) ⟨x,H,I1,ru,⟨rfl,fun ys hy=>by rw [I.list_inj hy hq]; exact hx⟩,st',fun b hb=>(hf b hb).1⟩⟩
  done:=by
    intro X hP hw hK hc i pins s σ H E I hf st hg
    subst hP hw hK
    obtain ⟨xs,hq,hx⟩:=hg
    obtain ⟨its,rv,p,hz⟩:=I.list hq
    obtain ⟨f0,f1,f2,f3,f4,f5⟩:=hf it (by simp)
    have hl:=rv.length
    exact wpAny_pyNext_list_end (I.ok.hd hc) st p.isList (by simp; omega) fun h' eb=>⟨rfl,I.turned (t':=s.toks) (fun b o hb e=>eb b o hb e) f0 f1 f3 f4 f5⟩
  self:=fun _ _ _ _ _ st h=>wpAny_pyIter_listiter st h
theorem zOG {P:Program} {w:World} {K:qA2} {tg:Expr} (a it:Addr):Turn P w K tg (Itt K a) [it] it (fun i h=>h.IsTupleIter it a i) where
  mem:=by simp
  obj:=fun i h st b hb=>by
    have e:b = it:=by simpa using hb
    subst e
    obtain ⟨o,e,c,d⟩:=st
    exact ⟨o,e,fun v z=>by rw [d] at z; cases z⟩
  keep:=fun i h h' st k=>st.at fun o e=>k it (by simp) o e
  item:=by
    intro X hP hw hK hc i pins s σ H E I hf st hg
    subst hP hw hK
    obtain ⟨xs,x,hq,hx⟩:=hg
    obtain ⟨its,rv,p,hz⟩:=I.tuple hq
    obtain ⟨u,hu,ru⟩:=rv.get hx
    obtain ⟨f0,f1,f2,f3,f4,f5⟩:=hf it (by simp)
    refine wpAny_pyNext_tuple_item st (show s.heap.IsTuple a its.toArray from p) (x:=u) (by simpa using hu) fun h' st' sb=>?_
    have I1:Inv X pins σ H { s with heap:=h' }:=I.turned (t':=s.toks) (fun b o hb e=>(sb.2 b hb).trans e) f0 f1 f3 f4 f5
    obtain ⟨o,e,c,d⟩:=id st'
    exact ⟨u,rfl,zT0 (s:={ s with heap:=h' }) e c d (by decide) ⟨x,H,I1,ru,⟨rfl,fun ys hy=>by rw [I.tuple_inj hy hq]; exact hx⟩,st',fun b hb=>(hf b hb).1⟩⟩
  done:=by
    intro X hP hw hK hc i pins s σ H E I hf st hg
    subst hP hw hK
    obtain ⟨xs,hq,hx⟩:=hg
    obtain ⟨its,rv,p,hz⟩:=I.tuple hq
    obtain ⟨f0,f1,f2,f3,f4,f5⟩:=hf it (by simp)
    have hl:=rv.length
    exact wpAny_pyNext_tuple_end (I.ok.hd hc) st (show s.heap.IsTuple a its.toArray from p) (by simp; omega) fun h' eb=>⟨rfl,I.turned (t':=s.toks) (fun b o hb e=>eb b o hb e) f0 f1 f3 f4 f5⟩
  self:=fun _ _ _ _ _ st h=>wpAny_pyIter_tupleiter st h
theorem zOH {P:Program} {w:World} {K:qA2} {tg:Expr} (it:Addr) (lo:Int) (n:Nat):Turn P w K tg (Itr lo n) [it] it (fun i h=>IsRangeIter h it (lo + (i:Nat) * 1) ((n:Int) - (i:Nat)) 1) where
  mem:=by simp
  obj:=fun i h st b hb=>by
    have e:b = it:=by simpa using hb
    subst e
    exact ⟨_,st,fun v z=>by
      have z':Data.fields _ = Data.cell v:=z
      cases z'⟩
  keep:=fun i h h' st k=>k it (by simp) _ st
  item:=by
    intro X hP hw hK hc i pins s σ H E I hf st hg
    subst hP hw hK
    obtain ⟨f0,f1,f2,f3,f4,f5⟩:=hf it (by simp)
    have W:=Walks.range (prog:=X.prog) (w:=X.w) (I.ok.hd hc) it lo 1 n
    refine W.item i s _ _ hg st fun v h' tk hv st' kk=>?_
    obtain ⟨t,rfl⟩:=hv
    have I1:Inv X pins σ H { s with heap:=h',toks:=tk }:=I.turned (fun b o hb e=>kk b o (by simpa using hb) e) f0 f1 f3 f4 f5
    refine ⟨_,rfl,zT0 (s:={ s with heap:=h',toks:=tk }) (n:="range_iterator") st' rfl rfl (by decide) ⟨.int (lo + i),H,I1,⟨t,?_⟩,⟨rfl,rfl⟩,st',fun b hb=>(hf b hb).1⟩⟩
    rw [qHq]
  done:=by
    intro X hP hw hK hc i pins s σ H E I hf st hg
    subst hP hw hK
    obtain ⟨f0,f1,f2,f3,f4,f5⟩:=hf it (by simp)
    exact wpAny_pyNext_range_end (I.ok.hd hc) st (by have:n≤i:=hg; omega) fun h' eb=>⟨rfl,I.turned (t':=s.toks) (fun b o hb e=>eb b o hb e) f0 f1 f3 f4 f5⟩
  self:=fun _ _ _ _ _ st h=>wpAny_pyIter_rangeiter st h
end L2
namespace L2
open PySem PySem.Spec PyProof.Rows
section
variable {X:Cx} {tg:Expr}
theorem zSD {pins:List (Addr × Obj)} {σ:St} {H:Hp} {s:Shared} {R:It→Hp→Prop} {E:Value→Shared→Prop} {lo hi:Int} {t u v:Tok} {tk:Nat} (I:Inv X pins σ H s) (h1:-(2 ^ 62)≤lo) (h2:lo < 2 ^ 62) (h3:-(2 ^ 62)≤hi) (h4:hi < 2 ^ 62)
    (q:R (Itr lo (hi - lo).toNat) H):wpAny (model X.prog X.w) X.A (pyIter (.ref s.heap.objs.size)) (PIE X pins σ tg R) E { s with heap:=s.heap.push { cls:=.type "range",data:=.fields #[.int lo t,.int hi u,.int 1 v] },toks:=tk }:=by
  refine wpAny_pyIter_range (IsRange.new ..) (small_one h1 h2 h3 h4) ?_
  have I1:Inv X pins σ H { s with heap:=s.heap.push { cls:=.type "range",data:=.fields #[.int lo t,.int hi u,.int 1 v] },toks:=tk }:=I.kept fun b o e=>Heap.get?_push_of_some _ e
  refine ⟨(s.heap.push { cls:=.type "range",data:=.fields #[.int lo t,.int hi u,.int 1 v] }).objs.size,[(s.heap.push { cls:=.type "range",data:=.fields #[.int lo t,.int hi u,.int 1 v] }).objs.size],_,_,H,rfl,
    I1.kept (t':=tk) fun b o e=>Heap.get?_push_of_some _ e,zOH _ lo (hi - lo).toNat,?_,fun b hb=>?_,q⟩
  · have e1:lo + ((0:Nat):Int) * 1 = lo:=by simp
    have e2:(((hi - lo).toNat:Nat):Int) - ((0:Nat):Int) = Builtin.Range.rangeSize lo hi 1:=by rw [rangeSize_one]; split <;> omega
    show IsRangeIter _ _ (lo + ((0:Nat):Int) * 1) ((((hi - lo).toNat:Nat):Int) - ((0:Nat):Int)) 1
    rw [e1,e2]
    exact Heap.get?_push_size _ rfl
  · have e:b = (s.heap.push { cls:=.type "range",data:=.fields #[.int lo t,.int hi u,.int 1 v] }).objs.size:=by simpa using hb
    subst e
    exact I1.fpOk (qAa _) (I1.hok.fresh (qAa _))
def zYH (ta:TA):TI:=fun σ H R=>ta σ H fun vs H1=>∃ j:Int,vs = [.int j]∧-(2 ^ 62)≤j∧j < 2 ^ 62∧R (Itr 0 j.toNat) H1
theorem zBP {a:Expr} {ta:TA} {p pos:Pos} (hg:Gl X "range") (hm:X.mg "range" = none) (ha:PA X [a] ta) (hs:starEach [a] X.env = [(false,eval a X.env)]:=by rfl):PI X tg (.Call (.Name "range" p) [a] [] pos) (zYH ta):=by
  intro pins s σ H R I h
  refine Call_ (zGS I hg hm boot_range (qC6 (thn (ha pos pins s σ H _ I h) fun us s1 z0=>?_) hs rfl))
  obtain ⟨vs,H1,I1,r1,q1⟩:=z0
  obtain ⟨j,e,q1,q2,q⟩:=q1
  subst e
  cases r1 with
  | cons r rr =>
    cases rr
    obtain ⟨t,rfl⟩:=r
    exact call_range_1 (zSD I1 (by omega) (by omega) q1 q2 (by simpa using q))
noncomputable def tFor (wi:TI) (g:TG) (tb:TS):TS:=fun D σ H=>wi σ H fun J H1=>∃ W:Nat→Nat→St→Hp→Prop,(∃ m,W 0 m σ H1)∧∀ i m σ H,W i m σ H →
  (J.stop i H∧D.nx σ H)∨(J.go i H∧∃ N:St→Hp→Prop,(∀ σ' H',N σ' H'→∃ m',m' < m∧W (i + 1) m' σ' H')∧∀ x H',J.yld i H x H'→g x σ H' fun σ2 H2=>tb { D with nx:=N,ct:=N,bk:=D.nx } σ2 H2)
noncomputable def zHR (fp:List Addr) (h:Heap):List (Addr × Obj):=fp.filterMap fun b=>(h.get? b).map fun o=>(b,o)
theorem zDU {fp:List Addr} {h:Heap} {b:Addr} {o:Obj} (hb:b∈fp) (e:h.get? b = some o):(b,o)∈zHR fp h:=qFm.mpr ⟨b,hb,by rw [e]; rfl⟩
theorem zQA {fp:List Addr} {h:Heap} {p:Addr × Obj} (hp:p∈zHR fp h):p.1∈fp∧h.get? p.1 = some p.2:=by
  obtain ⟨b,hb,e⟩:=qFm.mp hp
  cases q:h.get? b with
  | none=>rw [q] at e; cases e
  | some o =>
    rw [q] at e
    have e':(b,o) = p:=qB7 e
    subst e'
    exact ⟨hb,q⟩
theorem Inv.pinned {pins:List (Addr × Obj)} {σ:St} {H:Hp} {s:Shared} {fp:List Addr} (I:Inv X pins σ H s) (hf:∀ b∈fp,FpOk X pins H b) (ho:∀ b∈fp,∃ o,s.heap.get? b = some o∧∀ v,o.data≠.cell v):Inv X (pins ++ zHR fp s.heap) σ H s :=
  I.pins_of fun p hp=>(qB8.mp hp).elim (fun z=>I.pin p (qAw _ z)) fun z=>by
    obtain ⟨hb,e⟩:=zQA z
    obtain ⟨f0,f1,f2,_⟩:=hf p.1 hb
    obtain ⟨o,e',d⟩:=ho p.1 hb
    rw [e] at e'; cases e'
    exact ⟨e,f0,f1,f2,d⟩
theorem Inv.unpinned {pins pl:List (Addr × Obj)} {σ:St} {H:Hp} {s:Shared} (I:Inv X (pins ++ pl) σ H s):Inv X pins σ H s:=I.pins_of fun p hp=>I.pin p (qAw _ (qB6 _ hp))
theorem zXI {iter:Expr} {body:List Stmt} {wi:TI} {g:TG} {tb:TS} {pos:Pos} (hp:PassesOwn (model X.prog X.w) X.A X.env X.xe) (hc:X.calm = true) (hi:PI X tg iter wi) (hg:PG X tg g) (hb:PSs X body tb)
    (hs:∀ x,foldedSetIterable iter X.env x = pure x:=by intro _; rfl):PS X (.For tg iter body [] pos) (tFor wi g tb):=by
  intro pins s σ H D I h
  refine wpAny_For (thn (hi pins s σ H _ I h) fun v s1 h1=>thn h1 fun itv s2 h2=>?_) hs
  obtain ⟨it,fp,tn,J,H2,e,I2,T,st2,f2,W,⟨m0,w0⟩,turn⟩:=h2
  subst e
  have stat:∀ {H':Hp},(∀ b∈fp,H' b = none)→∀ b∈fp,FpOk X pins H' b:=fun hn b hb=>⟨hn b hb,(f2 b hb).2⟩
  refine codeAny_forLoop_any (fun n s'=>∃ i σ' H',Inv X pins σ' H' s'∧tn i s'.heap∧(∀ b∈fp,H' b = none)∧W i n σ' H') ?_ m0 ⟨0,σ,H2,I2,st2,fun b hb=>(f2 b hb).1,w0⟩
  rintro n s3 ⟨i,σ3,H3,I3,st3,fr3,w3⟩
  rcases turn i n σ3 H3 w3 with ⟨stop,qn⟩ | ⟨go,N,hN,step⟩
  · refine wpAny_passesOwn hp (thn (T.done X rfl rfl rfl hc i pins s3 σ3 H3 X.xe I3 (stat fr3) st3 stop) fun r s4 z0=>?_)
    obtain ⟨hr,I4⟩:=z0
    subst hr
    exact wpAny_execs_nil ⟨σ3,H3,I4,qn⟩
  · refine wpAny_passesOwn hp (thn (T.item X rfl rfl rfl hc i pins s3 σ3 H3 X.xe I3 (stat fr3) st3 go) fun r s4 z0=>?_)
    obtain ⟨u,hr,h4⟩:=z0
    subst hr
    refine wpAny_passesOwn hp (thn h4 fun _ s5 z0=>?_)
    obtain ⟨x,H5,I5,r5,y5,st5,fr5⟩:=z0
    have I5':=I5.pinned (stat fr5) (T.obj _ _ st5)
    refine wpAny_passesOwn hp (thn (hg _ s5 σ3 H5 x u _ I5' r5 (step x H5 y5)) fun _ s6 z0=>?_)
    obtain ⟨σ6,H6,I6,q6⟩:=z0
    refine wpAny_passesOwn hp (thn (hb _ s6 σ6 H6 _ I6 q6) fun f s7 q7=>?_)
    have again:∀ {σ7:St} {H7:Hp},Inv X (pins ++ zHR fp s5.heap) σ7 H7 s7→N σ7 H7→∃ m,m < n∧∃ i σ' H',Inv X pins σ' H' s7∧tn i s7.heap∧(∀ b∈fp,H' b = none)∧W i m σ' H':=fun {σ7 H7} I7 n7=>by
      obtain ⟨m',hm,w7⟩:=hN σ7 H7 n7
      refine ⟨m',hm,i + 1,σ7,H7,I7.unpinned,T.keep _ _ _ st5 fun b hb o e=>(I7.pin (b,o) (qAw _ (qAw _ (zDU hb e)))).1,fun b hb=>?_,w7⟩
      obtain ⟨o,e,d⟩:=T.obj _ _ st5 b hb
      exact (I7.pin (b,o) (qAw _ (qAw _ (zDU hb e)))).2.1
    cases f with
    | next=>obtain ⟨σ7,H7,I7,n7⟩:=q7; exact again I7 n7
    | cont=>obtain ⟨σ7,H7,I7,n7⟩:=q7; exact again I7 n7
    | brk=>obtain ⟨σ7,H7,I7,q7⟩:=q7; exact ⟨σ7,H7,I7.unpinned,q7⟩
    | ret v=>obtain ⟨x7,σ7,H7,I7,r7,q7⟩:=q7; exact ⟨x7,σ7,H7,I7.unpinned,r7,q7⟩
end
end L2
namespace L2
open PySem PySem.Spec PyProof.Rows
abbrev R2:=V→V→Hp→VK→Prop
def OpR (X:Cx) (f:Value→Value→Sem Value) (r:R2):Prop :=
  ∀ (pins:List (Addr × Obj)) (s:Shared) (σ:St) (H:Hp) (x y:V) (v u:Value) (Q:VK),Inv X pins σ H s→RelV x v→RelV y u→r x y H Q →
    wpAny (model X.prog X.w) X.A (f v u) (EP X pins σ Q) X.xe s
def UnR (X:Cx) (f:Value→Sem Value) (r:V→Hp→VK→Prop):Prop :=
  ∀ (pins:List (Addr × Obj)) (s:Shared) (σ:St) (H:Hp) (x:V) (v:Value) (Q:VK),Inv X pins σ H s→RelV x v→r x H Q →
    wpAny (model X.prog X.w) X.A (f v) (EP X pins σ Q) X.xe s
def zDH (X:Cx) (f:Value) (r:List V→Hp→VK→Prop):Prop :=
  ∀ (pins:List (Addr × Obj)) (s:Shared) (σ:St) (H:Hp) (xs:List V) (us:List Value) (Q:VK),Inv X pins σ H s→Vals xs us→r xs H Q →
    wpAny (model X.prog X.w) X.A (call f us) (EP X pins σ Q) X.xe s
def TruR (X:Cx) (r:V→Hp→(Bool→Hp→Prop)→Prop):Prop :=
  ∀ (pins:List (Addr × Obj)) (s:Shared) (σ:St) (H:Hp) (x:V) (v:Value) (Q:Bool→Hp→Prop),Inv X pins σ H s→RelV x v→r x H Q →
    wpAny (model X.prog X.w) X.A (truthy v) (TP X pins σ Q) X.xe s
noncomputable def tOp (r:R2) (ta tb:TE):TE:=fun σ H Q=>ta σ H fun x H1=>tb σ H1 fun y H2=>r x y H2 Q
noncomputable def tUn (r:V→Hp→VK→Prop) (ta:TE):TE:=fun σ H Q=>ta σ H fun x H1=>r x H1 Q
noncomputable def rI (C:Int→Int→Prop) (g:Int→Int→V):R2:=fun x y H Q=>∃ i j,x = .int i∧y = .int j∧C i j∧Q (g i j) H
noncomputable def rI0 (g:Int→Int→V):R2:=fun x y H Q=>∃ i j,x = .int i∧y = .int j∧Q (g i j) H
def rU (g:Int→V):V→Hp→VK→Prop:=fun x H Q=>∃ i,x = .int i∧Q (g i) H
section
variable {X:Cx} {a b c:Expr} {ta tb tc:TE} {pos:Pos}
theorem binT (ha:PE X a ta) (hb:PE X b tb) {pins:List (Addr × Obj)} {s:Shared} {σ:St} {H:Hp} {R:V→V→Hp→Prop} (I:Inv X pins σ H s)
    (h:ta σ H fun x H1=>tb σ H1 fun y H2=>R x y H2) {Q:Value→Shared→Prop} {f:Value→Value→Sem Value}
    (hf:∀ v u s2 x y H2,Inv X pins σ H2 s2→RelV x v→RelV y u→R x y H2→wpAny (model X.prog X.w) X.A (f v u) Q X.xe s2) :
    wpAny (model X.prog X.w) X.A (eval a X.env) (fun v s₁=>wpAny (model X.prog X.w) X.A (eval b X.env) (fun u s₂=>wpAny (model X.prog X.w) X.A (f v u) Q X.xe s₂) X.xe s₁) X.xe s:=by
  refine thn (ha pins s σ H _ I h) fun v s1 z0=>?_
  obtain ⟨x,H1,I1,r1,q1⟩:=z0
  refine thn (hb pins s1 σ H1 _ I1 q1) fun u s2 z0=>?_
  obtain ⟨y,H2,I2,r2,q2⟩:=z0
  exact hf v u s2 x y H2 I2 r1 r2 q2
theorem zAT {op:Operator} {r:R2} (ho:OpR X (binaryOp op) r) (ha:PE X a ta) (hb:PE X b tb):PE X (.BinOp a op b pos) (tOp r ta tb):=by
  intro pins s σ H Q I h
  exact wpAny_BinOp (binT ha hb I h fun v u s2 x y H2 I2 rx ry q=>ho pins s2 σ H2 x y v u Q I2 rx ry q)
theorem zXM {op:UnaryOp} {r:V→Hp→VK→Prop} (ho:UnR X (unaryOp op) r) (ha:PE X a ta):PE X (.UnaryOp op a pos) (tUn r ta):=by
  intro pins s σ H Q I h
  exact UnaryOp_ (thn (ha pins s σ H _ I h) fun v s1 ⟨x,H1,I1,r1,q1⟩=>ho pins s1 σ H1 x v Q I1 r1 q1)
theorem opI {f:Value→Value→Sem Value} {C:Int→Int→Prop} {g:Int→Int→Int}
    (rule:∀ (i j:Int) (t u:Tok) (s:Shared) (Q:Value→Shared→Prop) (E:Value→Shared→Prop),C i j→Q (.int (g i j) s.toks) { s with toks:=s.toks + 1 }→wpAny (model X.prog X.w) X.A (f (.int i t) (.int j u)) Q E s) :
    OpR X f (rI C fun i j=>.int (g i j)):=by
  intro pins s σ H x y v u Q I rx ry h
  obtain ⟨i,j,rfl,rfl,hc,q⟩:=h
  obtain ⟨t,rfl⟩:=rx
  obtain ⟨t',rfl⟩:=ry
  exact rule i j t t' s _ _ hc ⟨.int (g i j),H,I.tok _,⟨_,rfl⟩,q⟩
theorem opI0 {f:Value→Value→Sem Value} {g:Int→Int→Int}
    (rule:∀ (i j:Int) (t u:Tok) (s:Shared) (Q:Value→Shared→Prop) (E:Value→Shared→Prop),Q (.int (g i j) s.toks) { s with toks:=s.toks + 1 }→wpAny (model X.prog X.w) X.A (f (.int i t) (.int j u)) Q E s) :
    OpR X f (rI0 fun i j=>.int (g i j)):=by
  intro pins s σ H x y v u Q I rx ry h
  obtain ⟨i,j,rfl,rfl,q⟩:=h
  obtain ⟨t,rfl⟩:=rx
  obtain ⟨t',rfl⟩:=ry
  exact rule i j t t' s _ _ ⟨.int (g i j),H,I.tok _,⟨_,rfl⟩,q⟩
theorem opB0 {f:Value→Value→Sem Value} {g:Int→Int→Bool}
    (rule:∀ (i j:Int) (t u:Tok) (s:Shared) (Q:Value→Shared→Prop) (E:Value→Shared→Prop),Q (.bool (g i j)) s→wpAny (model X.prog X.w) X.A (f (.int i t) (.int j u)) Q E s) :
    OpR X f (rI0 fun i j=>.bl (g i j)):=by
  intro pins s σ H x y v u Q I rx ry h
  obtain ⟨i,j,rfl,rfl,q⟩:=h
  obtain ⟨t,rfl⟩:=rx
  obtain ⟨t',rfl⟩:=ry
  exact rule i j t t' s _ _ ⟨.bl (g i j),H,I,rfl,q⟩
def CMul (i j:Int):Prop:=(-(2 ^ 64) < i∧i < 2 ^ 64)∨(-(2 ^ 64) < j∧j < 2 ^ 64)
theorem CMul.ok {i j:Int} (h:CMul i j):IntMulOk i j:=by
  rcases h with ⟨h1,h2⟩ | ⟨h1,h2⟩
  · exact .of_left (intBits_le_64 h1 h2)
  · exact .of_right (intBits_le_64 h1 h2)
theorem zXX:OpR X (binaryOp .Add) (rI0 fun i j=>.int (i + j)):=opI0 fun _ _ _ _ _ _ _ q=>add_int q
theorem zXR:OpR X (binaryOp .Sub) (rI0 fun i j=>.int (i - j)):=opI0 fun _ _ _ _ _ _ _ q=>sub_int q
theorem zXU:OpR X (binaryOp .Mod) (rI (fun _ j=>0 < j) fun i j=>.int (i % j)):=opI fun i j _ _ _ _ _ hc q=>by
  have h1:(0:Int) < j:=hc
  exact mod_int' (by omega) (by rw [Int.fmod_eq_emod_of_nonneg i (by omega)]; exact q)
theorem zXQ:OpR X (binaryOp .BitXor) (rI0 fun i j=>.int (Builtin.bitXor i j)):=opI0 fun _ _ _ _ _ _ _ q=>xor_int q
theorem unI {f:Value→Sem Value} {g:Int→Int}
    (rule:∀ (i:Int) (t:Tok) (s:Shared) (Q:Value→Shared→Prop) (E:Value→Shared→Prop),Q (.int (g i) s.toks) { s with toks:=s.toks + 1 }→wpAny (model X.prog X.w) X.A (f (.int i t)) Q E s) :
    UnR X f (rU fun i=>.int (g i)):=by
  intro pins s σ H x v Q I rx h
  obtain ⟨i,rfl,q⟩:=h
  obtain ⟨t,rfl⟩:=rx
  exact rule i t s _ _ ⟨.int (g i),H,I.tok _,⟨_,rfl⟩,q⟩
theorem zWJ:UnR X (unaryOp .USub) (rU fun i=>.int (-i)):=unI fun _ _ _ _ _ q=>neg_int q
end
noncomputable def scal:V→V→Bool
  | .non,.non=>true | .non,.int _=>true | .int _,.non=>true | .non,.bl _=>true | .bl _,.non=>true | .non,.str _=>true | .str _,.non=>true
  | .int _,.int _=>true | .bl _,.bl _=>true | .str _,.str _=>true | .byt _,.byt _=>true
  | .int _,.str _=>true | .str _,.int _=>true | .bl _,.str _=>true | .str _,.bl _=>true
  | _,_=>false
def rEq:R2:=fun x y H Q=>scal x y = true∧Q (.bl (decide (x = y))) H
def rNe:R2:=fun x y H Q=>scal x y = true∧Q (.bl (!decide (x = y))) H
theorem zRG {i j:Int}:decide (V.int i = V.int j) = (i == j):=by
  rw [qD6]
  simp
theorem dec_bl {i j:Bool}:decide (V.bl i = V.bl j) = (i == j):=by
  rw [qD6]
  simp
theorem zRF {i j:Str}:decide (V.str i = V.str j) = (i == j):=by
  rw [qD6]
  simp
theorem zRH {i j:Array UInt8}:decide (V.byt i = V.byt j) = (i.toList == j.toList):=by
  rw [qD6]
  cases i
  cases j
  simp
section
variable {X:Cx} {a b c:Expr} {ta tb tc:TE} {pos:Pos}
theorem fin_bl {pins:List (Addr × Obj)} {σ:St} {H:Hp} {s:Shared} {Q:VK} {k k':Bool} (I:Inv X pins σ H s) (q:Q (.bl k) H) (e:k = k'):EP X pins σ Q (.bool k') s:=by
  subst e
  exact ⟨.bl k,H,I,rfl,q⟩
theorem zZU:OpR X (compareOp .Eq) rEq:=by
  intro pins s σ H x y v u Q I rx ry h
  obtain ⟨hs,q⟩:=h
  cases x with
  | non =>
    cases rx
    cases y with
    | non=>cases ry; exact qGo (fin_bl I q (by simp))
    | bl j=>cases ry; exact qGp (fin_bl I q (by simp))
    | int j=>obtain ⟨t',rfl⟩:=ry; exact qH2 (fin_bl I q (by simp))
    | str j=>obtain ⟨t',rfl⟩:=ry; exact qH3 (fin_bl I q (by simp))
    | _=>exact absurd (show false = true from hs) qAg
  | bl i =>
    cases rx
    cases y with
    | non=>cases ry; exact qGq (fin_bl I q (by simp))
    | bl j=>cases ry; exact eq_bool (fin_bl I q dec_bl)
    | str j=>obtain ⟨t',rfl⟩:=ry; exact qGr (fin_bl I q (by simp))
    | _=>exact absurd (show false = true from hs) qAg
  | int i =>
    obtain ⟨t,rfl⟩:=rx
    cases y with
    | non=>cases ry; exact qH4 (fin_bl I q (by simp))
    | int j=>obtain ⟨t',rfl⟩:=ry; exact eq_int (fin_bl I q zRG)
    | str j=>obtain ⟨t',rfl⟩:=ry; exact qH5 (fin_bl I q (by simp))
    | _=>exact absurd (show false = true from hs) qAg
  | str i =>
    obtain ⟨t,rfl⟩:=rx
    cases y with
    | non=>cases ry; exact qH6 (fin_bl I q (by simp))
    | bl j=>cases ry; exact qGs (fin_bl I q (by simp))
    | int j=>obtain ⟨t',rfl⟩:=ry; exact qH7 (fin_bl I q (by simp))
    | str j=>obtain ⟨t',rfl⟩:=ry; exact eq_str (fin_bl I q zRF)
    | _=>exact absurd (show false = true from hs) qAg
  | byt i =>
    obtain ⟨t,rfl⟩:=rx
    cases y with
    | byt j=>obtain ⟨t',rfl⟩:=ry; exact PySem.W.eq_bytes (fin_bl I q zRH)
    | _=>exact absurd (show false = true from hs) qAg
  | _=>cases y <;> exact absurd (show false = true from hs) qAg
theorem zZR:OpR X (compareOp .NotEq) rNe:=by
  intro pins s σ H x y v u Q I rx ry h
  obtain ⟨hs,q⟩:=h
  cases x with
  | non =>
    cases rx
    cases y with
    | non=>cases ry; exact qGt (fin_bl I q (by simp))
    | bl j=>cases ry; exact qGu (fin_bl I q (by simp))
    | int j=>obtain ⟨t',rfl⟩:=ry; exact qH8 (fin_bl I q (by simp))
    | str j=>obtain ⟨t',rfl⟩:=ry; exact qH9 (fin_bl I q (by simp))
    | _=>exact absurd (show false = true from hs) qAg
  | bl i =>
    cases rx
    cases y with
    | non=>cases ry; exact qGv (fin_bl I q (by simp))
    | bl j=>cases ry; exact ne_bool (fin_bl I q (congrArg not dec_bl))
    | str j=>obtain ⟨t',rfl⟩:=ry; exact qGw (fin_bl I q (by simp))
    | _=>exact absurd (show false = true from hs) qAg
  | int i =>
    obtain ⟨t,rfl⟩:=rx
    cases y with
    | non=>cases ry; exact qHa (fin_bl I q (by simp))
    | int j=>obtain ⟨t',rfl⟩:=ry; exact ne_int (fin_bl I q (congrArg not zRG))
    | str j=>obtain ⟨t',rfl⟩:=ry; exact qHb (fin_bl I q (by simp))
    | _=>exact absurd (show false = true from hs) qAg
  | str i =>
    obtain ⟨t,rfl⟩:=rx
    cases y with
    | non=>cases ry; exact qHc (fin_bl I q (by simp))
    | bl j=>cases ry; exact qGx (fin_bl I q (by simp))
    | int j=>obtain ⟨t',rfl⟩:=ry; exact qHd (fin_bl I q (by simp))
    | str j=>obtain ⟨t',rfl⟩:=ry; exact ne_str (fin_bl I q (congrArg not zRF))
    | _=>exact absurd (show false = true from hs) qAg
  | byt i =>
    obtain ⟨t,rfl⟩:=rx
    cases y with
    | byt j=>obtain ⟨t',rfl⟩:=ry; exact PySem.W.ne_bytes (fin_bl I q (congrArg not zRH))
    | _=>exact absurd (show false = true from hs) qAg
  | _=>cases y <;> exact absurd (show false = true from hs) qAg
theorem zZS:OpR X (compareOp .Lt) (rI0 fun i j=>.bl (decide (i < j))):=opB0 fun _ _ _ _ _ _ _ q=>lt_int q
theorem zZT:OpR X (compareOp .Gt) (rI0 fun i j=>.bl (decide (j < i))):=opB0 fun _ _ _ _ _ _ _ q=>gt_int q
theorem zC6 (b:Expr) {op:CmpOp} (h:op≠.In:=by decide) (h2:op≠.NotIn:=by decide):behindInMarks op b = false:=by
  have e1:(op == CmpOp.In) = false:=by cases op <;> first | rfl | exact absurd rfl h
  have e2:(op == CmpOp.NotIn) = false:=by cases op <;> first | rfl | exact absurd rfl h2
  cases b <;> simp [behindInMarks,e1,e2]
theorem zM9 {op:CmpOp} {r:R2} (ho:OpR X (compareOp op) r) (ha:PE X a ta) (hb:PE X b tb) (hm:behindInMarks op b = false):PE X (.Compare a [op] [b] pos) (tOp r ta tb):=by
  intro pins s σ H Q I h
  exact wpAny_Compare1 (binT ha hb I h fun v u s2 x y H2 I2 rx ry q=>ho pins s2 σ H2 x y v u Q I2 rx ry q) hm
def TruV (K:qA2) (x:V) (H:Hp) (k:Bool):Prop :=
  match x with
  | .non=>k = false
  | .bl b=>k = b
  | .int i=>k = (i != 0)
  | .str y=>y.length≤sizeLine∧k = ((y.length:Int) != 0)
  | .byt y=>y.size≤sizeLine∧k = ((y.size:Int) != 0)
  | .ref p=>(∃ xs,SqL K H p xs∧k = !xs.isEmpty)∨(∃ xs,SqT K H p xs∧k = !xs.isEmpty)∨∃ kvs,H p = some (.dK kvs)∧k = !kvs.isEmpty
  | _=>False
theorem zOY {κ:Type} {kvs:List (κ × V)} {vs:List (κ × Value)} (r:KV kvs vs):(!vs.isEmpty) = !kvs.isEmpty:=by
  cases r <;> rfl
theorem zHV {xs:List V} {its:List Value} (r:Vals xs its):(!its.toArray.isEmpty) = !xs.isEmpty:=by
  cases r <;> simp
theorem zGQ:(sizeLine:Nat) < 2 ^ 63:=by rw [sizeLine_eq]; decide
theorem zWO:TruR X (fun x H Q=>∃ k,TruV X.K x H k∧Q k H):=by
  intro pins s σ H x v Q I rx h
  obtain ⟨k,e,q⟩:=h
  have hl:=zGQ
  have hs:sizeLine = 16777216:=sizeLine_eq
  cases x with
  | non =>
    cases rx
    have e':k = false:=e
    subst e'
    exact truthy_none ⟨H,I,q⟩
  | bl b =>
    cases rx
    have e':k = b:=e
    subst e'
    exact wpAny_truthy_bool ⟨H,I,q⟩
  | int i =>
    obtain ⟨t,rfl⟩:=rx
    have e':k = (i != 0):=e
    subst e'
    exact PySem.P.truthy_int ⟨H,I,q⟩
  | str y =>
    obtain ⟨t,rfl⟩:=rx
    obtain ⟨hy,e'⟩:y.length≤sizeLine∧k = ((y.length:Int) != 0):=e
    subst e'
    exact PySem.P.truthy_str (by omega) ⟨H,I.tok _,q⟩
  | byt y =>
    obtain ⟨t,rfl⟩:=rx
    obtain ⟨hy,e'⟩:y.size≤sizeLine∧k = ((y.size:Int) != 0):=e
    subst e'
    exact PySem.W.truthy_bytes (by omega) ⟨H,I.tok _,q⟩
  | ref p =>
    cases rx
    have e':(∃ xs,SqL X.K H p xs∧k = !xs.isEmpty)∨(∃ xs,SqT X.K H p xs∧k = !xs.isEmpty)∨∃ kvs,H p = some (.dK kvs)∧k = !kvs.isEmpty:=e
    rcases e' with ⟨xs,hx,e'⟩ | ⟨xs,hx,e'⟩ | ⟨kvs,hx,e'⟩
    · subst e'
      obtain ⟨its,r,pl,hz⟩:=I.list hx
      have hlen:=r.length
      exact wpAny_truthy_list pl.isList (by simp only [qAc]; omega) ⟨H,I.tok _,by rw [zHV r]; exact q⟩
    · subst e'
      obtain ⟨its,r,pl,hz⟩:=I.tuple hx
      have hlen:=r.length
      exact truthy_tuple pl (by simp only [qAc]; omega) ⟨H,I.tok _,by rw [zHV r]; exact q⟩
    · subst e'
      obtain ⟨hz,hS,vs,r,m⟩:kvs.length≤sizeLine∧(p == sysModules) = false∧∃ vs,KV kvs vs∧s.heap.DictOf (zBF X.prog X.w) p vs:=I.hok p _ hx
      have hlen:kvs.length = vs.length:=Paired.length r
      exact wpAny_truthy_dict hS m (by omega) ⟨H,I.tok _,by rw [zOY r]; exact q⟩
  | _=>exact (show False from e).elim
theorem zOQ:OpR X (binaryOp .Add) (fun x y H Q=>∃ i j,x = .str i∧y = .str j∧i.length + j.length≤sizeLine∧Q (.str (i ++ j)) H):=by
  intro pins s σ H x y v u Q I rx ry h
  obtain ⟨i,j,rfl,rfl,hz,q⟩:=h
  obtain ⟨t,rfl⟩:=rx
  obtain ⟨t',rfl⟩:=ry
  exact add_str (fun t' tk=>⟨.str (i ++ j),H,I.tok _,⟨_,rfl⟩,q⟩) hz
theorem zDF {x:V} {us:List Value} (r:Vals [x] us):∃ u,us = [u]∧RelV x u:=by
  cases r with
  | cons r1 r2=>cases r2; exact ⟨_,rfl,r1⟩
theorem zWG {x y:V} {us:List Value} (r:Vals [x,y] us):∃ u w',us = [u,w']∧RelV x u∧RelV y w':=by
  cases r with
  | cons r1 r2 =>
    cases r2 with
    | cons r3 r4=>cases r4; exact ⟨_,_,rfl,r1,r3⟩
theorem zRP:zDH X (.type "int") (fun xs H Q=>(∃ i,xs = [.int i]∧Q (.int i) H)∨∃ k,xs = [.bl k]∧Q (.int (if k then 1 else 0)) H):=by
  intro pins s σ H xs us Q I r h
  rcases h with ⟨i,rfl,q⟩ | ⟨k,rfl,q⟩
  · obtain ⟨u,rfl,t,rfl⟩:=zDF r
    exact call_int_int ⟨.int i,H,I,⟨_,rfl⟩,q⟩
  · obtain ⟨u,rfl,r1⟩:=zDF r
    cases r1
    exact call_int_bool ⟨.int (if k then 1 else 0),H,I.tok _,⟨_,rfl⟩,q⟩
end
end L2
namespace L2
open PySem PySem.Spec PyProof.Rows
structure ObjM (h:Heap) (x dx C:Addr) (mA:Str→Option Value):Prop where
  obj:h.get? x = some (qF2 C dx)
  ns:h.Ns1 dx mA
  ne:dx≠x
theorem zKU {h:Heap} {dx:Addr} {mA:Str→Option Value} (n:h.Ns1 dx mA):∃ od,h.get? dx = some od∧∀ name,qFg name od = some (mA name):=by
  obtain ⟨o,es,ep,ho,hd,hk,_,hm⟩:=n
  refine ⟨o,ho,fun name=>?_⟩
  have e:=hm name
  unfold nsFind findBy at e
  rw [← Array.find?_toList] at e
  unfold qFg
  rw [hd]
  dsimp only
  split
  · rename_i y q
    rw [q] at e
    exact congrArg some e
  · rename_i q
    rw [q] at e
    have a:es.toList.any (·.refKey) = false:=by
      rw [List.any_eq_false]
      intro y hy
      obtain ⟨z,t,hkey⟩:=hk y (Array.mem_toList_iff.mp hy)
      simp [DictEntry.refKey,hkey]
    have a':¬ es.toList.any (·.refKey) = true:=by rw [a]; exact qAg
    rw [if_neg a']
    exact congrArg some e
theorem ObjM.look {h:Heap} {x dx C:Addr} {mA:Str→Option Value} (I:ObjM h x dx C mA):∃ od,qGy h x (qF2 C dx) C (some od)∧∀ name,qFg name od = some (mA name) :=
  let ⟨od,ho,hl⟩:=zKU I.ns
  ⟨od,⟨I.obj,rfl,rfl,ho⟩,hl⟩
section
variable {prog:Program} {w:World} {A:Around} {E:Value→Shared→Prop} {s:Shared} {K:qA2} {x dx C f:Addr} {mA:Str→Option Value} {name:Str} {v:Value}
theorem zFK {expr:Bool} {Q:Value→Shared→Prop} (X:K.In s.heap) (I:ObjM s.heap x dx C mA) (hg:qEt K C name = true) (hh:qCc K C = true)
    (ha:qAm K (.ref C) name = some none) (hv:mA name = some v) (hv':qG6 v = true) (h:Q v { s with toks:=s.toks + 1 }) :
    wpAny (model prog w) A (getAttr (.ref x) name expr) Q E s:=by
  obtain ⟨od,J,hl⟩:=I.look
  exact PySem.W.get_value X J (PySem.W.plainGet_of hg).1 (PySem.W.findObj_own hh ha rfl (by rw [hl,hv])) hv' h
end
theorem RelO.some_of {v:V} {o:Option Value} (r:RelO (some v) o):∃ u,o = some u∧RelV v u:=by
  cases o with
  | none=>exact (show False from r).elim
  | some u=>exact ⟨u,rfl,r⟩
section
variable {P:Program} {w:World} {H H':Hp} {h h':Heap} {a C dx:Addr} {fs fs':List (Str × V)}
theorem zVP (hok:HOk P w H h) (e:H a = some (.ins C dx fs)):∃ mA,ObjM h a dx C mA∧(∀ f,RelO (fs.lookup f) (mA f))∧qHk mA (fs.map (·.1))∧fs.length≤1000∧H dx = some (.own a):=by
  obtain ⟨d,z,ne,ob,mA,n,r,q⟩:=(show ObjOk P w H h a (.ins C dx fs) from hok a _ e)
  exact ⟨mA,⟨ob,n,ne⟩,r,q,z,d⟩
end
structure Cls (K:qA2) (C:Addr):Prop where
  pg:qEt K C Str.empty = true
  hd:qCc K C = true
  po:PySem.W.plainOver K C = true
  sa:qAm K (.ref C) "__setattr__" = some (some (.builtin "object.__setattr__"))
theorem Cls.get {K:qA2} {C:Addr} (c:Cls K C) (f:Str):qEt K C f = true:=c.pg
def zU9 (K:qA2) (C:Addr) (f:Str):Prop:=qAm K (.ref C) f = some none
structure Con (K:qA2) (C:Addr) (f:Str) (v:V) (u:Value):Prop where
  at_:qAm K (.ref C) f = some (some u)
  rel:RelV v u
  get:qCu K u "__get__" = some none
  cp:PySem.W.copiedNames.contains f = false
structure Meth (K:qA2) (C:Addr) (m:Str) (f:Addr):Prop where
  at_:qAm K (.ref C) m = some (some (.ref f))
  fn:qG1 K (.ref f) = true
  kp:qB9 K (.ref f) = true
section
variable {X:Cx} {pins:List (Addr × Obj)} {σ:St} {H:Hp} {s:Shared} {a C dx:Addr} {fs:List (Str × V)} {f:Str} {v:V} {A:Around} {E:Value→Shared→Prop}
end
section
variable {X:Cx} {o e value:Expr} {f:Str} {pos pos' tpos:Pos} {ta tv:TE}
end
section
variable {X:Cx} {pins:List (Addr × Obj)} {σ:St} {H:Hp} {s:Shared} {A:Around} {E:Value→Shared→Prop} {Q:Value→Shared→Prop} {c:Value} {b:Bool}
inductive TyOf (K:qA2) (H:Hp):V→Value→Prop where
  | non:TyOf K H .non (.type "NoneType")
  | bl (x:Bool):TyOf K H (.bl x) (.type "bool")
  | int (i:Int):TyOf K H (.int i) (.type "int")
  | str (x:Str):TyOf K H (.str x) (.type "str")
  | flt (x:UInt64):TyOf K H (.flt x) (.type "float")
  | lst {a:Addr} {xs:List V} (e:H a = some (.lst xs)):TyOf K H (.ref a) (.type "list")
  | frz {a:Addr} {o:Obj} {xs:List V} (e:H a = some (.frz o (.lst xs))):TyOf K H (.ref a) (.type "list")
  | tup {a:Addr} {xs:List V} (e:H a = some (.tup xs)):TyOf K H (.ref a) (.type "tuple")
  | dK {a:Addr} {kvs:List (Key × V)} (e:H a = some (.dK kvs)):TyOf K H (.ref a) (.type "dict")
  | dT {a:Addr} {kvs:List (List Key × V)} (e:H a = some (.dT kvs)):TyOf K H (.ref a) (.type "dict")
  | ins {a C dx:Addr} {fs:List (Str × V)} (e:H a = some (.ins C dx fs)) (cl:Cls K C) (ha:qAm K (.ref C) "__class__" = some (some (.builtin "object.__class__")))
      (hn:qCu K (.builtin "object.__class__") "__get__" = some (some (.builtin "getset_descriptor.__get__"))) (htk:qF3 K (.builtin "object.__class__") = some true)
      (hm:qD7 K C (.type "object") = some true):TyOf K H (.ref a) (.ref C)
theorem zQU {x:V} {u t:Value} (I:Inv X pins σ H s) (rx:RelV x u) (ty:TyOf X.K H x t) (e:qBf X.K t c = some b) (h:∀ tk,Q (.bool b) { s with toks:=tk }) :
    wpAny (model X.prog X.w) A (call (.builtin "isinstance") [u,c]) Q E s:=by
  cases ty with
  | non=>cases (show u = Value.none from rx); exact qBa PySem.W.kitx_none I.kIn qCv e (fun z=>nomatch z) h
  | bl y=>cases (show u = Value.bool y from rx); exact qBa PySem.W.kitx_bool I.kIn qCv e (fun z=>nomatch z) h
  | int i=>obtain ⟨t,q⟩:=(show ∃ t,u = Value.int i t from rx); cases q; exact qBa PySem.W.kitx_int I.kIn qCv e (fun z=>nomatch z) h
  | str y=>obtain ⟨t,q⟩:=(show ∃ t,u = Value.str y t from rx); cases q; exact qBa PySem.W.kitx_str I.kIn qCv e (fun z=>nomatch z) h
  | flt y=>obtain ⟨t,q⟩:=(show ∃ t,u = Value.float y t from rx); cases q; exact qBa PySem.W.kitx_float I.kIn qCv e (fun z=>nomatch z) h
  | @lst a xs ea =>
    cases (show u = Value.ref a from rx)
    obtain ⟨_,_,n,_,h1⟩:=(show ObjOk X.prog X.w H s.heap a (.lst xs) from I.hok a _ ea)
    exact qBa qFr I.kIn ⟨_,h1,rfl⟩ e (fun z=>nomatch z) h
  | @frz a ob xs ea =>
    cases (show u = Value.ref a from rx)
    obtain ⟨_,_,_,n,_,h1⟩:=(show ObjOk X.prog X.w H s.heap a (.frz ob (.lst xs)) from I.hok a _ ea)
    exact qBa qFr I.kIn ⟨_,h1,rfl⟩ e (fun z=>nomatch z) h
  | @tup a xs ea =>
    cases (show u = Value.ref a from rx)
    obtain ⟨_,_,_,p⟩:=(show ObjOk X.prog X.w H s.heap a (.tup xs) from I.hok a _ ea)
    obtain ⟨o,h1,h2,_⟩:=p
    exact qBa PySem.W.kitx_tuple I.kIn ⟨o,h1,h2⟩ e (fun z=>nomatch z) h
  | @dK a kvs ea =>
    cases (show u = Value.ref a from rx)
    obtain ⟨_,_,vs,_,p⟩:=(show ObjOk X.prog X.w H s.heap a (.dK kvs) from I.hok a _ ea)
    obtain ⟨o,es,ep,h1,h2,_⟩:=p
    exact qBa qFs I.kIn ⟨o,h1,h2.1⟩ e (fun z=>nomatch z) h
  | @dT a kvs ea =>
    cases (show u = Value.ref a from rx)
    obtain ⟨_,_,xs,_,o,es,ep,h1,h2,_⟩:=(show ObjOk X.prog X.w H s.heap a (.dT kvs) from I.hok a _ ea)
    exact qBa qFs I.kIn ⟨o,h1,h2.1⟩ e (fun z=>nomatch z) h
  | @ins a C dx fs ea cl ha hn htk hm =>
    cases (show u = Value.ref a from rx)
    obtain ⟨mA,O,_⟩:=zVP I.hok ea
    obtain ⟨od,J,_⟩:=O.look
    exact qBa (PySem.W.kitx_own (cl.get _) cl.hd ha hn htk hm) I.kIn J e (fun z=>nomatch z) h
end
end L2
namespace L2
open PySem PySem.Spec PyProof.Rows
structure Room (k:Nat) (A:Around):Prop where
  hd:A.handled = none
  dp:A.depth + 3 * k + 5 < recursionLimit
  un:A.units + 16 * k + 200 < cLine
theorem Room.mono {j k:Nat} {A:Around} (r:Room k A) (h:j≤k):Room j A:=⟨r.hd,by have:=r.dp; omega,by have:=r.un; omega⟩
theorem Room.deeper {k:Nat} {A:Around} (r:Room (k + 1) A) (env:Env):Room k (A.deeper env) :=
  ⟨r.hd,by have:=r.dp; show A.depth + 1 + 3 * k + 5 < _; omega,by have:=r.un; show A.units + 3 + 16 * k + 200 < _; omega⟩
theorem Room.depth {k:Nat} {A:Around} (r:Room k A):A.depth < recursionLimit:=by have:=r.dp; omega
theorem Room.units {k:Nat} {A:Around} (r:Room k A):A.units + 64 < cLine:=by have:=r.un; omega
noncomputable def tNil:TA:=fun _ H Q=>Q [] H
noncomputable def zD8 (ta:TE) (tr:TA):TA:=fun σ H Q=>ta σ H fun x H1=>tr σ H1 fun xs H2=>Q (x :: xs) H2
section
variable {X:Cx} {e:Expr} {es:List Expr} {te:TE} {t:TA} {pos:Pos}
theorem zA4:PA X [] tNil:=fun _ _ _ _ H Q I h=>Calls.spliced_nil ⟨[],H,I,.nil,h⟩
theorem zA1 (ha:PE X e te) (hr:PA X es t) (hs:starEach (e :: es) X.env = (false,eval e X.env) :: starEach es X.env:=by rfl):PA X (e :: es) (zD8 te t):=by
  intro pos pins s σ H Q I h
  rw [hs]
  show wpAny _ _ (spliced ((false,eval e X.env) :: backTo pos (starEach es X.env))) _ _ s
  refine Calls.spliced_cons (thn (ha pins s σ H _ I h) fun u s1 z0=>?_)
  obtain ⟨x,H1,I1,r1,q1⟩:=z0
  exact thn (hr pos pins s1 σ H1 _ I1 q1) fun us s2 ⟨xs,H2,I2,r2,q2⟩=>⟨x :: xs,H2,I2,.cons r1 r2,q2⟩
def tTup (t:TA):TE:=fun σ H Q=>t σ H fun xs H1=>xs.length≤sizeLine∧∀ p,H1 p = none→Q (.ref p) (upd H1 p (.tup xs))
def tLst (t:TA):TE:=fun σ H Q=>t σ H fun xs H1=>xs.length≤sizeLine∧∀ p,H1 p = none→Q (.ref p) (upd H1 p (.lst xs))
theorem zTM {x1} (h:PA X es t):PE X (.Tuple es x1 pos) (tTup t):=by
  intro pins s σ H Q I hq
  refine wpAny_Tuple_spliced (thn (h pos pins s σ H _ I hq) fun us s1 ⟨xs,H1,I1,r,z,q⟩=>⟨by rw [← r.length]; exact z,?_⟩)
  have hf:H1 s1.heap.objs.size = none:=I1.hok.fresh (qAa _)
  refine ⟨.ref s1.heap.objs.size,upd H1 s1.heap.objs.size (.tup xs),I1.laid (t':=s1.toks) (fun b u e=>Heap.get?_push_of_some _ e) (qAa _) ?_,rfl,q _ hf⟩
  exact ⟨z,us,r,⟨_,Heap.get?_push_size _ rfl,rfl,_,rfl⟩⟩
theorem zC0 (h:PA X es t):PE X (.List es pos) (tLst t):=by
  intro pins s σ H Q I hq
  refine wpAny_List_spliced (thn (h pos pins s σ H _ I hq) fun us s1 ⟨xs,H1,I1,r,z,q⟩=>⟨by rw [← r.length]; exact z,?_⟩)
  have hf:H1 s1.heap.objs.size = none:=I1.hok.fresh (qAa _)
  refine ⟨.ref s1.heap.objs.size,upd H1 s1.heap.objs.size (.lst xs),I1.laid (t':=s1.toks) (fun b u e=>Heap.get?_push_of_some _ e) (qAa _) ?_,rfl,q _ hf⟩
  exact ⟨z,us,0,r,Heap.get?_push_size _ rfl⟩
end
abbrev Sp:=List V→Hp→VK→XK→Prop
abbrev CXT:=List Env→Hp→Shared→XK→Value→Shared→Prop
structure Env0 (P:Program) (w:World) (K:qA2) (mg:Str→Option Value) (base:Heap) (A:Around) (outer:List Env) (s:Shared) (H:Hp):Prop where
  frames:A.frames = some outer
  mod:Mod K mg base
  bs:∀ b o,base.get? b = some o→s.heap.get? b = some o∧H b = none
  bsz:base.objs.size≤s.heap.objs.size
  funs:s.heap.FunFrames base outer
  frf:∀ b∈frs outer,H b = none
  hok:HOk P w H s.heap
  bare:AllBare s.gens
def CE (outer:List Env) (P:Program) (w:World) (H:Hp) (s:Shared) (Q:VK) (u:Value) (s':Shared):Prop :=
  ∃ v H',s'.os = s.os∧AllBare s'.gens∧Un (frs outer) [] H H' s.heap s'.heap∧HOk P w H' s'.heap∧RelV v u∧Q v H'
def CR (CX:CXT) (outer:List Env) (P:Program) (w:World) (H:Hp) (s:Shared) (Q:VK) (E:XK) (r:Result) (s':Shared):Prop :=
  match r with
  | .ok (.ret u)=>CE outer P w H s Q u s'
  | .ok _=>False
  | .error e=>CX outer H s E e s'
structure FnOk (P:Program) (w:World) (K:qA2) (mg:Str→Option Value) (base:Heap) (CX:CXT) (k:Nat) (f:Addr) (fd:FuncData) (ps:List Str) (sp:Sp):Prop where
  len:∀ vs H Q E,sp vs H Q E→vs.length = ps.length
  run:∀ (A:Around) (outer:List Env) (s:Shared) (H:Hp) (args:Args) (us:List Value) (vs:List V) (Q:VK) (E:XK),Room k A→Env0 P w K mg base A outer s H→BindsTo s fd args (ps.zip us)→Vals vs us→sp vs H Q E →
    codeAny (model P w) A (.call (.ref f) args) (CR CX outer P w H s Q E) s
theorem FnOk.imp {P:Program} {w:World} {K:qA2} {mg:Str→Option Value} {base:Heap} {CX:CXT} {k:Nat} {f:Addr} {fd:FuncData} {ps:List Str} {sp sp':Sp} (F:FnOk P w K mg base CX k f fd ps sp)
    (h:∀ vs H Q E,sp' vs H Q E→sp vs H Q E):FnOk P w K mg base CX k f fd ps sp' :=
  ⟨fun vs H Q E q=>F.len vs H Q E (h _ _ _ _ q),fun A outer s H args us vs Q E hr he hb hv hs=>F.run A outer s H args us vs Q E hr he hb hv (h _ _ _ _ hs)⟩
section
variable {X:Cx} {pins:List (Addr × Obj)} {σ:St} {H:Hp} {s s':Shared}
theorem Inv.env0 (I:Inv X pins σ H s):Env0 X.prog X.w X.K X.mg X.base X.A X.stack s H :=
  ⟨I.ok.frames,I.ok.mod,I.bs,qAq I.ok.bsz I.sz,I.stack,I.stkFree,I.hok,I.bare⟩
theorem Inv.after {Q:VK} {u:Value} (I:Inv X pins σ H s) (h:CE X.stack X.prog X.w H s Q u s'):EP X pins σ Q u s':=by
  obtain ⟨v,H',os,bare,un,hok,r,q⟩:=h
  obtain ⟨hh,g,d,t,os'⟩:=s'
  obtain rfl:os' = s.os:=os
  exact ⟨v,H',I.call (h':=hh) (g':=g) (d':=d) (t':=t) (ch:=[]) un hok bare (fun b z=>absurd z (by simp)),r,q⟩
end
noncomputable def zHD (sp:Sp) (dvs:List V) (E:XK) (t:TA):TE:=fun σ H Q=>t σ H fun vs H1=>sp (vs ++ dvs) H1 Q E
def Binds (K:qA2) (fd:FuncData) (ps:List Str) (ds:List Value):Prop :=
  ∀ (s:Shared) (us:List Value),K.In s.heap→(us ++ ds).length = ps.length→BindsTo s fd ⟨us,[]⟩ (ps.zip (us ++ ds))
theorem Binds.all {K:qA2} {fd:FuncData} {ps:List Str} (h:∀ us:List Value,us.length = ps.length→bindArgs fd ⟨us,[]⟩ = pure (ps.zip us)):Binds K fd ps []:=fun s us _ hl=>by
  rw [qD8] at hl ⊢
  exact .of_eq (h us hl)
def zOC (CX:CXT) (X:Cx) (E:XK):Prop:=∀ (pins:List (Addr × Obj)) (σ:St) (H:Hp) (s:Shared) (e:Value) (s':Shared),Inv X pins σ H s→CX X.stack H s E e s'→X.xe e s'
section
variable {X:Cx} {CX:CXT} {k:Nat} {f C:Addr} {fd:FuncData} {ps:List Str} {sp:Sp} {dvs:List V} {ds:List Value} {E:XK} {x m:Str} {p pos apos:Pos} {e o:Expr} {es:List Expr} {ta:TE} {t:TA}
theorem zWY {pins:List (Addr × Obj)} {σ:St} {H:Hp} {s:Shared} {Q:VK} {us:List Value} {vs:List V} (F:FnOk X.prog X.w X.K X.mg X.base CX k f fd ps sp) (hr:Room k X.A) (hb:Binds X.K fd ps ds) (hd:Vals dvs ds) (hx:zOC CX X E)
    (I:Inv X pins σ H s) (r:Vals vs us) (h:sp (vs ++ dvs) H Q E):wpAny (model X.prog X.w) X.A (call (.ref f) us) (EP X pins σ Q) X.xe s:=by
  have r2:Vals (vs ++ dvs) (us ++ ds):=r.append hd
  have hl:(us ++ ds).length = ps.length:=by rw [← r2.length]; exact F.len _ _ _ _ h
  refine wpAny_call (codeAny_mono (F.run X.A X.stack s H ⟨us,[]⟩ (us ++ ds) (vs ++ dvs) Q E hr I.env0 (hb s us I.kIn hl) r2 h) fun r s' hq=>?_)
  cases r with
  | error e=>exact hx pins σ H s e s' I hq
  | ok fl =>
    cases fl with
    | ret u=>exact I.after hq
    | next=>exact qA5 hq
    | brk=>exact qA5 hq
    | cont=>exact qA5 hq
theorem zQ4 (F:FnOk X.prog X.w X.K X.mg X.base CX k f fd ps sp) (hr:Room k X.A) (hg:Gl X x) (hm:X.mg x = some (.ref f)) (hk:qB9 X.K (.ref f) = true) (hb:Binds X.K fd ps ds) (hd:Vals dvs ds) (hx:zOC CX X E)
    (ha:PA X (e :: es) t) (hdb:(x == ("__debug__":Str)) = false:=by decide) (he:starEach (e :: es) X.env = (false,eval e X.env) :: starEach es X.env:=by rfl) (hpl:(backTo pos (starEach es X.env)).any (·.1) = false:=by rfl) :
    PE X (.Call (.Name x p) (e :: es) [] pos) (zHD sp dvs E t):=by
  intro pins s σ H Q I h
  refine wpAny_Call_Name_kw (zFI I hg hm ?_ hdb)
  refine qEe (h₀:=X.base) I.ok.mod.kin hk (thn (ha pos pins s σ H _ I h) fun us s1 ⟨vs,H1,I1,r,q⟩=>⟨I1.kIn,?_⟩) he hpl
  exact zWY F hr hb hd hx I1 r q
structure Mk (K:qA2) (C f:Addr):Prop where
  makes:qGe K C = true
  init:qAm K (.ref C) "__init__" = some (some (.ref f))
  fn:qG1 K (.ref f) = true
  kp:qB9 K (.ref C) = true
end
section
variable {X:Cx} {CX:CXT} {k:Nat} {f C:Addr} {fd:FuncData} {ps ks:List Str} {sp:Sp} {E:XK} {x m:Str} {p pos apos kpos:Pos} {e o:Expr} {es:List Expr} {kws:List Keyword} {te ta:TE} {t tk:TA} {nm:Option Str}
structure KBinds (K:qA2) (fd:FuncData) (ps ks:List Str) (g:List Value→List Value→List Value) (gV:List V→List V→List V):Prop where
  to:∀ (s:Shared) (us ws:List Value),K.In s.heap→(g us ws).length = ps.length→BindsTo s fd ⟨us,ks.zip ws⟩ (ps.zip (g us ws))
  rel:∀ {vs:List V} {us:List Value} {zs:List V} {ws:List Value},Vals vs us→Vals zs ws→Vals (gV vs zs) (g us ws)
variable {g:List Value→List Value→List Value} {gV:List V→List V→List V}
end
structure FnScope (N P:List Str) (sc:Scope):Prop where
  kind:sc.kind = .function
  co:sc.isCoroutine = false
  gen:sc.isGenerator = false
  nd:N.Nodup
  pre:N.take P.length = P
  par:∀ x∈P,sc.names.lookup x = some .local∨sc.names.lookup x = some .cell
  nofree:∀ y∈sc.names,y.2≠.free
theorem zLG {kindOf:Str→Option NameKind} {x:Str}:∀ {binds:List (Str × Value)} {m:Str→Option Value},(∀ v,(x,v) ∉ binds)→bindL kindOf binds m x = m x
  | [],_,_=>rfl
  | (n,v) :: r,m,h=>by
    unfold bindL
    rw [zLG fun w hw=>h w (qAt _ hw)]
    split
    · have:x≠n:=by rintro rfl; exact h v qAz
      simp [this]
    · rfl
theorem zLI {kindOf:Str→Option NameKind} {x:Str}:∀ {binds:List (Str × Value)} {m:Str→Option Value},(∀ v,(x,v) ∉ binds)→bindC kindOf binds m x = m x
  | [],_,_=>rfl
  | (n,v) :: r,m,h=>by
    unfold bindC
    rw [zLI fun w hw=>h w (qAt _ hw)]
    split
    · rfl
    · have:x≠n:=by rintro rfl; exact h v qAz
      simp [this]
theorem zLH {kindOf:Str→Option NameKind} {x:Str} {v:Value}:∀ {P:List Str} {vs:List Value} {i:Nat} {m:Str→Option Value},P.Nodup→P[i]? = some x→vs[i]? = some v→kindOf x = some .local →
    bindL kindOf (P.zip vs) m x = some v
  | [],_,_,_,_,h,_,_=>by simp at h
  | _ :: _,[],_,_,_,_,h,_=>by simp at h
  | p :: P,w :: vs,0,m,nd,h1,h2,hk=>by
    simp at h1 h2; subst h1; subst h2
    show bindL kindOf ((p,w) :: P.zip vs) m p = _
    unfold bindL
    rw [zLG fun v hv=>(qBl.mp nd).1 (qEa hv).1,if_pos hk]
    simp
  | p :: P,w :: vs,i + 1,m,nd,h1,h2,hk=>by
    show bindL kindOf ((p,w) :: P.zip vs) m x = _
    unfold bindL
    exact zLH (i:=i) (qBl.mp nd).2 (by simpa using h1) (by simpa using h2) hk
theorem zLJ {kindOf:Str→Option NameKind} {x:Str} {v:Value}:∀ {P:List Str} {vs:List Value} {i:Nat} {m:Str→Option Value},P.Nodup→P[i]? = some x→vs[i]? = some v→kindOf x≠some .local →
    bindC kindOf (P.zip vs) m x = some v
  | [],_,_,_,_,h,_,_=>by simp at h
  | _ :: _,[],_,_,_,_,h,_=>by simp at h
  | p :: P,w :: vs,0,m,nd,h1,h2,hk=>by
    simp at h1 h2; subst h1; subst h2
    show bindC kindOf ((p,w) :: P.zip vs) m p = _
    unfold bindC
    rw [zLI fun v hv=>(qBl.mp nd).1 (qEa hv).1,if_neg hk]
    simp
  | p :: P,w :: vs,i + 1,m,nd,h1,h2,hk=>by
    show bindC kindOf ((p,w) :: P.zip vs) m x = _
    unfold bindC
    exact zLJ (i:=i) (qBl.mp nd).2 (by simpa using h1) (by simpa using h2) hk
noncomputable def start (N:List Str) (vs:List V):St:=vs.map some ++ qA8 (N.length - vs.length) none
noncomputable def cxOf (CX:CXT) (P:Program) (w:World) (K:qA2) (mg:Str→Option Value) (base:Heap) (N:List Str) (qual:Str) (scope:Scope) (f:Addr) (cd:Value) (A:Around) (outer:List Env) (s:Shared) (H:Hp) (E:XK):Cx where
  prog:=P
  w:=w
  K:=K
  mg:=mg
  base:=base
  A:=A.deeper (envOfC qual scope s.heap.objs.size f cd)
  N:=N
  s₀:=s
  H₀:=H
  env:=envOfC qual scope s.heap.objs.size f cd
  outer:=outer
  stack:=envOfC qual scope s.heap.objs.size f cd :: outer
  ex:=[]
  calm:=true
  fn:=fun _=>true
  pn:=[]
  xe:=fun e s'=>wpAny (model P w) (A.deeper (envOfC qual scope s.heap.objs.size f cd)) (leaving (envOfC qual scope s.heap.objs.size f cd) e) (fun _ s''=>CX outer H s E e s'') (fun e' s''=>CX outer H s E e' s'') s'
theorem zOA {sc:Scope} {n:Nat} {x:Str} (h:sc.names.lookup x = some .cell):∃ c,(cellsFrom n sc.names []).lookup x = some c:=by
  have q:=qDk sc.names n [] (.inl h)
  exact qD4.mp q
theorem zQV {CX:CXT} {P:Program} {w:World} {K:qA2} {mg:Str→Option Value} {base:Heap} {N ps:List Str} {qual:Str} {scope:Scope} {f:Addr} {cd:Value} {A:Around} {outer:List Env} {s s1:Shared} {H:Hp} {E:XK} {us:List Value} {vs:List V}
    (S:FnScope N ps scope) (hd:A.handled = none) (e0:Env0 P w K mg base A outer s H) (hl:vs.length = ps.length) (r:Vals vs us)
    (x:InCallC s s.heap.objs.size (bindL (envOfC qual scope s.heap.objs.size f cd).kindOf (ps.zip us) fun _=>none) (cellsFrom (s.heap.objs.size + 1) scope.names []) (bindC (envOfC qual scope s.heap.objs.size f cd).kindOf (ps.zip us) fun _=>none) s1) :
    Inv (cxOf CX P w K mg base N qual scope f cd A outer s H E) [] (start N vs) H s1:=by
  have hpl:ps.length≤N.length:=by have:=congrArg List.length S.pre; rw [qE1] at this; omega
  obtain ⟨h1,tk,rfl,hk⟩:=x.done
  have noA:∀ b:Addr,b ∉ (cxOf CX P w K mg base N qual scope f cd A outer s H E).ex:=fun b z=>absurd (show b∈([]:List Addr) from z) (by simp)
  refine ⟨⟨e0.mod,S.kind,rfl,rfl,qAa _,fun y z c h1 h2=>?_,fun y hy=>?_,fun y c _ h=>?_,fun _=>hd,Around.frames_deeper e0.frames,.inr ⟨rfl,rfl⟩,fun b z=>absurd z (noA b),e0.bs,e0.bsz,fun b _ _=>noA b,fun b z=>absurd z (noA b),e0.funs,e0.frf⟩,
    rfl,e0.bare,Un.kept hk,⟨_,x.toInCall.ns,fun i y v h1 h2 h3=>?_⟩,fun y c h=>⟨_,x.cell y c h⟩,e0.hok.fresh (qAa _),fun y c h=>?_,fun p hp=>absurd (show p∈([]:List (Addr × Obj)) from hp) (by simp),e0.hok.kept hk,?_⟩
  · exact name_of_addr x.apart (qCi h1) (qCi h2)
  · have hy:scope.names.lookup y = some .cell∨scope.names.lookup y = some .free:=hy
    rcases hy with hy | hy
    · exact zOA hy
    · exact absurd rfl (S.nofree _ (qCi hy))
  · exact qC9 (x.above y c (qCi h))
  · have hi:i < vs.length:=by
      unfold start at h2
      by_cases hi:i < vs.length
      · exact hi
      · rw [qA6 (by simpa using hi)] at h2
        rw [qBy] at h2
        split at h2 <;> cases h2
    have ha:vs[i]? = some v:=by
      unfold start at h2
      rw [qA7 (by simpa using hi),qAd] at h2
      cases e:vs[i]? with
      | none=>rw [e] at h2; cases h2
      | some a=>rw [e] at h2; cases h2; rfl
    obtain ⟨u,hu,rv⟩:=r.get ha
    have hp:ps[i]? = some y:=by
      rw [← S.pre,List.getElem?_take_of_lt (by omega)]; exact h1
    have ndP:ps.Nodup:=by rw [← S.pre]; exact S.nd.sublist (List.take_sublist _ _)
    refine ⟨u,rv,?_⟩
    rcases S.par y (qBx hp) with k | k
    · exact .inl ⟨k,zLH ndP hp hu k⟩
    · obtain ⟨c,e⟩:=zOA (n:=s.heap.objs.size + 1) k
      refine .inr ⟨.inl k,c,e,?_⟩
      have q:=x.cell y c e
      rw [zLJ ndP hp hu (by show scope.names.lookup y≠_; rw [k]; decide)] at q
      exact q
  · exact e0.hok.fresh (qC9 (x.above y c (qCi h)))
  · unfold start
    show _ = N.length
    rw [qAr,qAj,qCa]
    omega
theorem zYJ {CX:CXT} {P:Program} {w:World} {K:qA2} {mg:Str→Option Value} {base:Heap} {k:Nat} {f:Addr} {name qual:Str} {params:Arguments} {body:List Stmt} {scope:Scope} {dV kV doc pm cdv ct oc:Value} {an od:Option Addr}
    {osl:Array (Option Value)} {N ps:List Str} {sp:Sp} (lk:K.lookup f = some ⟨oc,od,.func (qBq name qual params body scope dV kV doc pm an cdv ct),osl⟩) (hcd:qDu K cdv qual = true) (S:FnScope N ps scope)
    (len:∀ vs H Q E,sp vs H Q E→vs.length = ps.length)
    (hbody:∀ (A:Around) (outer:List Env) (s:Shared) (H:Hp) (vs:List V) (Q:VK) (E:XK),Room k (A.deeper (envOfC qual scope s.heap.objs.size f cdv))→sp vs H Q E →
      ∃ t,PSs (cxOf CX P w K mg base N qual scope f cdv A outer s H E) body t∧t { nx:=fun _ H'=>Q .non H',rt:=Q } (start N vs) H) :
    FnOk P w K mg base CX (k + 1) f (qBq name qual params body scope dV kV doc pm an cdv ct) ps sp:=by
  refine ⟨len,fun A outer s H args us vs Q E hr e0 hb r hsp=>?_⟩
  have hl:=len _ _ _ _ hsp
  have KX:K.In s.heap:=e0.mod.kin.keeps fun b o e=>(e0.bs b o e).1
  have lim:s.heap.NoLimit:=e0.mod.nolimit.keeps fun b o e=>(e0.bs b o e).1
  have hkind:∀ y∈ps.zip us,scope.names.lookup y.1 = some .local∨(scope.names.lookup y.1 = some .cell∧((cellsFrom (s.heap.objs.size + 1) scope.names []).lookup y.1).isSome = true):=fun ⟨n,v⟩ hy=>by
    rcases S.par n (qEa hy).1 with q | q
    · exact .inl q
    · exact .inr ⟨q,qDk _ _ _ (.inl q)⟩
  refine codeAny_call_function hr.depth (KX _ _ lk) rfl S.co S.gen rfl (PySem.W.codeRec_of KX hcd) (hb _ _ _ _ ?_)
  refine wpAny_newFunctionEnv_cells S.kind hkind fun env he s1 x=>?_
  subst he
  refine ⟨lim.keeps x.toInCall.keep,codeAny_func ?_⟩
  obtain ⟨t,ht,hq⟩:=hbody A outer s H vs Q E (hr.deeper _) hsp
  have I:Inv (cxOf CX P w K mg base N qual scope f cdv A outer s H E) [] (start N vs) H s1:=zQV S hr.hd e0 hl r x
  refine wpAny_mono (ht [] s1 (start N vs) H _ I hq) (fun fl s' hs=>?_) fun e s' hs=>hs
  have fin:∀ {σ':St} {H':Hp} {v:V} {u:Value},Inv (cxOf CX P w K mg base N qual scope f cdv A outer s H E) [] σ' H' s'→RelV v u→Q v H'→CE outer P w H s Q u s' :=
    fun {σ' H' v u} J rv q=>⟨v,H',J.os,J.bare,J.base,J.hok,rv,q⟩
  cases fl with
  | ret u =>
    obtain ⟨v,σ',H',J,rv,q⟩:=hs
    exact fin J rv q
  | next =>
    obtain ⟨σ',H',J,q⟩:=hs
    exact fin (v:=V.non) (u:=Value.none) J rfl q
  | brk =>
    obtain ⟨_,_,_,q⟩:=hs
    exact qA5 q
  | cont =>
    obtain ⟨_,_,_,q⟩:=hs
    exact qA5 q
end L2
namespace L2
open PySem PySem.Spec PyProof.Rows
section
variable {X:Cx} {x:Str} {p pos:Pos} {e:Expr} {es:List Expr} {t:TA} {id T:String} {r:List V→Hp→VK→Prop}
noncomputable def tCB (r:List V→Hp→VK→Prop) (t:TA):TE:=fun σ H Q=>t σ H fun vs H1=>r vs H1 Q
theorem zAM (hc:zDH X (.builtin id) r) (hg:Gl X x) (hm:X.mg x = none) (hv:bootBuiltins x = some (.builtin id)) (ha:PA X (e :: es) t) (hn:x≠"__name__":=by decide) (hdb:(x == ("__debug__":Str)) = false:=by decide)
    (he:starEach (e :: es) X.env = (false,eval e X.env) :: starEach es X.env:=by rfl) (hpl:(backTo pos (starEach es X.env)).any (·.1) = false:=by rfl):PE X (.Call (.Name x p) (e :: es) [] pos) (tCB r t):=by
  intro pins s σ H Q I h
  refine wpAny_Call_Name_kw (zGS I hg hm hv ?_ hn hdb)
  exact qG2 (thn (ha pos pins s σ H _ I h) fun us s1 ⟨vs,H1,I1,r1,q1⟩=>hc pins s1 σ H1 vs us Q I1 r1 q1) he hpl
theorem zET (hc:zDH X (.type T) r) (hg:Gl X x) (hm:X.mg x = none) (hv:bootBuiltins x = some (.type T)) (ha:PA X (e :: es) t) (hn:x≠"__name__":=by decide) (hdb:(x == ("__debug__":Str)) = false:=by decide)
    (he:starEach (e :: es) X.env = (false,eval e X.env) :: starEach es X.env:=by rfl) (hpl:(backTo pos (starEach es X.env)).any (·.1) = false:=by rfl):PE X (.Call (.Name x p) (e :: es) [] pos) (tCB r t):=by
  intro pins s σ H Q I h
  refine wpAny_Call_Name_kw (zGS I hg hm hv ?_ hn hdb)
  exact qC6 (thn (ha pos pins s σ H _ I h) fun us s1 ⟨vs,H1,I1,r1,q1⟩=>hc pins s1 σ H1 vs us Q I1 r1 q1) he hpl
end
end L2
namespace HT
open PySem PyProof.Rows
section
open PySem.SeqAt
open PySem.AutoSeq1 (wpAny_loadPart')
open PySem.MeetsSeq PySem.MeetsSeq2 PySem.MeetsSeq3
end
section
variable {prog:Program} {w:World} {A:Around} {E:Value→Shared→Prop} {s:Shared}
noncomputable def sIx (n d:Nat):Option Int→Nat
  | none=>d
  | some v=>if v < 0 then (v + (n:Int)).toNat else min v.toNat n
end
end HT
namespace L2
open PySem PySem.Spec PyProof.Rows
abbrev TO:=St→Hp→(Option Int→Hp→Prop)→Prop
section
variable {X:Cx} {e:Expr} {te:TE} {lo hi:Option Expr} {tl th:TO} {pos p2:Pos}
def SlR (X:Cx) (r:V→Option Int→Option Int→Hp→VK→Prop):Prop :=
  ∀ (pins:List (Addr × Obj)) (s:Shared) (σ:St) (H:Hp) (x:V) (v vl vu:Value) (lo hi:Option Int) (sl:Addr) (Q:VK),Inv X pins σ H s→RelV x v→s.heap.IsSliceOf sl vl vu .none→IsPart vl lo→IsPart vu hi→r x lo hi H Q →
    ∃ T id,typeLookup (.type T) "__getitem__" = pure (some (.builtin id))∧s.TypeIs v T∧wpAny (model X.prog X.w) X.A (getItem v (.ref sl)) (EP X pins σ Q) X.xe s
def cutV (xs:List V) (lo hi:Option Int):List V:=(xs.drop (HT.sIx xs.length 0 lo)).take (HT.sIx xs.length xs.length hi - HT.sIx xs.length 0 lo)
theorem zMR (xs:List V) (lo hi:Option Int):(cutV xs lo hi).length≤xs.length:=by
  unfold cutV
  rw [qE1,List.length_drop]
  omega
end
end L2
namespace L2
open PySem PySem.Spec PyProof.Rows
noncomputable def ixN (n:Nat) (i:Int):Option Nat:=if 0≤i then (if i < n then some i.toNat else none) else if -(n:Int)≤i then some (i + n).toNat else none
def atI {α:Type} (xs:List α) (i:Int):Option α:=(ixN xs.length i).bind fun j=>xs[j]?
theorem zMJ {n:Nat} {i:Int} {j:Nat} (h:ixN n i = some j):seqIndex? i n = some j∧j < n∧-(n:Int)≤i∧i < n:=by
  unfold ixN at h
  by_cases h0:0≤i
  · rw [if_pos h0] at h
    by_cases h1:i < n
    · rw [if_pos h1] at h
      have e:i.toNat = j:=qB7 h
      exact ⟨by rw [seqIndex_of h0 h1,e],by omega,by omega,h1⟩
    · rw [if_neg h1] at h; cases h
  · rw [if_neg h0] at h
    by_cases h1:-(n:Int)≤i
    · rw [if_pos h1] at h
      have e:(i + n).toNat = j:=qB7 h
      exact ⟨by rw [seqIndex_neg (by omega) h1,e],by omega,h1,by omega⟩
    · rw [if_neg h1] at h; cases h
theorem zMY {α:Type} {xs:List α} {i:Int} {v:α} (h:atI xs i = some v):∃ j,seqIndex? i xs.length = some j∧xs[j]? = some v∧j < xs.length∧-(xs.length:Int)≤i∧i < xs.length:=by
  unfold atI at h
  cases e:ixN xs.length i with
  | none=>rw [e] at h; cases h
  | some j =>
    rw [e] at h
    obtain ⟨h1,h2,h3,h4⟩:=zMJ e
    exact ⟨j,h1,h,h2,h3,h4⟩
def zRV (b:Expr):Prop:=∀ o i,subscripted b false o i = operate [o,i] (getItem o i)
def IxR (X:Cx) (r:R2):Prop :=
  ∀ (value slice:Expr) (pins:List (Addr × Obj)) (s:Shared) (σ:St) (H:Hp) (x y:V) (v u:Value) (Q:VK),Inv X pins σ H s→RelV x v→RelV y u→r x y H Q →
    subscripted slice false v u = operate [v,u] (getItem v u)→wpAny (model X.prog X.w) X.A (subscriptTail value slice v u) (EP X pins σ Q) X.xe s
def MtR (X:Cx) (id:String) (r:V→List V→Hp→VK→Prop):Prop :=
  ∀ (pins:List (Addr × Obj)) (s:Shared) (σ:St) (H:Hp) (x:V) (xs:List V) (v:Value) (us:List Value) (Q:VK),Inv X pins σ H s→RelV x v→Vals xs us→r x xs H Q →
    wpAny (model X.prog X.w) X.A (call (.builtin id) (v :: us)) (EP X pins σ Q) X.xe s
section
variable {X:Cx} {a b:Expr} {ta tb:TE} {pos:Pos}
theorem zCJ {r:R2} (hr:IxR X r) (ha:PE X a ta) (hb:PE X b tb) (hs:zRV b):PE X (.Subscript a b pos) (tOp r ta tb):=by
  intro pins s σ H Q I h
  exact Subscript_ (binT ha hb I h fun v u s2 x y H2 I2 rx ry q=>hr a b pins s2 σ H2 x y v u Q I2 rx ry q (hs _ _))
def rIxL (K:qA2):R2:=fun x y H Q=>∃ p xs i v,x = .ref p∧y = .int i∧SqL K H p xs∧atI xs i = some v∧Q v H
def rIxT (K:qA2):R2:=fun x y H Q=>∃ p xs i v,x = .ref p∧y = .int i∧SqT K H p xs∧atI xs i = some v∧Q v H
def rIxS:R2:=fun x y H Q=>∃ z i c,x = .str z∧y = .int i∧z.length≤sizeLine∧atI z.cps.toList i = some c∧Q (.str ⟨#[c]⟩) H
theorem zVJ:IxR X (rIxL X.K):=by
  intro value slice pins s σ H x y v u Q I rx ry h hs
  obtain ⟨p,xs,i,z,rfl,rfl,hq,he,q⟩:=h
  cases rx
  obtain ⟨t,rfl⟩:=ry
  obtain ⟨its,r,pl,hz⟩:=I.list hq
  obtain ⟨j,h1,h2,h3,h4,h5⟩:=zMY he
  obtain ⟨w,ew,rw'⟩:=r.get h2
  have hl:=r.length
  have hn:=zGQ
  have fin:EP X pins σ Q w s:=⟨z,H,I,rw',q⟩
  by_cases h0:0≤i
  · have hj:i.toNat = j:=by
      rw [seqIndex_of h0 h5] at h1
      exact qB7 h1
    exact item_listR pl.isList h0 (by omega) (by rw [hj]; simpa using ew) fin hs
  · have hj:(i + (its.toArray.size:Int)).toNat = j:=by
      rw [seqIndex_neg (by omega) h4] at h1
      rw [qAc,← hl]
      exact qB7 h1
    exact subscriptTail_builtinR (x:=w) pl.isList.typeIs slot_list_getitem.lookup
      (wpAny_getItem_list_neg (Q:=fun r s'=>r = w∧EP X pins σ Q r s') pl.isList (by omega) (by rw [qAc] <;> omega) (by omega) (by rw [hj]; simpa using ew) ⟨rfl,fin⟩) hs
theorem zY8:IxR X (rIxT X.K):=by
  intro value slice pins s σ H x y v u Q I rx ry h hs
  obtain ⟨p,xs,i,z,rfl,rfl,hq,he,q⟩:=h
  cases rx
  obtain ⟨t,rfl⟩:=ry
  obtain ⟨its,r,pl,hz⟩:=I.tuple hq
  obtain ⟨j,h1,h2,h3,h4,h5⟩:=zMY he
  obtain ⟨w,ew,rw'⟩:=r.get h2
  have hl:=r.length
  have hn:=zGQ
  have fin:EP X pins σ Q w s:=⟨z,H,I,rw',q⟩
  exact subscriptTail_builtinR (x:=w) pl.typeIs slot_tuple_getitem.lookup
    (getItem_tuple (j:=j) (Q:=fun r s'=>r = w∧EP X pins σ Q r s') pl (by omega) (by omega) (by rw [qAc,← hl]; exact h1) (by simpa using ew) ⟨rfl,fin⟩) hs
theorem zY9:IxR X rIxS:=by
  intro value slice pins s σ H x y v u Q I rx ry h hs
  obtain ⟨z,i,c,rfl,rfl,hz,he,q⟩:=h
  obtain ⟨t,rfl⟩:=rx
  obtain ⟨t',rfl⟩:=ry
  obtain ⟨j,h1,h2,h3,h4,h5⟩:=zMY he
  have hl:z.cps.toList.length = z.length:=by simp [Str.length]
  rw [hl] at h1 h4 h5
  have hn:=zGQ
  exact tail_any (typeIs_str s z t) slot_str_getitem.lookup (getItem_str (c:=c) (by
    have e1:decide (i < -(2 ^ 63:Int)) = false:=decide_eq_false (by omega)
    have e2:decide (i ≥ 2 ^ 63) = false:=decide_eq_false (by omega)
    rw [e1,e2,qHh]) (by rw [h1]; simpa using h2) ⟨.str ⟨#[c]⟩,H,I.tok _,⟨_,rfl⟩,q⟩) hs
theorem zOT (its:List Value) (n j:Nat) (u:Value):Obj.mapSeq (·.setIfInBounds j u) { cls:=.type "list",data:=.seq its.toArray n } = { cls:=.type "list",data:=.seq (its.set j u).toArray n }:=by
  simp [Obj.mapSeq]
theorem Inv.lst {pins:List (Addr × Obj)} {σ:St} {H:Hp} {s:Shared} {p:Addr} {xs:List V} (I:Inv X pins σ H s) (h:H p = some (.lst xs)) :
    ∃ (its:List Value) (n:Nat),Vals xs its∧s.heap.get? p = some { cls:=.type "list",data:=.seq its.toArray n }∧xs.length≤sizeLine:=by
  obtain ⟨z,its,n,r,e⟩:=I.hok p _ h
  exact ⟨its,n,r,e,z⟩
theorem Inv.lstUpd {pins:List (Addr × Obj)} {σ:St} {H:Hp} {s:Shared} {p:Addr} {xs ys:List V} {its its':List Value} {n n':Nat} {f:Obj→Obj} (I:Inv X pins σ H s) (h:H p = some (.lst xs))
    (ho:s.heap.get? p = some { cls:=.type "list",data:=.seq its.toArray n }) (hf:f { cls:=.type "list",data:=.seq its.toArray n } = { cls:=.type "list",data:=.seq its'.toArray n' }) (r:Vals ys its') (hz:ys.length≤sizeLine) (t:Nat) :
    Inv X pins σ (upd H p (.lst ys)) { s with heap:=s.heap.update p f,toks:=t }:=by
  have e:(s.heap.update p f).get? p = some { cls:=.type "list",data:=.seq its'.toArray n' }:=by
    rw [Heap.get?_update_self f ho (by rw [hf] <;> rfl),hf]
  refine I.write (x:=p) (e:=p) (by rw [h]; trivial) (.inl rfl) (fun b u hb q=>(Heap.get?_update_other _ _ (qCh hb)).trans q) ⟨_,e⟩ ?_
  exact ⟨hz,its',n',r,e⟩
def zZM:V→V→V→Hp→(Hp→Prop)→Prop:=fun o i v H Q=>∃ p xs k j,o = .ref p∧i = .int k∧H p = some (.lst xs)∧ixN xs.length k = some j∧Q (upd H p (.lst (xs.set j v)))
theorem zS5:PSet X zZM:=by
  intro pins s σ H o i v ov iv u Q I ro ri rv h
  obtain ⟨p,xs,k,j,rfl,rfl,hp,hj,q⟩:=h
  cases ro
  obtain ⟨t,rfl⟩:=ri
  obtain ⟨its,n,r,ho,hz⟩:=I.lst hp
  obtain ⟨h1,h2,h3,h4⟩:=zMJ hj
  have hl:=r.length
  have hn:=zGQ
  have I':Inv X pins σ (upd H p (.lst (xs.set j v))) { s with heap:=s.heap.update p (Obj.mapSeq (·.setIfInBounds j u)) } :=
    I.lstUpd hp ho (zOT its n j u) (r.set rv j) (by rw [qEb]; exact hz) s.toks
  by_cases h0:0≤k
  · have hk:k.toNat = j:=by
      rw [seqIndex_of h0 h4] at h1
      exact qB7 h1
    exact PySem.W.ki_setAt ho h0 (by omega) (by rw [qAc,← hl]; exact h4) (by rw [hk]; exact ⟨_,I',q⟩)
  · have hk:(k + (its.toArray.size:Int)).toNat = j:=by
      rw [seqIndex_neg (by omega) h3] at h1
      rw [qAc,← hl]
      exact qB7 h1
    exact PySem.W.ki_setBack ho (by omega) (by rw [qAc,← hl]; exact h3) (by omega) (by rw [hk]; exact ⟨_,I',q⟩)
theorem zK3 (lo hi:Option Int) (n:Nat):(sliceBounds lo hi none n).1 = ((HT.sIx n 0 lo:Nat):Int)∧(sliceBounds lo hi none n).2.1 = ((HT.sIx n n hi:Nat):Int)∧(sliceBounds lo hi none n).2.2 = 1:=by
  refine ⟨?_,?_,rfl⟩
  · cases lo with
    | none=>simp [sliceBounds,HT.sIx]
    | some i =>
      simp only [sliceBounds,HT.sIx,qG7,show (1:Int) > 0 by decide,if_true]
      by_cases h:i < 0
      · simp only [h,if_true] <;> omega
      · simp only [h,if_false] <;> omega
  · cases hi with
    | none=>simp [sliceBounds,HT.sIx]
    | some i =>
      simp only [sliceBounds,HT.sIx,qG7,show (1:Int) > 0 by decide,if_true]
      by_cases h:i < 0
      · simp only [h,if_true] <;> omega
      · simp only [h,if_false] <;> omega
theorem zIB (its:List Value) (lo hi:Option Int):slicePick its.toArray lo hi none = ((its.drop (HT.sIx its.length 0 lo)).take (HT.sIx its.length its.length hi - HT.sIx its.length 0 lo)).toArray:=by
  obtain ⟨h1,h2,h3⟩:=zK3 lo hi its.toArray.size
  unfold slicePick
  rw [h1,h2,h3]
  simp only [sliceRange_one,pick_run,qAc] <;> rfl
def rSlL (K:qA2):V→Option Int→Option Int→Hp→VK→Prop:=fun x lo hi H Q=>∃ a xs,x = .ref a∧SqL K H a xs∧∀ p,H p = none→Q (.ref p) (upd H p (.lst (cutV xs lo hi)))
theorem sl_list:SlR X (rSlL X.K):=by
  intro pins s σ H x v vl vu lo hi sl Q I rx hs pl pu h
  obtain ⟨a,xs,rfl,hx,q⟩:=h
  cases rx
  obtain ⟨its,r,ht,hz⟩:=I.list hx
  have hlen:=r.length
  refine ⟨"list",_,slot_list_getitem.lookup,ht.isList.typeIs,?_⟩
  refine wpAny_getItem_list_slice ht.isList hs pl pu .none (by simp) ?_ (by rw [qAc] <;> omega)
  rw [zIB,← hlen]
  refine ⟨.ref s.heap.objs.size,_,I.laid (t':=s.toks) (o:=.lst (cutV xs lo hi)) (fun b ob q=>Heap.get?_push_of_some _ q) (qAa _) ?_,rfl,q _ (I.hok.fresh (qAa _))⟩
  exact ⟨qAq (zMR xs lo hi) hz,_,0,(r.drop (HT.sIx xs.length 0 lo)).take (HT.sIx xs.length xs.length hi - HT.sIx xs.length 0 lo),Heap.get?_push_size _ rfl⟩
noncomputable def zCZ:V→Bool
  | .non=>true
  | .bl _=>true
  | .int _=>true
  | .str _=>true
  | _=>false
noncomputable def eqV:V→V→Bool
  | .non,.non=>true
  | .bl a,.bl b=>a == b
  | .bl a,.int b=>(if a then 1 else 0) == b
  | .int a,.bl b=>a == (if b then 1 else 0)
  | .int a,.int b=>a == b
  | .str a,.str b=>a == b
  | _,_=>false
theorem zU2 {A:Around} {s:Shared} {y x:V} {u v:Value} (ry:RelV y u) (rx:RelV x v) (fy:zCZ y = true) (fx:zCZ x = true):SeqAt.EqAt A s u v (eqV y x):=by
  cases y with
  | non =>
    cases ry
    cases x with
    | non=>cases rx; exact SeqAt.EqAt.same _
    | bl b=>cases rx; exact SeqAt.EqAt.none_bool b
    | int b=>obtain ⟨t,rfl⟩:=rx; exact SeqAt.EqAt.none_int b t
    | str b=>obtain ⟨t,rfl⟩:=rx; exact SeqAt.EqAt.none_str b t
    | _=>exact absurd (show false = true from fx) qAg
  | bl a =>
    cases ry
    cases x with
    | non=>cases rx; exact SeqAt.EqAt.bool_none a
    | bl b=>cases rx; exact SeqAt.EqAt.bool_bool a b
    | int b=>obtain ⟨t,rfl⟩:=rx; exact SeqAt.EqAt.bool_int a b t
    | str b=>obtain ⟨t,rfl⟩:=rx; exact SeqAt.EqAt.bool_str a b t
    | _=>exact absurd (show false = true from fx) qAg
  | int a =>
    obtain ⟨t',rfl⟩:=ry
    cases x with
    | non=>cases rx; exact SeqAt.EqAt.int_none a t'
    | bl b=>cases rx; exact SeqAt.EqAt.int_bool a t' b
    | int b=>obtain ⟨t,rfl⟩:=rx; exact SeqAt.EqAt.int_int a t' b t
    | str b=>obtain ⟨t,rfl⟩:=rx; exact SeqAt.EqAt.int_str a t' b t
    | _=>exact absurd (show false = true from fx) qAg
  | str a =>
    obtain ⟨t',rfl⟩:=ry
    cases x with
    | non=>cases rx; exact SeqAt.EqAt.str_none a t'
    | bl b=>cases rx; exact SeqAt.EqAt.str_bool a t' b
    | int b=>obtain ⟨t,rfl⟩:=rx; exact SeqAt.EqAt.str_int a t' b t
    | str b=>obtain ⟨t,rfl⟩:=rx; exact SeqAt.EqAt.str_str a t' b t
    | _=>exact absurd (show false = true from fx) qAg
  | _=>exact absurd (show false = true from fy) qAg
def eqU (x:V) (u:Value):Bool:=match u with
  | .none=>eqV .non x
  | .bool b=>eqV (.bl b) x
  | .int i _=>eqV (.int i) x
  | .str z _=>eqV (.str z) x
  | _=>false
theorem zNX {x y:V} {u:Value} (r:RelV y u) (f:zCZ y = true):eqU x u = eqV y x:=by
  cases y with
  | non=>cases r; rfl
  | bl b=>cases r; rfl
  | int i=>obtain ⟨t,rfl⟩:=r; rfl
  | str z=>obtain ⟨t,rfl⟩:=r; rfl
  | _=>exact absurd (show false = true from f) qAg
theorem zMZ {x:V}:∀ {xs:List V} {us:List Value},Vals xs us→xs.all zCZ = true→us.any (eqU x) = xs.any fun y=>eqV y x
  | _,_,.nil,_=>rfl
  | y :: xs,u :: us,.cons r t,f=>by
    rw [qBz,qBb] at f
    rw [qCj,qCj,zNX r f.1,zMZ t f.2]
theorem zEX {A:Around} {s:Shared} {x:V} {v:Value} (rx:RelV x v) (fx:zCZ x = true):∀ {xs:List V} {us:List Value},Vals xs us→xs.all zCZ = true→∀ u∈us,SeqAt.EqAt A s u v (eqU x u)
  | _,_,.nil,_=>fun u hu=>by cases hu
  | y :: xs,u :: us,.cons r t,f=>fun u' hu=>by
    rw [qBz,qBb] at f
    rcases qAb.mp hu with rfl | hu
    · rw [zNX r f.1]; exact zU2 r rx f.1 fx
    · exact zEX rx fx t f.2 u' hu
def inV (x:V) (xs:List V):Bool:=xs.any fun y=>eqV y x
def rIn (K:qA2) (neg:Bool):R2:=fun x y H Q=>∃ p xs,y = .ref p∧(SqL K H p xs∨SqT K H p xs)∧zCZ x = true∧xs.all zCZ = true∧Q (.bl (if neg then !inV x xs else inV x xs)) H
theorem zKH:OpR X (compareOp .NotIn) (rIn X.K true):=by
  intro pins s σ H x y v u Q I rx ry h
  obtain ⟨p,xs,rfl,hq,fx,fs,q⟩:=h
  cases ry
  rcases hq with hq | hq
  · obtain ⟨its,r,pl,hz⟩:=I.list hq
    refine SeqAt.notIn_listAt (eqU x) pl.isList (fun w hw=>zEX rx fx r fs w (by simpa using hw)) ⟨.bl _,H,I,rfl,?_⟩
    rw [show its.toArray.any (eqU x) = its.any (eqU x) by simp,zMZ r fs]
    exact q
  · obtain ⟨its,r,pl,hz⟩:=I.tuple hq
    refine SeqAt.notIn_tupleAt (eqU x) pl (fun w hw=>zEX rx fx r fs w (by simpa using hw)) ⟨.bl _,H,I,rfl,?_⟩
    rw [show its.toArray.any (eqU x) = its.any (eqU x) by simp,zMZ r fs]
    exact q
theorem zKG:OpR X (compareOp .NotIn) (fun x y H Q=>∃ i j,x = .str i∧y = .str j∧Q (.bl (!(!(Builtin.Str.occurrences j i 0 j.length 1).isEmpty))) H):=by
  intro pins s σ H x y v u Q I rx ry h
  obtain ⟨i,j,rfl,rfl,q⟩:=h
  obtain ⟨t,rfl⟩:=rx
  obtain ⟨t',rfl⟩:=ry
  exact notIn_str ⟨.bl _,H,I,rfl,q⟩
theorem zLD:zDH X (.builtin "len") (fun xs H Q=>∃ p ys,xs = [.ref p]∧(SqL X.K H p ys∨SqT X.K H p ys)∧Q (.int ys.length) H):=by
  intro pins s σ H xs us Q I r h
  obtain ⟨p,ys,rfl,hq,q⟩:=h
  obtain ⟨u,rfl,rx⟩:=zDF r
  cases rx
  have hn:=zGQ
  rcases hq with hq | hq
  · obtain ⟨its,r',pl,hz⟩:=I.list hq
    have hlen:=r'.length
    exact Calls.call_len_list pl.isList (by simp only [qAc] <;> omega) ⟨.int ys.length,H,I.tok _,⟨s.toks + 1,by rw [qAc,hlen]⟩,q⟩
  · obtain ⟨its,r',pl,hz⟩:=I.tuple hq
    have hlen:=r'.length
    exact len_tuple pl (by simp only [qAc] <;> omega) ⟨.int ys.length,H,I.tok _,⟨s.toks + 1,by rw [qAc,hlen]⟩,q⟩
theorem zLC:zDH X (.builtin "len") (fun xs H Q=>∃ z,xs = [.str z]∧z.length≤sizeLine∧Q (.int z.length) H):=by
  intro pins s σ H xs us Q I r h
  obtain ⟨z,rfl,hz,q⟩:=h
  obtain ⟨u,rfl,t,rfl⟩:=zDF r
  have hn:=zGQ
  exact len_str (by omega) ⟨.int z.length,H,I.tok _,⟨_,rfl⟩,q⟩
theorem zLB:zDH X (.type "list") (fun xs H Q=>∃ p ys,xs = [.ref p]∧(SqL X.K H p ys∨SqT X.K H p ys)∧∀ l,H l = none→Q (.ref l) (upd H l (.lst ys))):=by
  intro pins s σ H xs us Q I r h
  obtain ⟨p,ys,rfl,hq,q⟩:=h
  obtain ⟨u,rfl,rx⟩:=zDF r
  cases rx
  have fin:∀ (its:List Value),Vals ys its→ys.length≤sizeLine→∀ (h':Heap) (c':Nat),(∀ b o',s.heap.get? b = some o'→h'.get? b = some o') →
      h'.get? s.heap.objs.size = some { cls:=.type "list",dict:=none,data:=.seq its.toArray c',slots:=#[] }→EP X pins σ Q (.ref s.heap.objs.size) { s with heap:=h' }:=fun its r' hz h' c' kp e =>
    ⟨.ref s.heap.objs.size,_,I.laid (t':=s.toks) kp (qAa _) (show ObjOk X.prog X.w _ h' _ (.lst ys) from ⟨hz,its,c',r',e⟩),rfl,q _ (I.hok.fresh (qAa _))⟩
  rcases hq with hq | hq
  · obtain ⟨its,r',pl,hz⟩:=I.list hq
    have hlen:=r'.length
    obtain ⟨o,ho,hc,n,hd⟩:=pl.isList
    exact call_list_seq p (.inl rfl) ho hc hd (fun h' c' kp e=>fin its r' hz h' c' kp e) (by simp only [qAc] <;> omega)
  · obtain ⟨its,r',pl,hz⟩:=I.tuple hq
    have hlen:=r'.length
    obtain ⟨o,ho,hc,n,hd⟩:=pl
    exact call_list_seq p (.inr rfl) ho hc hd (fun h' c' kp e=>fin its r' hz h' c' kp e) (by simp only [qAc] <;> omega)
def tyV (K:qA2) (T:String) (x:V) (H:Hp):Prop:=match x with
  | .str _=>T = "str"
  | .int _=>T = "int"
  | .ref p=>(T = "list"∧∃ xs,SqL K H p xs)∨(T = "tuple"∧∃ o,K.lookup p = some o∧o.cls = .type "tuple"∧o.dict = none) ∨
      (T = "dict"∧((∃ kvs,H p = some (.dK kvs))∨∃ kvs,H p = some (.dT kvs)))∨(T = "set"∧∃ S n,H p = some (.set S n))
  | _=>False
theorem zTD {pins:List (Addr × Obj)} {σ:St} {H:Hp} {s:Shared} {T:String} {x:V} {v:Value} (I:Inv X pins σ H s) (r:RelV x v) (ty:tyV X.K T x H) :
    s.TypeIs v T∧∀ a,v = .ref a→∃ ob,s.heap.get? a = some ob∧ob.dict = none:=by
  cases x with
  | str z =>
    obtain ⟨t,rfl⟩:=r
    cases (show T = "str" from ty)
    exact ⟨typeIs_str s z t,fun _ e=>nomatch e⟩
  | int i =>
    obtain ⟨t,rfl⟩:=r
    cases (show T = "int" from ty)
    exact ⟨typeIs_int s i t,fun _ e=>nomatch e⟩
  | ref p =>
    cases r
    rcases ty with ⟨rfl,xs,hq⟩ | ⟨rfl,o,hk,hc,hd⟩ | ⟨rfl,hk⟩ | ⟨rfl,S,n,hk⟩
    · obtain ⟨its,_,pl,_⟩:=I.list hq
      refine ⟨pl.isList.typeIs,fun a e=>?_⟩
      cases e
      obtain ⟨o,n,e,c,hd,_⟩:=pl
      exact ⟨o,e,hd⟩
    · refine ⟨⟨o,I.kIn p o hk,hc⟩,fun a e=>?_⟩
      cases e
      exact ⟨o,I.kIn _ o hk,hd⟩
    · have z:∃ o,s.heap.get? p = some o∧o.ExactDict:=by
        rcases hk with ⟨kvs,hk⟩ | ⟨kvs,hk⟩
        · obtain ⟨_,_,_,_,o,_,_,e,ex,_⟩:=I.hok p _ hk
          exact ⟨o,e,ex⟩
        · obtain ⟨_,_,_,_,o,_,_,e,ex,_⟩:=I.hok p _ hk
          exact ⟨o,e,ex⟩
      obtain ⟨o,e,ex⟩:=z
      refine ⟨⟨o,e,ex.1⟩,fun a e2=>?_⟩
      cases e2
      exact ⟨o,e,ex.2.1⟩
    · obtain ⟨o,_,_,_,e,ex,_⟩:=I.hok p _ hk
      refine ⟨⟨o,e,ex.1⟩,fun a e2=>?_⟩
      cases e2
      exact ⟨o,e,ex.2.1⟩
  | _=>exact qA5 ty
noncomputable def tBM (K:qA2) (T:String) (r:V→List V→Hp→VK→Prop) (to:TE) (t:TA):TE:=fun σ H Q=>to σ H fun x H1=>tyV K T x H1∧t σ H1 fun xs H2=>r x xs H2 Q
variable {o e:Expr} {es:List Expr} {to:TE} {t:TA} {name:Str} {apos cpos:Pos} {T id:String} {r:V→List V→Hp→VK→Prop}
theorem zHG (pa:PlainAttrs T) (slot:Slot T name id) (hty:typeOf (.builtin id) = pure (.type "method_descriptor")) (hm:MtR X id r) (ho:PE X o to) (ha:PA X (e :: es) t)
    (hbase:attributeBase o name X.env (eval o X.env) = eval o X.env:=by rfl)
    (hfew:((backTo cpos (starEach (e :: es) X.env)).all (fun x=>!x.1) && (backToKw cpos (keywordEach [] X.env)).all (fun x=>x.1.isSome)
      && decide ((e :: es).length + ([]:List Keyword).length + (if ([]:List Keyword).isEmpty then 0 else 1) < 30)) = true:=by rfl)
    (hline:(apos.endLine == cpos.line) = true:=by rfl) (hs:starEach (e :: es) X.env = (false,eval e X.env) :: starEach es X.env:=by rfl) (hplain:(backTo cpos (starEach es X.env)).any (·.1) = false:=by rfl) :
    PE X (.Call (.Attribute o name apos) (e :: es) [] cpos) (tBM X.K T r to t):=by
  intro pins s σ H Q I h
  refine wpAny_Call_method_late hbase hfew hline rfl (thn (ho pins s σ H _ I h) fun v s1 z0=>?_)
  obtain ⟨x,H1,I1,r1,ty,q1⟩:=z0
  obtain ⟨h1,h2⟩:=zTD I1 r1 ty
  refine ⟨T,id,pa,slot,hty,h1,h2,?_⟩
  have hA:=ha cpos pins s1 σ H1 _ I1 q1
  rw [hs] at hA ⊢
  refine Calls.callWith_builtin (by show (false || (backTo cpos (starEach es X.env)).any (·.1)) = false; rw [hplain] <;> rfl) (Calls.evalArgs_plain ?_)
  exact thn hA fun us s2 ⟨vs,H2,I2,r2,q2⟩=>hm pins s2 σ H2 x vs v us Q I2 r1 r2 q2
end
end L2
namespace L2
open PySem PySem.Spec PyProof.Rows
def MtM (X:Cx) (id:String) (r:V→List V→Hp→VK→Prop):Prop :=
  ∀ (pins:List (Addr × Obj)) (s:Shared) (σ:St) (H:Hp) (x:V) (xs:List V) (v:Value) (us:List Value) (Q:VK),Inv X pins σ H s→RelV x v→Vals xs us→r x xs H Q →
    wpAny (model X.prog X.w) X.A (call (.builtin id) (v :: us)) (EP X pins σ Q) X.xe s
theorem Vals.one:∀ {x:V} {us:List Value},Vals [x] us→∃ u,us = [u]∧RelV x u
  | _,_,.cons r .nil=>⟨_,rfl,r⟩
theorem Vals.zero:∀ {us:List Value},Vals [] us→us = []
  | _,.nil=>rfl
theorem Vals.dropLast {xs:List V} {us:List Value} (h:Vals xs us):Vals xs.dropLast us.dropLast:=by
  induction h with
  | nil=>exact .nil
  | cons r t ih =>
    cases t with
    | nil=>exact .nil
    | cons q t'=>exact .cons r ih
theorem Vals.eraseIdx:∀ {xs:List V} {us:List Value} (i:Nat),Vals xs us→Vals (xs.eraseIdx i) (us.eraseIdx i)
  | _,_,_,.nil=>.nil
  | _,_,0,.cons _ t=>t
  | _,_,i + 1,.cons r t=>.cons r (Vals.eraseIdx i t)
theorem Vals.rep {xs:List V} {us:List Value} (h:Vals xs us):∀ k:Nat,Vals (qA8 k xs).flatten (qA8 k us).flatten
  | 0=>.nil
  | k + 1=>by
    rw [qBg,qBg,qAy,qAy]
    exact Vals.append h (Vals.rep h k)
theorem zP0 {α:Type} (l:List α):l.eraseIdx (l.length - 1) = l.dropLast:=by
  induction l with
  | nil=>rfl
  | cons a r ih =>
    cases r with
    | nil=>rfl
    | cons b r =>
      have e:(a :: b :: r).length - 1 = ((b :: r).length - 1) + 1:=by
        have h1:(a :: b :: r).length = r.length + 2:=rfl
        have h2:(b :: r).length = r.length + 1:=rfl
        omega
      rw [e,qC0,ih]
      all_goals rfl
theorem zGR {α:Type}:∀ (l:List α) (i:Nat),(l.eraseIdx i).length≤l.length
  | [],_=>qAa _
  | _ :: _,0=>qBv _
  | _ :: r,i + 1=>qG8 (zGR r i)
theorem zL2 (its:List Value):∀ (k:Nat) (acc:List Value),
    qHe (fun x1 x2=>x1 ++ x2) acc.toArray (qA8 k its.toArray) = (acc ++ (qA8 k its).flatten).toArray
  | 0,acc=>by simp
  | k + 1,acc=>by
    have e:acc.toArray ++ its.toArray = (acc ++ its).toArray:=by simp
    have e2:(acc ++ its) ++ (qA8 k its).flatten = acc ++ (qA8 (k + 1) its).flatten:=by
      rw [qBg,qAy,qBh]
    rw [← e2,← zL2 its k (acc ++ its),← e,qBg,qD9]
section
variable {X:Cx} {pins:List (Addr × Obj)} {σ:St} {H:Hp} {s:Shared} {l b:Addr} {xs ys zs:List V}
theorem Inv.lset {its its':List Value} {n:Nat} {f:Array Value→Array Value} {t':Nat} (I:Inv X pins σ H s) (hH:H l = some (.lst xs))
    (e:s.heap.get? l = some { cls:=.type "list",data:=.seq its.toArray n }) (hf:f its.toArray = its'.toArray) (hv:Vals ys its') (hz:ys.length≤sizeLine) :
    Inv X pins σ (upd H l (.lst ys)) { s with heap:=s.heap.update l (Obj.mapSeq f),toks:=t' }:=by
  have q:=PySem.IsL.update e f
  rw [hf] at q
  refine I.write (x:=l) (e:=l) (by rw [hH]; exact trivial) (.inl rfl) (fun b' u hb hu=>(Heap.get?_update_other s.heap (Obj.mapSeq f) (qCh hb)).trans hu) ⟨_,q⟩ ?_
  exact ⟨hz,its',_,hv,q⟩
theorem Inv.lnew {its:List Value} {t':Nat} (I:Inv X pins σ H s) (hv:Vals ys its) (hz:ys.length≤sizeLine) :
    Inv X pins σ (upd H s.heap.objs.size (.lst ys)) { s with heap:=s.heap.push { cls:=.type "list",data:=.seq its.toArray },toks:=t' } :=
  I.laid (fun _ _ q=>Heap.get?_push_of_some _ q) (qAa _) ⟨hz,its,0,hv,Heap.get?_push_size _ rfl⟩
theorem Inv.fresh (I:Inv X pins σ H s):H s.heap.objs.size = none:=I.hok.fresh (qAa _)
theorem Inv.lstM (I:Inv X pins σ H s) (hH:H l = some (.lst xs)):xs.length≤sizeLine∧∃ (its:List Value) (n:Nat),Vals xs its∧xs.length = its.length∧s.heap.get? l = some { cls:=.type "list",data:=.seq its.toArray n }:=by
  obtain ⟨z,its,n,r,e⟩:=I.hok l _ hH
  exact ⟨z,its,n,r,r.length,e⟩
theorem zNL {n:Nat} (h:n≤sizeLine):Builtin.List.listTooLong n = false:=by
  unfold Builtin.List.listTooLong
  exact decide_eq_false (by omega)
end
section
variable {X:Cx}
def zUT:V→List V→Hp→VK→Prop:=fun x vs H Q=>∃ l xs y,x = .ref l∧vs = [y]∧H l = some (.lst xs)∧xs.length < sizeLine∧Q .non (upd H l (.lst (xs ++ [y])))
theorem zQG:MtM X "list.append" zUT:=by
  intro pins s σ H x vs v us Q I rx rv h
  obtain ⟨l,xs,y,rfl,rfl,hH,hz,q⟩:=h
  cases rx
  obtain ⟨u,rfl,ru⟩:=rv.one
  obtain ⟨z,its,n,r,hl,e⟩:=I.lstM hH
  refine call_meets F.slot_list_append ⟨_,e,rfl⟩ F.entry_list_append (F.args_list_append_2 _ _) (PySem.list_append l its.toArray n u (by rw [qAc]; omega)) ⟨e,?_⟩
  refine ⟨.non,_,I.lset (its':=its ++ [u]) hH e (by simp) (r.append (.cons ru .nil)) ?_,rfl,q⟩
  rw [qAr,qDv]
  omega
def zUR:V→List V→Hp→VK→Prop:=fun x vs H Q=>∃ l b xs zs,x = .ref l∧vs = [.ref b]∧H l = some (.lst xs)∧H b = some (.lst zs)∧xs.length + zs.length≤sizeLine∧Q .non (upd H l (.lst (xs ++ zs)))
theorem zQF:MtM X "list.extend" zUR:=by
  intro pins s σ H x vs v us Q I rx rv h
  obtain ⟨l,b,xs,zs,rfl,rfl,hH,hB,hz,q⟩:=h
  cases rx
  obtain ⟨u,rfl,ru⟩:=rv.one
  cases ru
  obtain ⟨z,its,n,r,hl,e⟩:=I.lstM hH
  obtain ⟨z2,its2,n2,r2,hl2,e2⟩:=I.lstM hB
  have hsz:its.toArray.size + its2.toArray.size≤sizeLine:=by rw [qAc,qAc]; omega
  have hlong:¬ (!its.toArray.isEmpty && Builtin.List.listTooLong (its.toArray.size + its2.toArray.size)) = true:=by
    rw [zNL hsz,qCx]
    exact qAg
  refine call_meets F.slot_list_extend ⟨_,e,rfl⟩ F.entry_list_extend (F.args_list_extend_2 _ _)
    (AutoSeq1.list_extend_list_list_0 l its.toArray n b its2.toArray n2 hlong (by rw [qAc]; omega) (by omega)) ⟨e,e2,?_⟩
  refine ⟨.non,_,I.lset (its':=its ++ its2) hH e (by simp) (r.append r2) ?_,rfl,q⟩
  rw [qAr]
  omega
def rPop:V→List V→Hp→VK→Prop:=fun x vs H Q=>∃ l xs y,x = .ref l∧vs = []∧H l = some (.lst xs)∧xs[xs.length - 1]? = some y∧Q y (upd H l (.lst xs.dropLast))
theorem zXZ:MtM X "list.pop" rPop:=by
  intro pins s σ H x vs v us Q I rx rv h
  obtain ⟨l,xs,y,rfl,rfl,hH,hy,q⟩:=h
  cases rx
  have hus:=rv.zero
  subst hus
  obtain ⟨z,its,n,r,hl,e⟩:=I.lstM hH
  obtain ⟨u,hu,ru⟩:=r.get hy
  have hy':its.toArray[its.toArray.size - 1]? = some u:=by
    show its.toArray[its.length - 1]? = some u
    rw [← qBi,← hl]
    exact hu
  refine call_meets F.slot_list_pop ⟨_,e,rfl⟩ F.entry_list_pop (F.args_list_pop_1 _) (MeetsSeq.list_pop_last l its.toArray n u hy' (by rw [qAc]; omega)) ⟨e,?_⟩
  refine ⟨y,_,I.lset (its':=its.dropLast) hH e ?_ r.dropLast ?_,ru,q⟩
  · show its.toArray.eraseIdxIfInBounds (its.toArray.size - 1) = its.dropLast.toArray
    rw [qAc,qDp,zP0]
  · rw [List.length_dropLast]
    omega
def zX8:V→List V→Hp→VK→Prop:=fun x vs H Q=>∃ l xs i k y,x = .ref l∧vs = [.int i]∧H l = some (.lst xs)∧-(2 ^ 63)≤i∧i < 2 ^ 63∧seqIndex? i xs.length = some k∧xs[k]? = some y∧Q y (upd H l (.lst (xs.eraseIdx k)))
theorem zSO:MtM X "list.pop" zX8:=by
  intro pins s σ H x vs v us Q I rx rv h
  obtain ⟨l,xs,i,k,y,rfl,rfl,hH,h1,h2,hk,hy,q⟩:=h
  cases rx
  obtain ⟨u,rfl,ru⟩:=rv.one
  obtain ⟨t,rfl⟩:=ru
  obtain ⟨z,its,n,r,hl,e⟩:=I.lstM hH
  obtain ⟨w,hw,rw'⟩:=r.get hy
  refine call_meets F.slot_list_pop ⟨_,e,rfl⟩ F.entry_list_pop (F.args_list_pop_2 _ _)
    (MeetsSeq.list_pop_at l its.toArray n i t k w (fitsIndex_both h1 h2) (by rw [qAc,← hl]; exact hk) (by rw [← qBi]; exact hw) (by rw [qAc]; omega)) ⟨e,?_⟩
  refine ⟨y,_,I.lset (its':=its.eraseIdx k) hH e ?_ (r.eraseIdx k) ?_,rw',q⟩
  · show its.toArray.eraseIdxIfInBounds k = (its.eraseIdx k).toArray
    rw [qDp]
  · have:=zGR xs k
    omega
def rCat:R2:=fun x y H Q=>∃ l b xs zs,x = .ref l∧y = .ref b∧H l = some (.lst xs)∧H b = some (.lst zs)∧xs.length + zs.length≤sizeLine∧∀ p,H p = none→Q (.ref p) (upd H p (.lst (xs ++ zs)))
theorem zXW:OpR X (binaryOp .Add) rCat:=by
  intro pins s σ H x y v u Q I rx ry h
  obtain ⟨l,b,xs,zs,rfl,rfl,hH,hB,hz,q⟩:=h
  cases rx
  cases ry
  obtain ⟨z,its,n,r,hl,e⟩:=I.lstM hH
  obtain ⟨z2,its2,n2,r2,hl2,e2⟩:=I.lstM hB
  refine PySem.P.add_list e e2 ?_ (by rw [qAc,qAc]; omega)
  have ea:its.toArray ++ its2.toArray = (its ++ its2).toArray:=by simp
  rw [ea]
  exact ⟨.ref _,_,I.lnew (t':=s.toks) (r.append r2) (by rw [qAr]; omega),rfl,q _ I.fresh⟩
def rRep:R2:=fun x y H Q=>∃ l k xs,x = .ref l∧y = .int k∧H l = some (.lst xs)∧-(2 ^ 63)≤k∧k < 2 ^ 63∧xs.length * k.toNat≤sizeLine ∧
  ∀ p,H p = none→Q (.ref p) (upd H p (.lst (qA8 k.toNat xs).flatten))
theorem zVB {α:Type} (xs:List α) (k:Nat):(qA8 k xs).flatten.length = k * xs.length:=by
  induction k with
  | zero=>simp
  | succ k ih=>rw [qBg,qAy,qAr,ih,qEf,Nat.add_comm]
theorem zXS:OpR X (binaryOp .Mult) rRep:=by
  intro pins s σ H x y v u Q I rx ry h
  obtain ⟨l,k,xs,rfl,rfl,hH,h1,h2,hz,q⟩:=h
  cases rx
  obtain ⟨t,rfl⟩:=ry
  obtain ⟨z,its,n,r,hl,e⟩:=I.lstM hH
  have hlen:its.toArray.size * k.toNat≤sizeLine:=by rw [qAc,← hl]; exact hz
  have hcap:¬ its.toArray.size * k.toNat > (2 ^ 63 - 1) / 8:=by
    have:(sizeLine:Nat)≤(2 ^ 63 - 1) / 8:=by decide
    omega
  have hfit:¬ (!Builtin.List.listFitsIndex k) = true:=by
    rw [fitsIndex_both h1 h2]
    exact qAg
  have hlong:¬ Builtin.List.listTooLong (its.toArray.size * k.toNat) = true:=by
    rw [zNL hlen]
    exact qAg
  have hnew:qHe (fun x1 x2=>x1 ++ x2) #[] (qA8 (if its.toArray.isEmpty = true then 0 else k.toNat) its.toArray) = (qA8 k.toNat its).flatten.toArray:=by
    have f0:∀ m:Nat,qHe (fun x1 x2=>x1 ++ x2) #[] (qA8 m its.toArray) = (qA8 m its).flatten.toArray:=fun m=>by
      have:=zL2 its m []
      rw [qGf] at this
      exact this
    rw [f0]
    cases its with
    | nil=>simp
    | cons a r'=>rw [if_neg (by simp)]
  refine wpAny_binaryOp_repeat_ref (T:="list") (U:="int") (by decide) ⟨_,e,rfl⟩ (fun s'=>typeIs_int s' k t) noFill_list_mul F.fills_int_mul F.slot_int_rmul repeat_list F.slot_int_index.lookup
    (call_meets F.slot_int_rmul (typeIs_int s k t) F.entry_int_rmul (F.args_int_rmul_2 _ _) (int___rmul___int_list k t l its.toArray n)
      ⟨e,rfl,⟨_,e,rfl⟩,call_meets F.slot_list_mul ⟨_,e,rfl⟩ F.entry_list_mul (F.args_list_mul_2 _ _) (AutoListH.list___mul___list_int_3 l its.toArray n k t hfit hcap hlong) ⟨e,?_⟩⟩)
  rw [hnew]
  exact ⟨.ref _,_,I.lnew (t':=s.toks) (r.rep k.toNat) (by rw [zVB,Nat.mul_comm]; exact hz),rfl,q _ I.fresh⟩
end
section
variable {prog:Program} {w:World} {A:Around} {E:Value→Shared→Prop} {s:Shared}
end
section
variable {X:Cx}
end
end L2
namespace L2
open PySem PySem.Spec PyProof.Rows
section
variable {κ:Type} [DecidableEq κ]
noncomputable def valV (kvs:List (κ × V)) (k:κ):Option V:=(kvs.find? fun kv=>decide (kv.1 = k)).map (·.2)
noncomputable def putK (kvs:List (κ × V)) (k:κ) (v:V):List (κ × V) :=
  if (kvs.any fun kv=>decide (kv.1 = k)) = true then kvs.map (fun kv=>if kv.1 = k then (kv.1,v) else kv) else kvs ++ [(k,v)]
noncomputable def zYR (kvs:List (κ × V)) (k:κ):List (κ × V):=kvs.filter fun kv=>decide (kv.1≠k)
theorem zI6 {p:κ × V} {r:List (κ × V)} {k:κ} (e:p.1 = k):valV (p :: r) k = some p.2:=by simp [valV,qCd,e]
theorem zI7 {p:κ × V} {r:List (κ × V)} {k:κ} (e:¬ p.1 = k):valV (p :: r) k = valV r k:=by simp [valV,qCd,e]
theorem zN2 (k:κ):∀ kvs:List (κ × V),(kvs.any fun kv=>decide (kv.1 = k)) = (valV kvs k).isSome
  | []=>rfl
  | p :: r=>by
    rw [qCj]
    by_cases e:p.1 = k
    · simp only [zI6 e,decide_eq_true e,Bool.true_or,qEg]
    · rw [zI7 e,decide_eq_false e,Bool.false_or]; exact zN2 k r
theorem zED (kvs:List (κ × V)) (k:κ) (v:V):(putK kvs k v).length≤kvs.length + 1:=by
  unfold putK
  split
  · rw [qAj]; omega
  · rw [qAr,qAu,qGg]; omega
theorem RelO.isSome_eq {o:Option V} {u:Option Value} (r:RelO o u):o.isSome = u.isSome:=by
  cases o with
  | none=>cases u with
    | none=>rfl
    | some _=>exact (show False from r).elim
  | some _=>cases u with
    | none=>exact (show False from r).elim
    | some _=>rfl
theorem KV.val {kvs:List (κ × V)} {vs:List (κ × Value)} (r:KV kvs vs) (k:κ):RelO (valV kvs k) (valueAt vs k):=by
  unfold KV at r
  induction r with
  | nil=>exact qCv
  | @cons p q ps qs h t ih =>
    obtain ⟨h1,h2⟩:=h
    by_cases e:p.1 = k
    · have e':q.1 = k:=h1.symm.trans e
      have b:valueAt (q :: qs) k = some q.2:=by simp [valueAt,qCd,e']
      rw [zI6 e,b]; exact h2
    · have e':¬ q.1 = k:=fun z=>e (h1.trans z)
      have b:valueAt (q :: qs) k = valueAt qs k:=by simp [valueAt,qCd,e']
      rw [zI7 e,b]; exact ih
theorem KV.any {kvs:List (κ × V)} {vs:List (κ × Value)} (r:KV kvs vs) (k:κ):(kvs.any fun kv=>decide (kv.1 = k)) = vs.any fun kv=>decide (kv.1 = k):=by
  unfold KV at r
  induction r with
  | nil=>rfl
  | cons h t ih=>rw [qCj,qCj,ih,h.1]
theorem KV.repl {kvs:List (κ × V)} {vs:List (κ × Value)} (r:KV kvs vs) (k:κ) {y:V} {u:Value} (ry:RelV y u) :
    KV (kvs.map fun kv=>if kv.1 = k then (kv.1,y) else kv) (vs.map fun kv=>if kv.1 = k then (kv.1,u) else kv):=by
  unfold KV at r ⊢
  induction r with
  | nil=>exact .nil
  | @cons p q ps qs h t ih =>
    rw [qAi,qAi]
    refine .cons ?_ ih
    obtain ⟨h1,h2⟩:=h
    by_cases e:p.1 = k
    · rw [if_pos e,if_pos (h1.symm.trans e)]; exact ⟨h1,ry⟩
    · rw [if_neg e,if_neg (fun z=>e (h1.trans z))]; exact ⟨h1,h2⟩
theorem KV.put {kvs:List (κ × V)} {vs:List (κ × Value)} (r:KV kvs vs) (k:κ) {y:V} {u:Value} (ry:RelV y u):KV (putK kvs k y) (stored vs k u):=by
  unfold putK stored
  rw [r.any k]
  by_cases e:(vs.any fun kv=>decide (kv.1 = k)) = true
  · rw [if_pos e,if_pos e]; exact r.repl k ry
  · rw [if_neg e,if_neg e]; exact Paired.snoc r ⟨rfl,ry⟩
theorem KV.drop {kvs:List (κ × V)} {vs:List (κ × Value)} (r:KV kvs vs) (k:κ):KV (zYR kvs k) (without vs k):=by
  unfold KV at r ⊢
  unfold zYR without
  induction r with
  | nil=>exact .nil
  | @cons p q ps qs h t ih =>
    obtain ⟨h1,h2⟩:=h
    rw [qG9,qG9]
    by_cases e:p.1 = k
    · have a:¬ decide (p.1≠k) = true:=by simp [e]
      have b:¬ decide (q.1≠k) = true:=by simp [h1.symm.trans e]
      rw [if_neg a,if_neg b]; exact ih
    · have e':¬ q.1 = k:=fun z=>e (h1.trans z)
      have a:decide (p.1≠k) = true:=by simp [e]
      have b:decide (q.1≠k) = true:=by simp [e']
      rw [if_pos a,if_pos b]; exact .cons ⟨h1,h2⟩ ih
theorem KV.length {kvs:List (κ × V)} {vs:List (κ × Value)} (r:KV kvs vs):kvs.length = vs.length:=Paired.length r
end
theorem zQR {P:Program} {w:World} {k:Key} {u:Value} (r:RelV (kV k) u):(zBF P w).is k u = true:=by
  cases k with
  | inl i=>obtain ⟨t,e⟩:=(show ∃ t,u = Value.int i t from r); subst e; exact zMF P w i t
  | inr x=>obtain ⟨t,e⟩:=(show ∃ t,u = Value.str x t from r); subst e; exact zME P w x t
theorem zKZ {P:Program} {w:World}:∀ {ks:List Key} {us:List Value},Vals (ks.map kV) us→ItemsAre (zBF P w) ks us
  | [],_,r=>by rw [qG3] at r; cases r; exact .nil
  | k :: ks,_,r=>by
    rw [qAi] at r
    cases r with
    | cons h t=>exact .cons (zQR h) (zKZ t)
abbrev KT (H:Hp):List (List Key × V)→List (List Key × Addr × Value)→Prop:=Paired fun p q=>p.1 = q.1∧H q.2.1 = some (.tup (p.1.map kV))∧RelV p.2 q.2.2
theorem KT.val {H:Hp} {kvs:List (List Key × V)} {xs:List (List Key × Addr × Value)} (r:KT H kvs xs) (k:List Key):RelO (valV kvs k) ((atKey xs k).map (·.2)):=by
  induction r with
  | nil=>exact qCv
  | @cons p q ps qs h t ih =>
    obtain ⟨h1,_,h2⟩:=h
    by_cases e:p.1 = k
    · have e':q.1 = k:=h1.symm.trans e
      have b:atKey (q :: qs) k = some q.2:=by simp [atKey,qCd,e']
      rw [zI6 e,b]; exact h2
    · have e':¬ q.1 = k:=fun z=>e (h1.trans z)
      have b:atKey (q :: qs) k = atKey qs k:=by simp [atKey,qCd,e']
      rw [zI7 e,b]; exact ih
theorem KT.repl {H:Hp} {kvs:List (List Key × V)} {xs:List (List Key × Addr × Value)} (r:KT H kvs xs) (k:List Key) {y:V} {u:Value} (ry:RelV y u) :
    KT H (kvs.map fun kv=>if kv.1 = k then (kv.1,y) else kv) (xs.map (putAt k u)):=by
  induction r with
  | nil=>exact .nil
  | @cons p q ps qs h t ih =>
    rw [qAi,qAi]
    refine .cons ?_ ih
    obtain ⟨h1,h2,h3⟩:=h
    unfold putAt
    by_cases e:p.1 = k
    · rw [if_pos e,if_pos (h1.symm.trans e)]; exact ⟨h1,h2,ry⟩
    · rw [if_neg e,if_neg (fun z=>e (h1.trans z))]; exact ⟨h1,h2,h3⟩
theorem KT.put {H:Hp} {kvs:List (List Key × V)} {xs:List (List Key × Addr × Value)} (r:KT H kvs xs) (k:List Key) {b:Addr} {y:V} {u:Value} (hb:H b = some (.tup (k.map kV))) (ry:RelV y u) :
    KT H (putK kvs k y) (storedH xs k b u):=by
  have e:(kvs.any fun kv=>decide (kv.1 = k)) = (atKey xs k).isSome:=by
    rw [zN2,(r.val k).isSome_eq,qDq]
  unfold putK storedH
  rw [e]
  by_cases q:(atKey xs k).isSome = true
  · rw [if_pos q,if_pos q]; exact r.repl k ry
  · rw [if_neg q,if_neg q]; exact Paired.snoc r ⟨rfl,hb,ry⟩
theorem KT.keeps {H H':Hp} {kvs:List (List Key × V)} {xs:List (List Key × Addr × Value)} (r:KT H kvs xs) (ht:∀ b ys,H b = some (.tup ys)→H' b = some (.tup ys)):KT H' kvs xs :=
  Paired.mapP r fun _ _ z=>⟨z.1,ht _ _ z.2.1,z.2.2⟩
section
variable {P:Program} {w:World} {H:Hp} {h:Heap} {a:Addr}
theorem zX3 {u:HO} (ok:HOk P w H h) (e:Rd H a u):ObjOk P w H h a u:=e.ok ok
theorem zRE {kvs:List (Key × V)} (ok:HOk P w H h) (e:Rd H a (.dK kvs)):kvs.length≤sizeLine∧(a == sysModules) = false∧∃ vs,KV kvs vs∧h.DictOf (zBF P w) a vs :=
  show ObjOk P w H h a (.dK kvs) from zX3 ok e
theorem zYS {kvs:List (Key × V)} (ok:HOk P w H h) (e:H a = some (.dK kvs)):kvs.length≤sizeLine∧(a == sysModules) = false∧∃ vs,KV kvs vs∧h.DictOf (zBF P w) a vs:=zRE ok (.inl e)
theorem zNP {ks:List Key} (ok:HOk P w H h) (e:H a = some (.tup (ks.map kV))):(tupleKind (zBF P w)).is h ks a:=by
  obtain ⟨_,its,r,o,h1,h2,n,h3⟩:=(show ObjOk P w H h a (.tup (ks.map kV)) from ok a _ e)
  exact ⟨o,its.toArray,n,h1,h2,h3,by simpa using zKZ r⟩
theorem zR3 {kvs:List (List Key × V)} (ok:HOk P w H h) (e:Rd H a (.dT kvs)):kvs.length≤sizeLine∧(a == sysModules) = false ∧
    ∃ xs,KT H kvs xs∧h.DictOfH (tupleKind (zBF P w)) a xs:=by
  obtain ⟨z,y,xs,r,o,es,ep,h1,h2,h3,h4,h5⟩:=(show ObjOk P w H h a (.dT kvs) from zX3 ok e)
  refine ⟨z,y,xs,r,o,es,ep,h1,h2,h3,h4,fun x hx=>?_,h5⟩
  have all:∀ {l:List (List Key × V)} {m:List (List Key × Addr × Value)},KT H l m→∀ x∈m,(tupleKind (zBF P w)).is h x.1 x.2.1:=by
    intro l m q
    induction q with
    | nil=>intro x hx; exact nomatch hx
    | @cons p q ps qs hq t ih =>
      intro x hx
      rcases qAb.mp hx with e | hx
      · subst e
        exact zNP ok (by rw [← hq.1]; exact hq.2.1)
      · exact ih x hx
  exact all r x hx
theorem za8 {kvs:List (List Key × V)} (ok:HOk P w H h) (e:H a = some (.dT kvs)):kvs.length≤sizeLine∧(a == sysModules) = false ∧
    ∃ xs,KT H kvs xs∧h.DictOfH (tupleKind (zBF P w)) a xs:=zR3 ok (.inl e)
end
def DGet (H:Hp) (a:Addr) (y:V) (r:Option V):Prop :=
  (∃ kvs k,Rd H a (.dK kvs)∧y = kV k∧r = valV kvs k)∨∃ kvs k b,Rd H a (.dT kvs)∧y = .ref b∧H b = some (.tup (k.map kV))∧r = valV kvs k
def DPut (H:Hp) (a:Addr) (y v:V) (H':Hp):Prop :=
  (∃ kvs k,H a = some (.dK kvs)∧y = kV k∧kvs.length < sizeLine∧H' = upd H a (.dK (putK kvs k v))) ∨
  ∃ kvs k b,H a = some (.dT kvs)∧y = .ref b∧H b = some (.tup (k.map kV))∧kvs.length < sizeLine∧H' = upd H a (.dT (putK kvs k v))
theorem DGet.k {H:Hp} {a:Addr} {kvs:List (Key × V)} {k:Key} (e:H a = some (.dK kvs)):DGet H a (kV k) (valV kvs k):=.inl ⟨kvs,k,.inl e,rfl,rfl⟩
theorem DPut.k {H:Hp} {a:Addr} {kvs:List (Key × V)} {k:Key} {v:V} (e:H a = some (.dK kvs)) (hl:kvs.length < sizeLine):DPut H a (kV k) v (upd H a (.dK (putK kvs k v))):=.inl ⟨kvs,k,e,rfl,hl,rfl⟩
section
variable {X:Cx} {pins:List (Addr × Obj)} {σ:St} {H:Hp} {s:Shared} {a:Addr} {y v:V} {u r:Value} {o:Option V} {A:Around} {E:Value→Shared→Prop}
theorem Inv.big (I:Inv X pins σ H s):sysModules < s.heap.objs.size:=by
  have h:mainGlobals < s.heap.objs.size:=(I.mod.glob.keeps I.bk).lt
  exact Nat.lt_trans (by decide) h
theorem zRL {Q:Value→Shared→Prop} (hu:A.units + 1 < cLine) (I:Inv X pins σ H s) (g:DGet H a y (some v)) (ry:RelV y u) (h:∀ w' s',Inv X pins σ H s'→RelV v w'→Q w' s') :
    wpAny (model X.prog X.w) A (getItem (.ref a) u) Q E s:=by
  rcases g with ⟨kvs,k,e,ey,l⟩ | ⟨kvs,k,b,e,ey,eb,l⟩
  · subst ey
    obtain ⟨z,hd,vs,rel,dd⟩:=zRE I.hok e
    obtain ⟨w',hw,rw'⟩:=RelO.some_of (v:=v) (o:=valueAt vs k) (by rw [l]; exact rel.val k)
    exact wpAny_getItem_of (zQR ry) dd.mapOf hw (h w' _ (I.tok _) rw')
  · subst ey
    cases (show u = Value.ref b from ry)
    obtain ⟨z,hd,xs,rel,dd⟩:=zR3 I.hok e
    obtain ⟨w',hw,rw'⟩:=RelO.some_of (v:=v) (o:=(atKey xs k).map (·.2)) (by rw [l]; exact rel.val k)
    obtain ⟨p,hp,hp2⟩:=qDl.mp hw
    refine wpAny_getItem_heap (tupleKind_room_in1 hu) (zNP I.hok eb) dd hp ?_
    rw [hp2]
    exact h w' _ (I.tok _) rw'
theorem zW1 {Q:Value→Shared→Prop} (hu:A.units + 1 < cLine) (I:Inv X pins σ H s) (g:DGet H a y o) (ry:RelV y u) (h:∀ s',Inv X pins σ H s'→Q (.bool (!o.isSome)) s') :
    wpAny (model X.prog X.w) A (compareOp .NotIn u (.ref a)) Q E s:=by
  rcases g with ⟨kvs,k,e,ey,l⟩ | ⟨kvs,k,b,e,ey,eb,l⟩
  · subst ey
    obtain ⟨z,hd,vs,rel,dd⟩:=zRE I.hok e
    refine wpAny_notIn_of (zQR ry) hd dd.mapOf ?_
    rw [← (rel.val k).isSome_eq,← l]
    exact h _ (I.tok _)
  · subst ey
    cases (show u = Value.ref b from ry)
    obtain ⟨z,hd,xs,rel,dd⟩:=zR3 I.hok e
    refine wpAny_notIn_heap (tupleKind_room_in1 hu) (zNP I.hok eb) hd dd ?_
    have q:=(rel.val k).isSome_eq
    rw [qDq] at q
    rw [← q,← l]
    exact h _ (I.tok _)
theorem zRJ {h':Heap} {t':Nat} {ob:HO} (I:Inv X pins σ H s) (mu:Mut (H a)) (hs:Heap.SameBut a s.heap h') (he:∃ q,h'.get? a = some q) (new:ObjOk X.prog X.w (upd H a ob) h' a ob) :
    Inv X pins σ (upd H a ob) { s with heap:=h',toks:=t' } :=
  I.write (x:=a) (e:=a) mu (.inl rfl) (fun b q hb z=>(hs.2 b hb).trans z) he new
theorem zU5 {P:Program} {w:World} {H':Hp} {h':Heap} {kvs:List (Key × V)} {vs:List (Key × Value)} (z:kvs.length≤sizeLine) (hd:(a == sysModules) = false) (rel:KV kvs vs) (dd:h'.DictOf (zBF P w) a vs) :
    ObjOk P w H' h' a (.dK kvs):=⟨z,hd,vs,rel,dd⟩
theorem zRK {H':Hp} {Q:Unit→Shared→Prop} (hu:A.units + 1 < cLine) (I:Inv X pins σ H s) (g:DPut H a y v H') (ry:RelV y u) (rv:RelV v r) (h:∀ s',Inv X pins σ H' s'→Q () s') :
    wpAny (model X.prog X.w) A (setItem (.ref a) u r) Q E s:=by
  rcases g with ⟨kvs,k,e,ey,l,eH⟩ | ⟨kvs,k,b,e,ey,eb,l,eH⟩
  · subst ey eH
    obtain ⟨z,hd,vs,rel,dd⟩:=zYS I.hok e
    have hz:vs.length≤sizeLine:=by rw [← rel.length]; exact z
    have hl:(putK kvs k v).length≤sizeLine:=by have:=zED kvs k v; omega
    refine wpAny_setItem_pairs (hsz:=hz) (zQR ry) dd fun h' dd' hs=>h _ ?_
    have he:∃ q,h'.get? a = some q:=let ⟨q,_,_,hq,_⟩:=dd'; ⟨q,hq⟩
    exact zRJ I (by rw [e]; exact qCv) hs he (zU5 hl hd (rel.put k rv) dd')
  · subst ey eH
    cases (show u = Value.ref b from ry)
    obtain ⟨z,hd,xs,rel,dd⟩:=za8 I.hok e
    have hz:xs.length≤sizeLine:=by rw [← Paired.length rel]; exact z
    have hl:(putK kvs k v).length≤sizeLine:=by have:=zED kvs k v; omega
    refine wpAny_setItem_heap (hsz:=hz) (tupleKind_room_in1 hu) (zNP I.hok eb) dd fun h' dd' hs=>h _ ?_
    obtain ⟨q,es,ep,hq,h2,h3,h4,_,h5⟩:=dd'
    refine zRJ I (by rw [e]; exact qCv) hs ⟨q,hq⟩ ⟨hl,hd,_,(rel.put k eb rv).keeps fun c ys ec=>?_,q,es,ep,hq,h2,h3,h4,h5⟩
    rw [zAK (zV4 ec e (fun z=>nomatch z))]
    exact ec
end
section
variable {X:Cx} {pins:List (Addr × Obj)} {σ:St} {H:Hp} {s:Shared} {a:Addr} {kvs:List (Key × V)} {k:Key} {u:Value} {A:Around} {E:Value→Shared→Prop}
end
def NoSl (i:Expr):Prop:=∀ ov iv,subscripted i false ov iv = operate [ov,iv] (getItem ov iv)
theorem zUI {prog:Program} {w:World} {A:Around} {E:Value→Shared→Prop} {s:Shared} {env:Env} {value slice:Expr} {pos:Pos} {T id:String} {Q:Value→Shared→Prop}
    (hl:typeLookup (.type T) "__getitem__" = pure (some (.builtin id))) (hs:NoSl slice)
    (h:wpAny (model prog w) A (eval value env) (fun o s₁=>wpAny (model prog w) A (eval slice env) (fun i s₂=>s₂.TypeIs o T∧wpAny (model prog w) A (getItem o i) Q E s₂) E s₁) E s) :
    wpAny (model prog w) A (eval (.Subscript value slice pos) env) Q E s:=by
  refine Subscript_ (wpAny_mono h (fun o s₁ h₁=>wpAny_mono h₁ (fun i s₂ h₂=>?_) fun _ _ x=>x) fun _ _ x=>x)
  obtain ⟨hT,h₂⟩:=h₂
  unfold subscriptTail
  refine wpAny_bind ?_
  rw [getitemInPython_of_ne hT.not_modules]
  refine wpAny_bind (wpAny_specialOf hT hl ?_)
  have fin:wpAny (model prog w) A (subscripted slice false o i) (fun r s₃=>wpAny (model prog w) A (letTemporaryGo value o r >>= fun _=>pure r) Q E s₃) E s₂:=by
    rw [hs o i]
    exact wpAny_operating (wpAny_mono h₂ (fun r s₃ h₃=>wpAny_bind (wpAny_letTemporaryGo (wpAny_pure h₃))) fun _ _ x=>x)
  first
    | exact wpAny_pure (wpAny_bind fin)
    | exact wpAny_bind (wpAny_pure (wpAny_bind fin))
    | exact wpAny_bind fin
theorem zMP {X:Cx} {pins:List (Addr × Obj)} {σ:St} {H:Hp} {s:Shared} {a:Addr} {y:V} {o:Option V} (I:Inv X pins σ H s) (g:DGet H a y o):s.TypeIs (.ref a) "dict":=by
  rcases g with ⟨kvs,k,e,_,_⟩ | ⟨kvs,k,b,e,_,_,_⟩
  · obtain ⟨_,_,vs,_,dd⟩:=zRE I.hok e
    exact dd.typeIs
  · obtain ⟨_,_,xs,_,dd⟩:=zR3 I.hok e
    exact dd.typeIs
noncomputable def zWR (td ty:TE):TE:=fun σ H Q=>td σ H fun x H1=>ty σ H1 fun y H2=>∃ a v,x = .ref a∧DGet H2 a y (some v)∧Q v H2
noncomputable def tDIn (ty td:TE):TE:=fun σ H Q=>ty σ H fun y H1=>td σ H1 fun x H2=>∃ a o,x = .ref a∧DGet H2 a y o∧Q (.bl o.isSome) H2
noncomputable def zPI (ty td:TE):TE:=fun σ H Q=>ty σ H fun y H1=>td σ H1 fun x H2=>∃ a o,x = .ref a∧DGet H2 a y o∧Q (.bl (!o.isSome)) H2
noncomputable def zWW (td ty tv:TE):TS:=fun D σ H=>tv σ H fun v H1=>td σ H1 fun x H2=>ty σ H2 fun y H3=>∃ a H4,x = .ref a∧DPut H3 a y v H4∧D.nx σ H4
section
variable {X:Cx} {o i e value:Expr} {pos pos' tpos:Pos} {td ty tv:TE}
theorem zM8 (hu:X.A.units + 1 < cLine) (ho:PE X o td) (hi:PE X i ty) (hs:NoSl i):PE X (.Subscript o i pos) (zWR td ty):=by
  intro pins s σ H Q I h
  refine zUI PySem.F.slot_dict_getitem.lookup hs (thn (ho pins s σ H _ I h) fun u s1 ⟨x,H1,I1,rx,q1⟩=>thn (hi pins s1 σ H1 _ I1 q1) fun iv s2 ⟨y,H2,I2,ry,a,v,ex,g,q2⟩=>?_)
  subst ex
  obtain rfl:u = Value.ref a:=rx
  exact ⟨zMP I2 g,zRL hu I2 g ry fun w' s3 I3 rw'=>⟨v,H2,I3,rw',q2⟩⟩
theorem zQ5 (hu:X.A.units + 1 < cLine) (hi:PE X i ty) (ho:PE X o td):PC X .NotIn i o (zPI ty td):=by
  intro pins s σ H Q I h
  refine thn (hi pins s σ H _ I h) fun iv s1 ⟨y,H1,I1,ry,q1⟩=>thn (ho pins s1 σ H1 _ I1 q1) fun u s2 ⟨x,H2,I2,rx,a,ov,ex,g,q2⟩=>?_
  subst ex
  obtain rfl:u = Value.ref a:=rx
  exact zW1 hu I2 g ry fun s3 I3=>⟨.bl (!ov.isSome),H2,I3,rfl,q2⟩
theorem zM7 (hu:X.A.units + 1 < cLine) (ho:PE X o td) (hi:PE X i ty) (hv:PE X value tv) (hs:swapsWith value (some (.Subscript o i pos')) pos.line X.env = pure false) :
    PS X (.Assign [.Subscript o i pos'] value pos) (zWW td ty tv):=by
  intro pins s σ H D I h
  refine wpAny_Assign_Subscript (thn (hv pins s σ H _ I h) fun r s1 ⟨v,H1,I1,rv,q1⟩=>thn (ho pins s1 σ H1 _ I1 q1) fun u s2 ⟨x,H2,I2,rx,q2⟩=>thn (hi pins s2 σ H2 _ I2 q2) fun iv s3 ⟨y,H3,I3,ry,a,H4,ex,g,q3⟩=>?_) hs
  subst ex
  obtain rfl:u = Value.ref a:=rx
  exact zRK hu I3 g ry rv fun s4 I4=>⟨σ,H4,I4,q3⟩
end
theorem zT4 {P:Program} {w:World} {H:Hp} (h:Heap) (hb:sysModules < h.objs.size):ObjOk P w H (h.push { cls:=.type "dict",data:=.dict #[] }) h.objs.size (.dK []) :=
  ⟨qAs _,beq_eq_false_iff_ne.mpr (qCh (qAk hb)),[],.nil,Heap.DictOf.new h⟩
def zTG:TE:=fun _ H Q=>∀ p,H p = none→Q (.ref p) (upd H p (.dK []))
section
variable {X:Cx} {pos:Pos}
theorem zIN:PE X (.Dict [] [] pos) zTG:=fun pins s σ H Q I h =>
  wpAny_Dict_empty ⟨.ref s.heap.objs.size,_,I.laid (a:=s.heap.objs.size) (o:=.dK []) (t':=s.toks) (fun _ _ q=>Heap.get?_push_of_some _ q) (qAa _) (zT4 s.heap I.big),rfl,h _ (I.hok.fresh (qAa _))⟩
end
structure M1 (X:Cx) (o:Expr) (m:Str) (apos:Pos) (e:Expr) (cpos:Pos):Prop where
  base:attributeBase o m X.env (eval o X.env) = eval o X.env
  few:((backTo cpos (starEach [e] X.env)).all (fun x=>!x.1) && (backToKw cpos (keywordEach [] X.env)).all (fun x=>x.1.isSome)
    && decide (([e]:List Expr).length + ([]:List Keyword).length + (if ([]:List Keyword).isEmpty then 0 else 1) < 30)) = true
  line:(apos.endLine == cpos.line) = true
  trees:backTo cpos (starEach [e] X.env) = [(false,eval e X.env)]
structure M2 (X:Cx) (o:Expr) (m:Str) (apos:Pos) (e f:Expr) (cpos:Pos):Prop where
  base:attributeBase o m X.env (eval o X.env) = eval o X.env
  few:((backTo cpos (starEach [e,f] X.env)).all (fun x=>!x.1) && (backToKw cpos (keywordEach [] X.env)).all (fun x=>x.1.isSome)
    && decide (([e,f]:List Expr).length + ([]:List Keyword).length + (if ([]:List Keyword).isEmpty then 0 else 1) < 30)) = true
  line:(apos.endLine == cpos.line) = true
  trees:backTo cpos (starEach [e,f] X.env) = [(false,eval e X.env),(false,eval f X.env)]
def IsD (H:Hp) (a:Addr):Prop:=(∃ kvs,Rd H a (.dK kvs))∨∃ kvs,Rd H a (.dT kvs)
theorem zYF {X:Cx} {pins:List (Addr × Obj)} {σ:St} {H:Hp} {s:Shared} {a:Addr} (I:Inv X pins σ H s) (d:IsD H a) :
    s.TypeIs (.ref a) "dict"∧(∀ b,Value.ref a = .ref b→∃ ob,s.heap.get? b = some ob∧ob.dict = none)∧(a == sysModules) = false:=by
  rcases d with ⟨kvs,e⟩ | ⟨kvs,e⟩
  · obtain ⟨_,hd,vs,_,dd⟩:=zRE I.hok e
    refine ⟨dd.typeIs,fun b q=>?_,hd⟩
    cases q
    obtain ⟨ob,_,_,h1,h2,_⟩:=dd
    exact ⟨ob,h1,h2.2.1⟩
  · obtain ⟨_,hd,xs,_,dd⟩:=zR3 I.hok e
    refine ⟨dd.typeIs,fun b q=>?_,hd⟩
    cases q
    obtain ⟨ob,_,_,h1,h2,_⟩:=dd
    exact ⟨ob,h1,h2.2.1⟩
section
variable {X:Cx} {pins:List (Addr × Obj)} {σ:St} {H:Hp} {s:Shared} {a:Addr} {y d:V} {u r:Value} {o:Option V} {A:Around} {E:Value→Shared→Prop}
end
section
variable {X:Cx} {o e f:Expr} {apos cpos:Pos} {td ty tx:TE}
end
section
variable {X:Cx} {pins:List (Addr × Obj)} {σ:St} {H:Hp} {s:Shared} {a:Addr} {kvs:List (Key × V)} {A:Around} {E:Value→Shared→Prop}
end
section
variable {X:Cx} {pins:List (Addr × Obj)} {σ:St} {H:Hp} {s:Shared} {a:Addr} {y:V} {u:Value} {A:Around} {E:Value→Shared→Prop}
end
end L2
namespace Att
open PySem PySem.W PySem.Calls PyProof.Rows
theorem zGX {P:Params} {h:Heap}:∀ (ns:List Int) (vs:List Value),WellAll P h vs (ns.map WData.int)→IntsAre vs ns:=by
  intro ns
  induction ns with
  | nil =>
    intro vs w
    rw [qG3] at w
    cases w
    exact .nil
  | cons n ns ih =>
    intro vs w
    rw [qAi] at w
    cases w with
    | cons a b =>
      cases a
      exact .cons _ _ (ih _ b)
theorem zPP {l:OpenLaw} {n:Nat} (hn:l.most = some n) {P:Params} {h:Heap} {args:List WData} {vals:List Value}
    (hpre:l.row.toRowW.claim.pre args = true) (hwl:WellAll P h vals args) :
    ∃ a vs ns,vals = [Value.ref a]∧args = [WData.list (ns.map WData.int)]∧h.get? a = some { cls:=.type "list",data:=.seq vs.toArray }∧IntsAre vs ns∧ns.length≤n:=by
  have hsh:WShape.hasAll [] args [.list .int] = true:=(pre_splitW hpre).1
  have hc:l.pre.holds [] { args:=args } = true:=(pre_splitW hpre).2
  obtain ⟨d,r,rfl,h1,h2⟩:=hasAllW_cons hsh
  obtain rfl:=hasAllW_nil h2
  obtain ⟨xs,rfl,h3⟩:=hasW_list h1
  obtain ⟨ns,rfl⟩:=items_int h3
  have hlen:ns.length≤n:=by
    unfold OpenLaw.pre at hc
    have h4:(WTm.not (.lt (.lit (.int (n:Int))) (.len (.arg 0)))).holds [] { args:=[.list (ns.map .int)] } = true:=by
      have h4:=(holds_andW hc).1
      rw [hn] at h4
      exact h4
    have h5:=condW_of h4 (w_not (w_lt w_lit (w_len_list (w_arg rfl))))
    rw [qAj] at h5
    refine Nat.le_of_not_lt fun q=>?_
    have q':(n:Int) < ((ns.length:Nat):Int):=by omega
    first
      | (rw [decide_eq_true q'] at h5; exact absurd h5 (by decide))
      | (simp at h5; omega)
  cases hwl with
  | cons w1 w2 =>
    cases w2
    cases w1 with
    | list ho hall=>exact ⟨_,_,ns,rfl,rfl,ho,zGX ns _ hall,hlen⟩
theorem zPY (l:OpenLaw) (args:List WData):l.row.toRowW.claim.post args (.bool true) args = true :=
  postW_of (r:=l.row.toRowW) (X:=(true == true))
    (show WShape.has [] (.bool true) .bool = true by first | rfl | decide | simp [WShape.has,WShape.arms,WShape.armsAll])
    (show (WTm.eq .res (.lit (.bool true))).value [] { args:=args,res:=some (.bool true),after:=args } = some (.bool (true == true)) from w_eq_bool (w_res rfl) w_lit) rfl
section
variable {prog:Program} {w:World} {A:Around} {E:Value→Shared→Prop} {s:Shared} {K:Frag}
end
end Att
namespace L2
open PySem PySem.Spec PyProof.Rows
theorem zJV:∀ {vs:List Value} {ns:List Int},IntsAre vs ns→Vals (ns.map V.int) vs
  | _,_,.nil=>.nil
  | _,_,.cons n t h=>.cons ⟨t,rfl⟩ (zJV h)
def Only (H:Hp):Prop:=∀ b,H b = none∨∃ o xs,H b = some (.frz o (.lst xs))
theorem zSU {P:Program} {w:World} {K:qA2} {mg mb:Str→Option Value} {CX:CXT} {k:Nat} {fa a:Addr} {fd:FuncData} {x:Str} {sp:Sp} {s₁:Shared} {vs:List Value} {ns:List Int}
    (KX:K.In s₁.heap) (hns:s₁.heap.Ns mainGlobals mg) (hb:s₁.heap.Ns builtinsNs mb) (hbb:∀ x:Str,x≠"__name__"→mb x = bootBuiltins x) (hlim:s₁.heap.NoLimit) (hg:s₁.gens = #[])
    (ha:s₁.heap.get? a = some { cls:=.type "list",data:=.seq vs.toArray }) (hi:IntsAre vs ns) (hl:ns.length≤sizeLine) (hr:Room k callerA)
    (F:∀ base:Heap,K.In base→base.Ns mainGlobals mg→FnOk P w K mg base CX k fa fd [x] sp) (hbind:∀ (s:Shared) (u:Value),BindsTo s fd ⟨[u],[]⟩ [(x,u)])
    (hsp:∀ H:Hp,Only H→SqL K H a (ns.map V.int)→sp [.ref a] H (fun v _=>v = .bl true) fun _ _ _=>False)
    (hCX:∀ H e s',CX [] H s₁ (fun _ _ _=>False) e s'→False) :
    codeAny (model P w) callerA (.call (.ref fa) ⟨[.ref a],[]⟩) (fun r s'=>r = .ok (.ret (.bool true))∧OldK s₁.heap s'.heap∧s'.os = s₁.os∧AllBare s'.gens) s₁:=by
  have rv:=zJV hi
  have lenV:=hi.length
  have core:∀ H:Hp,Only H→SqL K H a (ns.map V.int)→HOk P w H s₁.heap→(∀ b,H b≠none→b = a)→(H a≠none→K.lookup a = none) →
      codeAny (model P w) callerA (.call (.ref fa) ⟨[.ref a],[]⟩) (fun r s'=>r = .ok (.ret (.bool true))∧OldK s₁.heap s'.heap∧s'.os = s₁.os∧AllBare s'.gens) s₁:=by
    intro H hO hS hok hA hK
    have base_of:∀ {b:Addr} {o:Obj},s₁.heap.get? b = some o→H b = none→(hidT s₁.heap H).get? b = some o:=fun e n=>zSY e n
    have noA:∀ {b:Addr} {o:Obj} {es:Array DictEntry} {ep:Nat},s₁.heap.get? b = some o→o.data = .dict es ep→H b = none:=fun {b o es ep} e d=>by
      cases q:H b with
      | none=>rfl
      | some u =>
        have e':b = a:=hA b (by rw [q]; simp)
        subst e'
        rw [ha] at e; cases e
        have d':Data.seq vs.toArray _ = Data.dict es ep:=d
        cases d'
    have nsK:∀ {b:Addr} {m:Str→Option Value},s₁.heap.Ns b m→(hidT s₁.heap H).Ns b m:=fun {b m} ⟨o,es,ep,e,d,r⟩=>⟨o,es,ep,base_of e (noA e d),d,r⟩
    have hKb:K.In (hidT s₁.heap H):=fun b o e=>base_of (KX b o e) (by
      cases q:H b with
      | none=>rfl
      | some u =>
        have e':b = a:=hA b (by rw [q]; simp)
        subst e'
        rw [hK (by rw [q]; simp)] at e; cases e)
    have hM:Mod K mg (hidT s₁.heap H):=⟨hKb,nsK hns,⟨mb,nsK hb,hbb⟩,let ⟨mc,h1,h2⟩:=hlim; ⟨mc,nsK h1,h2⟩⟩
    have e0:Env0 P w K mg (hidT s₁.heap H) callerA [] s₁ H:=⟨rfl,hM,fun b o e=>zV1 e,qF4 (zQX _ _),trivial,fun b hb=>absurd (show b∈([]:List Addr) from hb) (by simp),hok,.of_eq hg⟩
    refine codeAny_mono ((F _ hKb (nsK hns)).run callerA [] s₁ H ⟨[.ref a],[]⟩ [.ref a] [.ref a] _ _ hr e0 (hbind s₁ (.ref a)) (.cons rfl .nil) (hsp H hO hS)) fun r s' h=>?_
    cases r with
    | error e=>exact (hCX H e s' h).elim
    | ok fl =>
      cases fl with
      | next=>exact qA5 h
      | brk=>exact qA5 h
      | cont=>exact qA5 h
      | ret u =>
        obtain ⟨v,H',os,bare,un,hok',r',q⟩:=h
        have q':v = .bl true:=q
        subst q'
        obtain rfl:u = Value.bool true:=r'
        refine ⟨rfl,OldK.of_keep fun b o e=>?_,os,bare⟩
        cases q:H b with
        | none=>exact un.keep b o e q (by intro z; exact absurd (show b∈([]:List Addr) from z) (by simp)) (by simp)
        | some u =>
          rcases hO b with z | ⟨ob,xs,z⟩
          · rw [q] at z; cases z
          · have z2:=un.frzs b ob _ z
            obtain ⟨e1,_⟩:=hok b _ z
            obtain ⟨e2,_⟩:=hok' b _ z2
            rw [e] at e1; cases e1
            exact e2
  cases hk:K.lookup a with
  | some o =>
    have e:=KX a o hk
    rw [ha] at e
    cases e
    refine core (fun _=>none) (fun _=>.inl rfl) (.inr ⟨_,vs.toArray,_,hk,rfl,rfl,rfl,by rw [qAc,lenV]; exact hl,by simpa using rv⟩) (fun b u z=>by have z':(none:Option HO) = some u:=z; cases z') (fun b z=>absurd rfl z) fun z=>absurd rfl z
  | none =>
    refine core (fun b=>if b = a then some (.frz { cls:=.type "list",data:=.seq vs.toArray } (.lst (ns.map V.int))) else none) (fun b=>?_) (.inl (.inr ⟨{ cls:=.type "list",data:=.seq vs.toArray },if_pos rfl⟩)) (fun b u z=>?_) (fun b z=>?_) fun _=>hk
    · by_cases hb:b = a
      · exact .inr ⟨_,_,if_pos hb⟩
      · exact .inl (if_neg hb)
    · by_cases hb:b = a
      · have z':=(if_pos hb).symm.trans z
        cases z'
        subst hb
        exact ⟨ha,by rw [qAj]; exact hl,vs,_,rv,ha⟩
      · have z':=(if_neg hb).symm.trans z
        cases z'
    · by_cases hb:b = a
      · exact hb
      · exact absurd (if_neg hb) z
noncomputable def zCN (s:Stmt):Arguments:=match s with
  | .FunctionDef _ a _ _ _ _ _ _ _ _=>a
  | _=>{ posonlyargs:=[],args:=[],vararg:=none,kwonlyargs:=[],kw_defaults:=[],kwarg:=none,defaults:=[] }
noncomputable def zBC (s:Stmt):List Stmt:=match s with
  | .FunctionDef _ _ b _ _ _ _ _ _ _=>b
  | _=>[]
noncomputable def zA7 (s:Stmt):Scope:=match s with
  | .FunctionDef _ _ _ _ _ _ sc _ _ _=>sc
  | _=>{ kind:=.function,names:=[],isGenerator:=false,isCoroutine:=false }
abbrev CX0:CXT:=fun _ _ _ _ _ _=>False
abbrev E0:XK:=fun _ _ _=>False
theorem zZQ {X:Cx}:zOC CX0 X E0:=fun _ _ _ _ _ _ _ h=>h.elim
structure Fun (K:qA2) (x qual:Str) (st:Stmt) (f:Addr) (fd:FuncData):Prop where
  ex:∃ (oc:Value) (od:Option Addr) (kV doc pm:Value) (an:Option Addr) (cdv ct:Value) (osl:Array (Option Value)),
    fd = qBq x qual (zCN st) (zBC st) (zA7 st) .none kV doc pm an cdv ct∧K.lookup f = some ⟨oc,od,.func fd,osl⟩∧qDu K cdv qual = true
  kp:qB9 K (.ref f) = true
section
variable {P:Program} {w:World} {K:qA2} {mg:Str→Option Value} {base:Heap}
theorem Fun.ok {x qual:Str} {st:Stmt} {f:Addr} {fd:FuncData} {N ps:List Str} {k:Nat} {sp:Sp} (F:Fun K x qual st f fd) (S:FnScope N ps (zA7 st)) (len:∀ vs H Q E,sp vs H Q E→vs.length = ps.length)
    (hbody:∀ (cdv:Value) (A:Around) (outer:List Env) (s:Shared) (H:Hp) (vs:List V) (Q:VK) (E:XK),Room k (A.deeper (envOfC qual (zA7 st) s.heap.objs.size f cdv))→sp vs H Q E →
      ∃ t,PSs (cxOf CX0 P w K mg base N qual (zA7 st) f cdv A outer s H E).nox (zBC st) t∧t { nx:=fun _ H'=>Q .non H',rt:=Q } (start N vs) H):FnOk P w K mg base CX0 (k + 1) f fd ps sp:=by
  obtain ⟨oc,od,kV,doc,pm,an,cdv,ct,osl,rfl,lk,hcd⟩:=F.ex
  refine zYJ lk hcd S len fun A outer s H vs Q E hr hsp=>?_
  obtain ⟨t,h,q⟩:=hbody cdv A outer s H vs Q E hr hsp
  exact ⟨t,h.nox,q⟩
theorem Fun.binds {x qual:Str} {st:Stmt} {f:Addr} {fd:FuncData} {ps:List Str} (F:Fun K x qual st f fd)
    (h:∀ (kV doc pm:Value) (an:Option Addr) (cdv ct:Value) (us:List Value),us.length = ps.length→bindArgs (qBq x qual (zCN st) (zBC st) (zA7 st) .none kV doc pm an cdv ct) ⟨us,[]⟩ = pure (ps.zip us)):Binds K fd ps []:=by
  obtain ⟨oc,od,kV,doc,pm,an,cdv,ct,osl,rfl,lk,hcd⟩:=F.ex
  exact .all (h kV doc pm an cdv ct)
theorem zTY {x qual:Str} {st:Stmt} {f:Addr} {oc:Value} {od an:Option Addr} {osl:Array (Option Value)} {kV doc pm cdv ct:Value} (l:K.lookup f = some ⟨oc,od,.func (qBq x qual (zCN st) (zBC st) (zA7 st) .none kV doc pm an cdv ct),osl⟩)
    (c:qDu K cdv qual = true) (k:qB9 K (.ref f) = true):Fun K x qual st f (qBq x qual (zCN st) (zBC st) (zA7 st) .none kV doc pm an cdv ct):=⟨⟨oc,od,kV,doc,pm,an,cdv,ct,osl,rfl,l,c⟩,k⟩
end
theorem zMM {A:Around} {k:Nat} (hr:Room k A):A.units + 1 < cLine:=qCo (Nat.add_le_add_left (by decide:1≤64) _) hr.units
section
variable {X:Cx}
end
def Same (H H':Hp):Prop:=∀ b o,H b = some o→H' b = some o
theorem Same.refl (H:Hp):Same H H:=fun _ _ h=>h
theorem Same.trans {H H1 H2:Hp} (a:Same H H1) (b:Same H1 H2):Same H H2:=fun c o h=>b c o (a c o h)
theorem Same.free {H H':Hp} (e:Same H H') {l:Addr} (h:H' l = qFi):H l = qFi:=by
  cases q:H l with
  | none=>rfl
  | some o =>
    rw [e l o q] at h
    cases h
theorem Same.seq {K:qA2} {H H':Hp} {a:Addr} {xs:List V} (e:Same H H') (h:SqL K H a xs):SqL K H' a xs:=by
  rcases h with (h | ⟨o,h⟩) | h
  · exact .inl (.inl (e _ _ h))
  · exact .inl (.inr ⟨o,e _ _ h⟩)
  · exact .inr h
section
variable {κ:Type} [DecidableEq κ]
end
end L2
namespace L2
open PySem PySem.Spec PyProof.Rows
theorem asN {a b:Nat} (h:a < b):a < b:=h
theorem asL {a b:Nat} (h:a≤b):a≤b:=h
theorem asE {a b:Nat} (h:a = b):a = b:=h
noncomputable def clos (cells:List (Str × Addr)):List (Str × NameKind)→List (Str × Addr)→List (Str × Addr)
  | [],acc=>acc
  | (n,k) :: r,acc=>if k == .free then clos cells r ((n,(cells.lookup n).getD 0) :: acc) else clos cells r acc
theorem zDX (cells:List (Str × Addr)):∀ (names:List (Str × NameKind)) (acc:List (Str × Addr)),clos cells names acc = clos cells names [] ++ acc
  | [],_=>rfl
  | (n,k) :: r,acc=>by
    unfold clos
    split
    · rw [zDX cells r (_ :: acc),zDX cells r [_],qBh]; rfl
    · exact zDX cells r acc
theorem zG9 {cells:List (Str × Addr)} {x:Str} {c:Addr}:∀ {names:List (Str × NameKind)},(x,c)∈clos cells names []→(x,NameKind.free)∈names∧c = (cells.lookup x).getD 0
  | [],h=>by simp [clos] at h
  | (n,k) :: r,h=>by
    unfold clos at h
    split at h
    · rename_i hk
      rw [zDX] at h
      rcases qB8.mp h with h | h
      · obtain ⟨h1,h2⟩:=zG9 h
        exact ⟨qAt _ h1,h2⟩
      · have e:=qBe.mp h
        injection e with e1 e2
        subst e1
        have hk':k = .free:=by simpa using hk
        subst hk'
        exact ⟨qAz,e2⟩
    · obtain ⟨h1,h2⟩:=zG9 h
      exact ⟨qAt _ h1,h2⟩
theorem zJG {cells:List (Str × Addr)} {x:Str}:∀ {names:List (Str × NameKind)},(x,NameKind.free)∈names→(x,(cells.lookup x).getD 0)∈clos cells names []
  | [],h=>by simp at h
  | (n,k) :: r,h=>by
    unfold clos
    rcases qAb.mp h with e | h
    · injection e with e1 e2
      subst e1; subst e2
      rw [if_pos (by rfl),zDX]
      exact qAw _ (by simp)
    · split
      · rw [zDX]
        exact qB6 _ (zJG h)
      · exact zJG h
theorem zBE:∀ (names:List (Str × NameKind)) (n:Nat) (acc:List (Str × Addr)),cellsFrom n names acc = cellsFrom n names [] ++ acc
  | [],_,_=>rfl
  | (x,k) :: r,n,acc=>by
    unfold cellsFrom
    split
    · rw [zBE r (n + 1) (_ :: acc),zBE r (n + 1) [_],qBh]; rfl
    · exact zBE r n acc
theorem zCD {x:Str} {c:Addr}:∀ {names:List (Str × NameKind)} {n:Nat},(x,c)∈cellsFrom n names []→(x,NameKind.cell)∈names
  | [],_,h=>by simp [cellsFrom] at h
  | (y,k) :: r,n,h=>by
    unfold cellsFrom at h
    split at h
    · rename_i hk
      rw [zBE] at h
      rcases qB8.mp h with h | h
      · exact qAt _ (zCD h)
      · have e:=qBe.mp h
        injection e with e1 e2
        subst e1
        have hk':k = .cell:=by simpa using hk
        subst hk'
        exact qAz
    · exact qAt _ (zCD h)
theorem zBU {α:Type} {x:Str} {a:α}:∀ {l:List (Str × α)},(l.map (·.1)).Nodup→(x,a)∈l→l.lookup x = some a
  | [],_,h=>by simp at h
  | (y,b) :: r,nd,h=>by
    have nd':(y :: r.map (·.1)).Nodup:=nd
    obtain ⟨h1,h2⟩:=qBl.mp nd'
    rcases qAb.mp h with e | hm
    · injection e with e1 e2
      subst e1; subst e2
      rw [qBr,beq_self_eq_true]
    · have hne:(x == y) = false:=by
        rw [beq_eq_false_iff_ne]
        rintro rfl
        exact h1 (qAv.mpr ⟨(x,a),hm,rfl⟩)
      rw [qBr,hne]
      exact zBU h2 hm
theorem zE2 {α:Type} {x:Str}:∀ {l:List (Str × α)},(∀ a,(x,a) ∉ l)→l.lookup x = none
  | [],_=>rfl
  | (y,b) :: r,h=>by
    have hne:(x == y) = false:=by
      rw [beq_eq_false_iff_ne]
      rintro rfl
      exact h b qAz
    rw [qBr,hne]
    exact zE2 fun a m=>h a (qAt _ m)
theorem zE1 {α:Type} {x:Str} {a:α}:∀ {l:List (Str × α)},(x,a)∈l→∃ b,l.lookup x = some b
  | [],h=>by simp at h
  | (y,b) :: r,h=>by
    rw [qBr]
    cases e:x == y with
    | true=>exact ⟨b,rfl⟩
    | false =>
      rcases qAb.mp h with q | q
      · injection q with q1 _
        subst q1
        rw [beq_self_eq_true] at e; cases e
      · exact zE1 q
theorem zHU {α:Type} {x:Str}:∀ (l k:List (Str × α)),(l ++ k).lookup x = (l.lookup x).or (k.lookup x)
  | [],k=>by simp
  | (y,b) :: r,k=>by
    show qGh x ((y,b) :: (r ++ k)) = _
    rw [qBr,qBr]
    cases x == y with
    | true=>rfl
    | false=>exact zHU r k
def zZ4 (sc:Scope) (env:Env):Prop:=∀ x,(x,NameKind.free)∈sc.names→env.kindOf x = some .cell∨env.kindOf x = some .free
theorem zF5 {sc:Scope} {env:Env} (h:∀ x,(x,NameKind.free)∈sc.names→∃ c,env.cells.lookup x = some c):closureFor sc env = pure (clos env.cells sc.names []):=by
  have go:∀ (names:List (Str × NameKind)) (acc:List (Str × Addr)),(∀ x,(x,NameKind.free)∈names→∃ c,env.cells.lookup x = some c) →
      (forIn names acc fun (x:Str × NameKind) (cs:List (Str × Addr))=>(match x with | (name,kind)=>if (kind == NameKind.free) = true then (do let c ← cellOf env name; pure (qCq ((name,c) :: cs))) else pure (qCq cs):Sem (ForInStep (List (Str × Addr))))) = pure (clos env.cells names acc):=by
    intro names
    induction names with
    | nil=>intro acc _; rfl
    | cons p r ih =>
      intro acc hn
      obtain ⟨n,k⟩:=p
      have hr:∀ x,(x,NameKind.free)∈r→∃ c,env.cells.lookup x = some c:=fun x hx=>hn x (qAt _ hx)
      rw [qF5]
      unfold clos
      by_cases hk:(k == NameKind.free) = true
      · have hk':k = .free:=by simpa using hk
        subst hk'
        obtain ⟨c,hc⟩:=hn n qAz
        have e:cellOf env n = pure c:=by unfold cellOf; rw [hc]
        rw [if_pos (by rfl)]
        simp only [if_pos (show (NameKind.free == NameKind.free) = true from rfl),e,hc,qEu,pure_bind]
        exact ih _ hr
      · rw [if_neg hk]
        simp only [if_neg hk,pure_bind]
        exact ih _ hr
  unfold closureFor
  have q:=go sc.names [] h
  first
    | (rw [show (forIn sc.names ([]:List (Str × Addr)) _:Sem (List (Str × Addr))) = _ from q]; rfl)
    | (refine (congrArg (fun z=>z >>= pure) q).trans ?_; rfl)
    | (simp only [q]; rfl)
    | exact q
def zDW (sc:Scope) (C:Addr) (env:Env):Env :=
  { scope:=relabel sc env,locals:=C,globals:=env.globals,cells:=cellsFrom (C + 1) sc.names (clos env.cells sc.names []),qual:=env.qual,func:=none,code:=env.code,frame:=env.frame,builtins:=env.builtins }
theorem zEI {M:Model} {A:Around} {E:Value→Shared→Prop} {s:Shared} {sc:Scope} {env:Env} {cl:List (Str × Addr)} {Q:Env→Shared→Prop}
    (hQ:Q { scope:=sc,locals:=s.heap.objs.size,globals:=env.globals,cells:=cellsFrom (s.heap.objs.size + 1) sc.names cl,qual:=env.qual,func:=none,code:=env.code,frame:=env.frame,builtins:=env.builtins }
      { s with heap:=pushCells (s.heap.push { cls:=.type "dict",data:=.dict #[] }) sc.names }) :
    wpAny M A (newFunctionEnv sc env.globals cl [] env.qual none .none (some env)) Q E s:=by
  simp only [newFunctionEnv,qEg,if_true]
  refine wpAny_bind (wpAny_alloc ?_)
  refine wpAny_bind (wpAny_layCells _ (fun name kind cells=>by cases hkc:kind == NameKind.cell <;> simp [hkc]) _ _ _ _ ?_)
  rw [show ({ s with heap:=s.heap.push { cls:=.type "dict",data:=.dict #[] } }:Shared).heap.objs.size = s.heap.objs.size + 1 from Heap.size_push ..]
  refine wpAny_bind ?_
  rw [List.forIn_nil]
  exact wpAny_pure (wpAny_pure hQ)
def zD4 (X:Cx) (N':List Str) (sc:Scope) (C:Addr) (s:Shared) (H:Hp) (fp:List Addr):Cx :=
  { X with N:=N',s₀:=s,H₀:=H,env:=zDW sc C X.env,outer:=X.stack,stack:=X.stack,ex:=fp,fn:=fun x=>sc.names.lookup x == some .cell,pn:=[],xe:=fun _ _=>False }
def PTs (X:Cx) (ifs:List Expr) (t:TT):Prop :=
  ∀ (pins:List (Addr × Obj)) (s:Shared) (σ:St) (H:Hp) (Q:Bool→Hp→Prop),Inv X pins σ H s→t σ H Q →
    wpAny (model X.prog X.w) X.A (forIn ifs true fun c r=>if r = true then do let ok ← isTrue c X.env (eval c X.env); pure (qCq ok) else pure (qCq r)) (TP X pins σ Q) X.xe s
noncomputable def tYes:TT:=fun _ H Q=>Q true H
theorem zDK {X:Cx}:PTs X [] tYes:=fun _ _ _ H _ I h=>wpAny_tests_nil ⟨H,I,h⟩
theorem zFD {X:Cx} {c:Expr} {t:TT} (h:PT X c t):PTs X [c] t:=fun pins s σ H Q I q=>wpAny_tests_one (h pins s σ H Q I q)
structure CompNames (N N':List Str) (k:Nat) (sc:Scope) (env:Env):Prop where
  kind:sc.kind = .function
  nd:(sc.names.map (·.1)).Nodup
  len:N'.length = N.length + k
  old:∀ (i:Nat) (x:Str),N'[i]? = some x→i < N.length→(x,NameKind.free)∈sc.names∧N[i]? = some x∨sc.names.lookup x = none
  free:zZ4 sc env
theorem zBH {sc:Scope} {env:Env} {x:Str} {k:NameKind}:∀ {names:List (Str × NameKind)},
    (names.map fun (n,k)=>if (k == NameKind.free && env.scope.kind == .function && env.kindOf n == some .cell) then (n,NameKind.cell) else (n,k)).lookup x = some k →
    names.lookup x = some k∨(names.lookup x = some .free∧k = .cell)
  | [],h=>by simp at h
  | (n,j) :: r,h=>by
    have ih:=@zBH sc env x k r
    rw [qAi] at h
    rw [qBr]
    by_cases hc:(j == NameKind.free && env.scope.kind == .function && env.kindOf n == some .cell) = true
    · have h':qGh x ((n,NameKind.cell) :: (r.map fun (n,k)=>if (k == NameKind.free && env.scope.kind == .function && env.kindOf n == some .cell) then (n,NameKind.cell) else (n,k))) = some k:=by
        rw [← h]; simp only [if_pos hc]
      rw [qBr] at h'
      cases e:x == n with
      | true =>
        rw [e] at h'
        have hk:k = .cell:=(qB7 h').symm
        have hj:j = .free:=by
          simp only [qBb,beq_iff_eq] at hc
          exact hc.1.1
        subst hj
        exact .inr ⟨rfl,hk⟩
      | false =>
        rw [e] at h'
        exact ih h'
    · have h':qGh x ((n,j) :: (r.map fun (n,k)=>if (k == NameKind.free && env.scope.kind == .function && env.kindOf n == some .cell) then (n,NameKind.cell) else (n,k))) = some k:=by
        rw [← h]; simp only [if_neg hc]
      rw [qBr] at h'
      cases e:x == n with
      | true=>rw [e] at h'; exact .inl h'
      | false=>rw [e] at h'; exact ih h'
section
variable {X:Cx} {N':List Str} {k:Nat} {sc:Scope} {pins:List (Addr × Obj)} {σ:St} {H:Hp} {s:Shared}
theorem zP2 {C:Addr} {x:Str} {c:Addr} (nd:(sc.names.map (·.1)).Nodup) (h:(zDW sc C X.env).cells.lookup x = some c) :
    ((x,c)∈cellsFrom (C + 1) sc.names []∧(x,NameKind.cell)∈sc.names)∨((x,NameKind.free)∈sc.names∧c = (X.env.cells.lookup x).getD 0):=by
  have m:=mem_of_lookup h
  have m':(x,c)∈cellsFrom (C + 1) sc.names (clos X.env.cells sc.names []):=m
  rw [zBE] at m'
  rcases qB8.mp m' with z | z
  · exact .inl ⟨z,zCD z⟩
  · exact .inr (zG9 z)
theorem zE4 {C:Addr} {x:Str} (nd:(sc.names.map (·.1)).Nodup) (h:(x,NameKind.free)∈sc.names):(zDW sc C X.env).cells.lookup x = some ((X.env.cells.lookup x).getD 0):=by
  show (cellsFrom (C + 1) sc.names (clos X.env.cells sc.names [])).lookup x = _
  rw [zBE,zHU,zE2 (fun a m=>?_),Option.none_or]
  · obtain ⟨b,hb⟩:=zE1 (zJG (cells:=X.env.cells) h)
    have:=(zG9 (mem_of_lookup hb)).2
    rw [hb,this]
  · have e1:=zBU nd (zCD m)
    rw [zBU nd h] at e1
    cases e1
theorem zSX (I:Inv X pins σ H s) (hc:X.calm = true) (S:CompNames X.N N' k sc X.env) {fp:List Addr} (hf:∀ b∈fp,FpOk X pins H b) (hfo:∀ b∈fp,∃ o,s.heap.get? b = some o)
    {s4:Shared} {D C:Addr} (eD:D = s.heap.objs.size) (eC:C = s.heap.objs.size + 1)
    (e4:s4 = { s with heap:=pushCells ((s.heap.push { cls:=.type "list",data:=.seq #[] 0 }).push { cls:=.type "dict",data:=.dict #[] }) sc.names }) :
    Inv (zD4 X N' sc C s H fp) [(D,{ cls:=.type "list",data:=.seq #[] 0 })] (σ ++ qA8 k none) H s4∧∀ b∈fp,FpOk (zD4 X N' sc C s H fp) [(D,{ cls:=.type "list",data:=.seq #[] 0 })] H b:=by
  subst eD eC e4
  generalize hh1:s.heap.push { cls:=.type "list",data:=.seq #[] 0 } = h1
  generalize hh2:h1.push { cls:=.type "dict",data:=.dict #[] } = h2
  have sz1:h1.objs.size = s.heap.objs.size + 1:=by rw [← hh1]; exact Heap.size_push ..
  have sz2:h2.objs.size = s.heap.objs.size + 2:=by rw [← hh2,Heap.size_push,sz1]
  have k1:∀ b o,s.heap.get? b = some o→h1.get? b = some o:=fun b o e=>by rw [← hh1]; exact Heap.get?_push_of_some _ e
  have k2:∀ b o,h1.get? b = some o→h2.get? b = some o:=fun b o e=>by rw [← hh2]; exact Heap.get?_push_of_some _ e
  have k3:∀ b o,h2.get? b = some o→(pushCells h2 sc.names).get? b = some o:=pushCells_keeps sc.names h2
  have kk:∀ b o,s.heap.get? b = some o→(pushCells h2 sc.names).get? b = some o:=fun b o e=>k3 b o (k2 b o (k1 b o e))
  have own:CellsOk (pushCells h2 sc.names) h2.objs.size (cellsFrom h2.objs.size sc.names []):=cellsFrom_ok sc.names h2 h2.objs.size [] ⟨fun _ _ hm=>(nomatch hm),qFt⟩ (qAa _)
  have eC1:s.heap.objs.size + 1 + 1 = h2.objs.size:=by rw [sz2]
  have freeCell:∀ x,(x,NameKind.free)∈sc.names→∃ c,X.env.cells.lookup x = some c:=fun x hx=>I.ok.has x (S.free x hx)
  have cells:∀ x c,(zDW sc (s.heap.objs.size + 1) X.env).cells.lookup x = some c →
      ((x,c)∈cellsFrom h2.objs.size sc.names []∧(x,NameKind.cell)∈sc.names∧(pushCells h2 sc.names).IsCell c none∧h2.objs.size≤c)∨((x,NameKind.free)∈sc.names∧X.env.cells.lookup x = some c):=fun x c e=>by
    rcases zP2 S.nd e with ⟨m,q⟩ | ⟨m,q⟩
    · rw [eC1] at m
      exact .inl ⟨m,q,(own.empty x c m).1,(own.empty x c m).2⟩
    · obtain ⟨c',hc'⟩:=freeCell x m
      rw [hc',qEu] at q
      subst q
      exact .inr ⟨m,hc'⟩
  have old:∀ x c,X.env.cells.lookup x = some c→c < s.heap.objs.size:=fun x c e=>by
    obtain ⟨v,q⟩:=I.cell x c e
    exact q.lt
  have fpl:∀ b∈fp,b < s.heap.objs.size:=fun b hb=>by
    obtain ⟨o,e⟩:=hfo b hb
    exact Heap.lt_size e
  have hCn:H (s.heap.objs.size + 1) = none:=I.hok.fresh (qBv _)
  have hDn:H s.heap.objs.size = none:=I.hok.fresh (qAa _)
  have nofs:∀ a,s.heap.objs.size≤a→a ∉ frs X.stack:=fun a ha hb=>by
    rcases qAb.mp (I.stkSub a hb) with e | hb
    · have t1:=asN I.lt
      have t2:=asE e
      have t3:=asL ha
      omega
    · exact I.nofs ha hb
  have fin:∀ b∈fp,b ∉ frs X.stack:=fun b hb z=>by
    obtain ⟨f0,f1,f2,f3,f4,f5⟩:=hf b hb
    rcases qAb.mp (I.stkSub b z) with e | z
    · exact f1 e
    · exact f2 z
  have ok:(zD4 X N' sc (s.heap.objs.size + 1) s H fp).Ok:=by
    refine ⟨I.ok.mod,S.kind,I.ok.glob,I.ok.blt,qBv _,?_,?_,?_,I.ok.hd,I.ok.frames,.inl rfl,?_,I.bs,qAq I.ok.bsz I.sz,?_,fin,I.stack,I.stkFree⟩
    · intro x y c hx hy
      rcases cells x c hx with ⟨m1,_,_,g1⟩ | ⟨m1,g1⟩ <;> rcases cells y c hy with ⟨m2,_,_,g2⟩ | ⟨m2,g2⟩
      · exact name_of_addr own.apart m1 m2
      · exact absurd (qAe (old y c g2) (qAq (by rw [sz2]; exact qGa _ _) g1)) (qC8 _)
      · exact absurd (qAe (old x c g1) (qAq (by rw [sz2]; exact qGa _ _) g2)) (qC8 _)
      · exact I.ok.inj x y c g1 g2
    · intro x hx
      have hx:(relabel sc X.env).names.lookup x = some .cell∨(relabel sc X.env).names.lookup x = some .free:=hx
      have two:sc.names.lookup x = some .cell∨sc.names.lookup x = some .free:=by
        rcases hx with hx | hx
        · rcases zBH (sc:=sc) hx with q | ⟨q,_⟩
          · exact .inl q
          · exact .inr q
        · rcases zBH (sc:=sc) hx with q | ⟨_,q⟩
          · exact .inr q
          · cases q
      rcases two with q | q
      · have:=qDk sc.names (s.heap.objs.size + 1 + 1) (clos X.env.cells sc.names []) (.inl q)
        exact qD4.mp this
      · exact ⟨_,zE4 S.nd (mem_of_lookup q)⟩
    · intro x c hx e
      have hx:(sc.names.lookup x == some NameKind.cell) = true:=hx
      have hx':sc.names.lookup x = some .cell:=by simpa using hx
      rcases cells x c e with ⟨_,_,_,g⟩ | ⟨m,_⟩
      · show s.heap.objs.size≤c
        omega
      · rw [zBU S.nd m] at hx'
        cases hx'
    · intro b hb
      refine ⟨?_,fun x c e z=>?_⟩
      · exact qAk (qBc (fpl b hb))
      · rcases cells x c e with ⟨_,_,_,g⟩ | ⟨_,g⟩
        · have t1:=asN (fpl b hb)
          have t2:=asL g
          have t3:=asE z
          omega
        · exact (hf b hb).2.2.2.2.1 x c g z
    · intro b o e hb
      rcases (hf b hb).2.2.2.1 with z | z
      · exact I.ok.noex b o e z
      · exact absurd (qAe (Heap.lt_size e) (qAq I.ok.bsz z)) (qC8 _)
  have ns:(pushCells h2 sc.names).Ns (s.heap.objs.size + 1) fun _=>none:=by
    have q:h2.Ns h1.objs.size fun _=>none:=by rw [← hh2]; exact Heap.Ns.new h1 (.type "dict")
    rw [sz1] at q
    exact q.keeps k3
  have hD1:h1.get? s.heap.objs.size = some { cls:=.type "list",data:=.seq #[] 0 }:=by rw [← hh1]; exact Heap.get?_push_size _ rfl
  refine ⟨⟨ok,rfl,I.bare,Un.kept kk,⟨_,ns,?_⟩,?_,hCn,?_,?_,I.hok.kept kk,?_⟩,?_⟩
  · intro i x v h1 h2 h3
    have hi:i < X.N.length:=by
      rw [← I.len]
      by_cases hi:i < σ.length
      · exact hi
      · rw [qA6 (by omega),qBy] at h2
        split at h2 <;> cases h2
    have h2':σ[i]? = some (some v):=by
      rw [qA7 (by rw [I.len]; exact hi)] at h2
      exact h2
    have h1:N'[i]? = some x:=h1
    rcases S.old i x h1 hi with ⟨m,e⟩ | e
    · obtain ⟨mm,hn,hl⟩:=I.loc
      have hv:Vis X.env.scope x:=(S.free x m).elim (fun z=>.inr (.inl z)) fun z=>.inr (.inr z)
      obtain ⟨u,r,l⟩:=hl i x v e h2' hv
      refine ⟨u,r,?_⟩
      rcases l with ⟨z,_⟩ | ⟨_,c,hc,hcell⟩
      · rcases S.free x m with z' | z' <;> rw [z] at z' <;> cases z'
      · refine .inr ⟨?_,c,?_,hcell.keeps kk⟩
        · have hv3:(relabel sc X.env).names.lookup x = some .local∨(relabel sc X.env).names.lookup x = some .cell∨(relabel sc X.env).names.lookup x = some .free:=h3
          rcases hv3 with q | q | q
          · rcases zBH (sc:=sc) q with q | ⟨_,q⟩
            · rw [zBU S.nd m] at q; cases q
            · cases q
          · exact .inl q
          · exact .inr q
        · have q:=zE4 (X:=X) (C:=s.heap.objs.size + 1) S.nd m
          rw [hc,qEu] at q
          exact q
    · exfalso
      have hv3:(relabel sc X.env).names.lookup x = some .local∨(relabel sc X.env).names.lookup x = some .cell∨(relabel sc X.env).names.lookup x = some .free:=h3
      rcases hv3 with q | q | q <;> rcases zBH (sc:=sc) q with q | ⟨q,_⟩ <;> rw [e] at q <;> cases q
  · intro x c e
    rcases cells x c e with ⟨_,_,g,_⟩ | ⟨_,g⟩
    · exact ⟨_,g⟩
    · obtain ⟨v,q⟩:=I.cell x c g
      exact ⟨v,q.keeps kk⟩
  · intro x c e
    rcases cells x c e with ⟨_,_,_,g⟩ | ⟨_,g⟩
    · exact I.hok.fresh (by omega)
    · exact I.freeC x c g
  · intro p hp
    have hp':p = (s.heap.objs.size,{ cls:=.type "list",data:=.seq #[] 0 }):=by
      have:p∈([] ++ [(s.heap.objs.size,({ cls:=.type "list",data:=.seq #[] 0 }:Obj))]:List (Addr × Obj)):=hp
      simpa using this
    subst hp'
    refine ⟨k3 _ _ (k2 _ _ hD1),hDn,?_,nofs _ (qAa _),fun v z=>by cases z⟩
    show s.heap.objs.size≠s.heap.objs.size + 1
    omega
  · show (σ ++ qA8 k none).length = N'.length
    rw [qAr,qCa,I.len,S.len]
  · intro b hb
    obtain ⟨f0,f1,f2,f3,f4,f5⟩:=hf b hb
    refine ⟨f0,(ok.exf b hb).1,fin b hb,.inl hb,fun x c e=>(ok.exf b hb).2 x c e,fun p hp=>?_⟩
    have hp':p = (s.heap.objs.size,{ cls:=.type "list",data:=.seq #[] 0 }):=by
      have:p∈([] ++ [(s.heap.objs.size,({ cls:=.type "list",data:=.seq #[] 0 }:Obj))]:List (Addr × Obj)):=hp
      simpa using this
    subst hp'
    exact qBp (fpl b hb)
end
theorem zDY {prog:Program} {w:World} {A:Around} {R:Result→Shared→Prop} {s:Shared} {elt target iter:Expr} {ifs:List Expr} {scope:Scope} {pos:Pos} {it acc:Value} {env:Env} (I:Nat→Shared→Prop)
    (turn:∀ n s,I n s→wpAny (model prog w) A (pyNext it) (fun r s₁=>match r with
      | none=>R (.ok .next) s₁
      | some v=>wpAny (model prog w) A (letOwnedTupleGo target it v) (fun _ s₂'=>wpAny (model prog w) A (assign target env v) (fun _ s₂ =>
          wpAny (model prog w) A (forIn ifs true fun c r=>if r = true then do let ok ← isTrue c env (eval c env); pure (qCq ok) else pure (qCq r)) (fun ok s₃ =>
            if ok = true then wpAny (model prog w) A (eval elt env) (fun x s₄ =>
              wpAny (model prog w) A (call (.builtin "list.append") [acc,x]) (fun _ s₅=>∃ m,m < n∧I m s₅) (fun _ _=>False) s₄) (fun _ _=>False) s₃
            else ∃ m,m < n∧I m s₃) (fun _ _=>False) s₂) (fun _ _=>False) s₂') (fun _ _=>False) s₁) (fun _ _=>False) s)
    (n:Nat) (h:I n s) :
    codeAny (model prog w) A (.compLoop (.ListComp elt [⟨target,iter,ifs,0⟩] scope pos) 0 it acc env) R s:=by
  refine codeAny_loop rfl I (fun n s hI=>?_) n h
  show wpAny _ A ((compTurn (.ListComp elt [⟨target,iter,ifs,0⟩] scope pos) 0 it acc env).onRaise (fun x=>do noteFrame x env; theTreesLotGoes x)) _ _ s
  refine wpAny_noted ?_
  rw [compTurn_list]
  refine wpAny_bind (wpAny_standAt (wpAny_bind (wpAny_mono (turn n s hI) (fun r s₁ h₁=>?_) fun _ _ z=>z.elim)))
  cases r with
  | none=>exact wpAny_pure h₁
  | some v =>
    refine wpAny_bind (wpAny_mono h₁ (fun _ s₂' h₂'=>?_) fun _ _ z=>z.elim)
    refine wpAny_bind (wpAny_mono h₂' (fun _ s₂ h₂=>wpAny_bind (wpAny_mono h₂ (fun ok s₃ h₃=>?_) fun _ _ z=>z.elim)) fun _ _ z=>z.elim)
    cases ok with
    | false=>exact wpAny_pure ⟨rfl,h₃⟩
    | true =>
      exact wpAny_bind (wpAny_bind (wpAny_mono h₃ (fun x s₄ h₄=>wpAny_bind (wpAny_mono h₄ (fun _ s₅ h₅=>wpAny_pure (wpAny_pure ⟨rfl,h₅⟩)) fun _ _ z=>z.elim)) fun _ _ z=>z.elim))
def zTH (k:Nat) (g:TG) (tif:TT) (te:TE) (σ:St) (Q:VK) (J:It) (H1:Hp):Prop:=∃ W:Nat→Nat→List V→Hp→Prop,(∃ m,W 0 m [] H1)∧∀ i m acc H,W i m acc H →
  (J.stop i H∧∀ D,H D = none→Q (.ref D) (upd H D (.lst acc))) ∨
  (J.go i H∧acc.length < sizeLine∧∃ N:List V→Hp→Prop,(∀ acc' H',N acc' H'→∃ m',m' < m∧W (i + 1) m' acc' H')∧∀ x H',J.yld i H x H'→g x (σ ++ qA8 k none) H' fun σ2 H2=>∃ own:St,own.length = k∧σ2 = σ ++ own∧tif σ2 H2 fun b H3=>if b = true then te σ2 H3 fun v H4=>N (acc ++ [v]) H4 else N acc H3)
noncomputable def zUG (wi:TI) (k:Nat) (g:TG) (tif:TT) (te:TE):TE:=fun σ H Q=>wi σ H (zTH k g tif te σ Q)
theorem HOk.track {P:Program} {w:World} {H:Hp} {h:Heap} {a:Addr} {o:HO} (x:HOk P w H h) (hn:H a = none) (new:ObjOk P w (upd H a o) h a o):HOk P w (upd H a o) h:=fun b u e=>by
  by_cases hb:b = a
  · subst hb; rw [zAH] at e; cases e; exact new
  · rw [zAK hb] at e
    exact (x b u e).stay (fun c v _ q=>q) (fun c q=>by rw [zAK (zAN q hn)]; exact q) fun c xs q=>by rw [zAK (zAN q hn)]; exact q
section
variable {X:Cx} {N':List Str} {k:Nat} {sc:Scope} {tg iter elt:Expr} {ifs:List Expr} {wi:TI} {g:TG} {tif:TT} {te:TE} {pos:Pos}
theorem zI0 {pins:List (Addr × Obj)} {σ:St} {H2:Hp} {s2:Shared} {Q:VK} {RR:Value→Addr→Result→Shared→Prop} {E:Value→Shared→Prop} (hc:X.calm = true) (S:CompNames X.N N' k sc X.env)
    (hg:∀ C s H fp,PG (zD4 X N' sc C s H fp) tg g) (hif:∀ C s H fp,PTs (zD4 X N' sc C s H fp) ifs tif) (he:∀ C s H fp,PE (zD4 X N' sc C s H fp) elt te)
    {it:Addr} {fp:List Addr} {tn:Nat→Heap→Prop} {J:It} (I2:Inv X pins σ H2 s2) (T:Turn X.prog X.w X.K tg J fp it tn) (st2:tn 0 s2.heap) (f2:∀ b∈fp,FpOk X pins H2 b)
    {W:Nat→Nat→List V→Hp→Prop} {m0:Nat} (w0:W 0 m0 [] H2)
    (turn:∀ i m acc H,W i m acc H→(J.stop i H∧∀ D,H D = none→Q (.ref D) (upd H D (.lst acc))) ∨
      (J.go i H∧acc.length < sizeLine∧∃ N:List V→Hp→Prop,(∀ acc' H',N acc' H'→∃ m',m' < m∧W (i + 1) m' acc' H')∧∀ x H',J.yld i H x H'→g x (σ ++ qA8 k none) H' fun σ2 H2=>∃ own:St,own.length = k∧σ2 = σ ++ own∧tif σ2 H2 fun b H3=>if b = true then te σ2 H3 fun v H4=>N (acc ++ [v]) H4 else N acc H3))
    (hRR:∀ D C s' H',D < C→s2.heap.objs.size≤D→(∃ m,s'.heap.Ns C m)→H' C = none→C ∉ frs X.stack→Inv X pins σ H' s'→Q (.ref D) H'→RR (.ref D) C (.ok .next) s') :
    wpAny (model X.prog X.w) X.A (newList []) (fun acc s₃=>wpAny (model X.prog X.w) X.A (newFunctionEnv sc X.env.globals (clos X.env.cells sc.names []) [] X.env.qual none .none (some X.env)) (fun cenv s₄ =>
      codeAny (model X.prog X.w) X.A (.compStart (.ListComp elt [⟨tg,iter,ifs,0⟩] sc pos) 0 (.ref it) acc { cenv with scope:=relabel sc X.env }) (RR acc cenv.locals) s₄) E s₃) E s2:=by
  refine wpAny_newObj_type (zEI ?_)
  show codeAny _ _ (.compStart _ 0 (.ref it) (.ref s2.heap.objs.size) _) _ _
  have szp:(s2.heap.push { cls:=.type "list",dict:=none,data:=.seq ([]:List Value).toArray }).objs.size = s2.heap.objs.size + 1:=Heap.size_push ..
  obtain ⟨I4,F4⟩:=zSX (s4:={ s2 with heap:=pushCells ((s2.heap.push { cls:=.type "list",data:=.seq #[] 0 }).push { cls:=.type "dict",data:=.dict #[] }) sc.names }) I2 hc S f2 (fun b hb=>let ⟨o,e,_⟩:=T.obj 0 _ st2 b hb; ⟨o,e⟩) rfl rfl rfl
  generalize hC:(s2.heap.push { cls:=.type "list",dict:=none,data:=.seq ([]:List Value).toArray }).objs.size = C at *
  have eC:C = s2.heap.objs.size + 1:=szp
  rw [← eC] at I4 F4
  generalize hs4:({ s2 with heap:=pushCells ((s2.heap.push { cls:=.type "list",data:=.seq #[] 0 }).push { cls:=.type "dict",data:=.dict #[] }) sc.names }:Shared) = s4 at I4 F4
  have kk:∀ b o,s2.heap.get? b = some o→s4.heap.get? b = some o:=fun b o e=>by
    rw [← hs4]
    exact pushCells_keeps sc.names _ b o (Heap.get?_push_of_some _ (Heap.get?_push_of_some _ e))
  have st4:tn 0 s4.heap:=T.keep 0 _ _ st2 fun b _ o e=>kk b o e
  generalize hX':zD4 X N' sc C s2 H2 fp = X' at I4 F4
  have henv:X'.env = zDW sc C X.env:=by rw [← hX']; rfl
  have xprog:X'.prog = X.prog:=by rw [← hX']; rfl
  have xw:X'.w = X.w:=by rw [← hX']; rfl
  have xK:X'.K = X.K:=by rw [← hX']; rfl
  have xcalm:X'.calm = true:=by rw [← hX']; exact hc
  have xA:X'.A = X.A:=by rw [← hX']; rfl
  have xpn:X'.pn = []:=by rw [← hX']; rfl
  have xxe:X'.xe = fun _ _=>False:=by rw [← hX']; rfl
  have xs0:X'.s₀ = s2:=by rw [← hX']; rfl
  have xH0:X'.H₀ = H2:=by rw [← hX']; rfl
  have xfs:X'.fs = frs X.stack:=by rw [← hX']; rfl
  have xex:X'.ex = fp:=by rw [← hX']; rfl
  have hgX:PG X' tg g:=by rw [← hX']; exact hg C s2 H2 fp
  have hifX:PTs X' ifs tif:=by rw [← hX']; exact hif C s2 H2 fp
  have heX:PE X' elt te:=by rw [← hX']; exact he C s2 H2 fp
  have locC:X'.env.locals = C:=by rw [henv]; rfl
  generalize hDd:s2.heap.objs.size = D at *
  have loop:codeAny (model X.prog X.w) X.A (.compLoop (.ListComp elt [⟨tg,iter,ifs,0⟩] sc pos) 0 (.ref it) (.ref D) (zDW sc C X.env)) (RR (.ref D) C) s4:=by
    refine zDY (fun n s'=>∃ i H' acc its nn,Inv X' [] (σ ++ qA8 k none) H' s'∧tn i s'.heap∧(∀ b∈fp,H' b = none)∧H' D = none∧W i n acc H'∧acc.length≤sizeLine∧Vals acc its∧s'.heap.get? D = some { cls:=.type "list",data:=.seq its.toArray nn }) ?_ m0 ?_
    · rintro n s5 ⟨i,H5,acc,its,nn,I5,st5,fr5,hD5,w5,hz5,rv5,hL5⟩
      have hDlt:D < C:=by rw [eC]; exact qBw _
      have pinD:Inv X' [(D,{ cls:=.type "list",data:=.seq its.toArray nn })] (σ ++ qA8 k none) H5 s5:=I5.pins_of fun p hp=>by
        have hp':p = (D,{ cls:=.type "list",data:=.seq its.toArray nn }):=by simpa using hp
        subst hp'
        refine ⟨hL5,hD5,?_,?_,fun v z=>by cases z⟩
        · rw [locC]; exact qAk hDlt
        · have q:=(I4.pin (D,{ cls:=.type "list",data:=.seq #[] 0 }) (by simp)).2.2.2.1
          exact q
      have fpD:∀ {H':Hp} {oo:Obj},(∀ b∈fp,H' b = none)→∀ b∈fp,FpOk X' [(D,oo)] H' b:=fun {H' oo} hn b hb=>by
        obtain ⟨f0,f1,f2,f3,f4,f5⟩:=F4 b hb
        refine ⟨hn b hb,f1,f2,f3,f4,fun p hp=>?_⟩
        have hp':p = (D,oo):=by
          rw [xpn] at hp
          simpa using hp
        subst hp'
        exact f5 (D,{ cls:=.type "list",data:=.seq #[] 0 }) (by simp)
      rcases turn i n acc H5 w5 with ⟨stop,q⟩ | ⟨go,hlt,N,hN,step⟩
      · have dn:=T.done X' xprog xw xK xcalm i _ s5 _ H5 (fun _ _=>False) pinD (fpD fr5) st5 stop
        rw [xA] at dn
        refine thn dn fun r s6 z0=>?_
        obtain ⟨hr,I6⟩:=z0
        subst hr
        show RR (.ref D) C (.ok .next) s6
        have hL6:=(I6.pin (D,{ cls:=.type "list",data:=.seq its.toArray nn }) (by simp)).1
        have un6:Un (frs X.stack) fp H2 H5 s2.heap s6.heap:=by
          have:=I6.base
          rw [xs0,xH0,xfs,xex] at this
          exact this
        have hok6:HOk X.prog X.w H5 s6.heap:=by
          have:=I6.hok
          rw [xprog,xw] at this
          exact this
        have hDno:s2.heap.get? D = none:=Heap.get?_none_of_le (by rw [hDd]; exact qAa _)
        have un7:Un (frs X.stack) fp H2 (upd H5 D (.lst acc)) s2.heap s6.heap :=
          ⟨un6.keep,un6.slot,fun b o e n hx=>by
              have hb:b≠D:=by rintro rfl; rw [hDno] at e; cases e
              rw [zAK hb]; exact un6.free b o e n hx,un6.there,
            fun b xs e=>by
              have e':=un6.tups b xs e
              rw [zAK (zAN e' hD5)]; exact e',
            fun b o u e=>by
              have e':=un6.frzs b o u e
              rw [zAK (zAN e' hD5)]; exact e',
            fun b ps e=>by
              obtain ⟨more,e'⟩:=un6.tbls b ps e
              exact ⟨more,by rw [zAK (zAN e' hD5)]; exact e'⟩⟩
        have hok7:HOk X.prog X.w (upd H5 D (.lst acc)) s6.heap:=hok6.track hD5 ⟨hz5,its,nn,rv5,hL6⟩
        have os6:s6.os = s2.os:=by have:=I6.os; rw [xs0] at this; exact this
        have I7:Inv X pins σ (upd H5 D (.lst acc)) s6:=I2.call' os6 un7 hok7 I6.bare fun b hb=>by
          obtain ⟨f0,f1,f2,f3,f4,f5⟩:=f2 b hb
          exact ⟨f3,f1,f4,f5⟩
        obtain ⟨mm,hn,_⟩:=I6.loc
        rw [locC] at hn
        have hC5:H5 C = none:=by have:=I6.free; rw [locC] at this; exact this
        refine hRR D C s6 (upd H5 D (.lst acc)) hDlt (qAa _) ⟨mm,hn⟩ ?_ ?_ I7 (q D hD5)
        · rw [zAK (qBp hDlt)]; exact hC5
        · intro hb
          rcases qAb.mp (I2.stkSub C hb) with e | hb
          · have t1:=asN I2.lt
            have t2:=asE e
            rw [hDd] at t1
            have t3:=asN hDlt
            omega
          · exact I2.nofs (by rw [hDd]; exact qC9 hDlt) hb
      · have itm:=T.item X' xprog xw xK xcalm i _ s5 _ H5 (fun _ _=>False) pinD (fpD fr5) st5 go
        rw [xA] at itm
        refine thn itm fun r s6 z0=>?_
        obtain ⟨u,hr,h6⟩:=z0
        subst hr
        refine thn h6 fun _ s7 z0=>?_
        obtain ⟨x,H7,I7,r7,y7,st7,fr7⟩:=z0
        have I7':Inv X' ([(D,{ cls:=.type "list",data:=.seq its.toArray nn })] ++ zHR fp s7.heap) (σ ++ qA8 k none) H7 s7:=I7.pinned (fpD fr7) (T.obj _ _ st7)
        have asg:=hgX _ s7 _ H7 x u _ I7' r7 (step x H7 y7)
        rw [xprog,xw,xA,henv,xxe] at asg
        refine thn asg fun _ s8 z0=>?_
        obtain ⟨σ8,H8,I8,own,hown,hσ8,q8⟩:=z0
        have weak:∀ {pl:List (Addr × Obj)} {H':Hp} {s':Shared},Inv X' pl σ8 H' s'→Inv X' [] (σ ++ qA8 k none) H' s':=fun {pl H' s'} J'=>by
          have J0:Inv X' [] σ8 H' s':=J'.pins_of (fun p hp=>by simp at hp)
          refine J0.weak (by rw [hσ8]; simp [hown]) fun j v hj=>?_
          rw [hσ8]
          by_cases hjl:j < σ.length
          · rw [qA7 hjl] at hj ⊢
            exact hj
          · rw [qA6 (by omega),qBy] at hj
            split at hj <;> cases hj
        have tst:=hifX _ s8 σ8 H8 _ I8 q8
        rw [xprog,xw,xA,henv,xxe] at tst
        refine thn tst fun b s9 z0=>?_
        obtain ⟨H9,I9,q9⟩:=z0
        have pin9:∀ {σ':St} {H':Hp} {s':Shared},Inv X' ([(D,{ cls:=.type "list",data:=.seq its.toArray nn })] ++ zHR fp s7.heap) σ' H' s' →
            s'.heap.get? D = some { cls:=.type "list",data:=.seq its.toArray nn }∧H' D = none∧tn (i + 1) s'.heap∧(∀ b∈fp,H' b = none):=fun {σ' H' s'} J'=>by
          have a1:=J'.pin (D,{ cls:=.type "list",data:=.seq its.toArray nn }) (by simp)
          refine ⟨a1.1,a1.2.1,T.keep _ _ _ st7 fun b hb o e=>(J'.pin (b,o) (qAw _ (qAw _ (zDU hb e)))).1,fun b hb=>?_⟩
          obtain ⟨o,e,d⟩:=T.obj _ _ st7 b hb
          exact (J'.pin (b,o) (qAw _ (qAw _ (zDU hb e)))).2.1
        cases b with
        | false =>
          rw [if_neg qAg]
          rw [if_neg qAg] at q9
          obtain ⟨m',hm,w9⟩:=hN _ _ q9
          obtain ⟨p1,p2,p3,p4⟩:=pin9 I9
          exact ⟨m',hm,i + 1,H9,acc,its,nn,weak I9,p3,p4,p2,w9,hz5,rv5,p1⟩
        | true =>
          rw [if_pos rfl]
          rw [if_pos rfl] at q9
          have ev:=heX _ s9 σ8 H9 _ I9 q9
          rw [xprog,xw,xA,henv,xxe] at ev
          refine thn ev fun y s10 z0=>?_
          obtain ⟨v,H10,I10,r10,n10⟩:=z0
          obtain ⟨m',hm,w10⟩:=hN _ _ n10
          obtain ⟨p1,p2,p3,p4⟩:=pin9 I10
          have hlen:its.length = acc.length:=rv5.length.symm
          refine wpAny_list_append_plain (items:=its.toArray) ⟨nn,p1⟩ (fun h' hl' hs'=>?_) (by simp only [qAc]; omega)
          have hDfp:D ∉ fp:=fun hb=>(F4 D hb).2.2.2.2.2 (D,{ cls:=.type "list",data:=.seq #[] 0 }) (by simp) rfl
          have I11:Inv X' [] (σ ++ qA8 k none) H10 { s10 with heap:=h' }:=by
            have J0:Inv X' [] (σ ++ qA8 k none) H10 s10:=weak I10
            refine J0.turned (t':=s10.toks) (it:=D) (fun b o hb e=>(hs'.2 b hb).trans e) p2 ?_ (.inr ?_) (fun x c e z=>?_) (fun p hp=>?_)
            · rw [locC]; exact qAk hDlt
            · rw [xs0,hDd]; exact qAa _
            · obtain ⟨v',q⟩:=J0.cell x c e
              obtain ⟨o,ho,hd⟩:=q
              rw [z,p1] at ho
              cases ho
              cases hd
            · rw [xpn] at hp; simp at hp
          obtain ⟨n',hk⟩:=hl'
          have hk':h'.get? D = some { cls:=.type "list",data:=.seq (its ++ [y]).toArray n' }:=by rw [hk]; simp
          refine ⟨m',hm,i + 1,H10,acc ++ [v],its ++ [y],n',I11,T.keep _ _ _ p3 fun b hb o e=>(hs'.2 b (fun z=>hDfp (z ▸ hb))).trans e,p4,p2,w10,?_,rv5.append (.cons r10 .nil),hk'⟩
          rw [qAr,qDv]
          omega
    · refine ⟨0,H2,[],[],0,I4.pins_of (fun p hp=>by simp at hp),st4,fun b hb=>(f2 b hb).1,I2.hok.fresh (by rw [hDd]; exact qAa _),w0,qAs _,.nil,?_⟩
      exact (I4.pin (D,{ cls:=.type "list",data:=.seq #[] 0 }) (by simp)).1
  exact codeAny_compStart_list loop (T.self _ 0 _ _ _ st4 loop)
theorem zC5 (hc:X.calm = true) (S:CompNames X.N N' k sc X.env) (hi:PI X tg iter wi)
    (hg:∀ C s H fp,PG (zD4 X N' sc C s H fp) tg g) (hif:∀ C s H fp,PTs (zD4 X N' sc C s H fp) ifs tif) (he:∀ C s H fp,PE (zD4 X N' sc C s H fp) elt te)
    (hs:∀ x,foldedSetIterable iter X.env x = pure x:=by intro _; rfl):PE X (.ListComp elt [⟨tg,iter,ifs,0⟩] sc pos) (zUG wi k g tif te):=by
  intro pins s σ H Q I h
  rw [eval_ListComp]
  have hfree:∀ x,(x,NameKind.free)∈sc.names→∃ c,X.env.cells.lookup x = some c:=fun x hx=>I.ok.has x (S.free x hx)
  refine wpAny_comprehension_free (use:=none) rfl hs (zF5 hfree) S.kind (fun x hx hl=>?_) ?_
  · obtain ⟨n,kd⟩:=x
    dsimp only at hl ⊢
    subst hl
    exact zBU S.nd hx
  · refine thn (hi pins s σ H _ I h) fun v s1 h1=>thn h1 fun itv s2 h2=>?_
    obtain ⟨it,fp,tn,J,H2,e,I2,T,st2,f2,W,⟨m0,w0⟩,turn⟩:=h2
    subst e
    refine zI0 (RR:=fun acc C=>compPost (model X.prog X.w) X.A X.xe none (EP X pins σ Q) acc C) hc S hg hif he I2 T st2 f2 w0 turn ?_
    intro D C s' H' hDC hD hn hCn hCf I' q
    obtain ⟨m,hn⟩:=hn
    refine ⟨m,hn,fun h' hs'=>⟨.ref D,H',?_,rfl,q⟩⟩
    have hCb:s2.heap.objs.size≤C:=qC9 (qCo hD hDC)
    refine I'.turned (t':=s'.toks) (it:=C) (fun b o hb e=>(hs'.2 b hb).trans e) hCn ?_ (.inr (qAq I2.sz hCb)) (fun x c e z=>?_) (fun p hp z=>?_)
    · exact qBp (qAe I2.lt hCb)
    · obtain ⟨v,q⟩:=I2.cell x c e
      exact absurd z (qAk (qAe q.lt hCb))
    · exact absurd z (qAk (qAe (Heap.lt_size (I2.pin p hp).1) hCb))
theorem zHQ {i:Nat} {x:Str} {pos' spos:Pos} (hN:X.N.Nodup) (hi':X.N[i]? = some x) (hx:Loc X.env.scope x) (hc:X.calm = true) (S:CompNames X.N N' k sc X.env) (hi:PI X tg iter wi)
    (hg:∀ C s H fp,PG (zD4 X N' sc C s H fp) tg g) (hif:∀ C s H fp,PTs (zD4 X N' sc C s H fp) ifs tif) (he:∀ C s H fp,PE (zD4 X N' sc C s H fp) elt te)
    (hsw:swapsWith (.ListComp elt [⟨tg,iter,ifs,0⟩] sc pos) (some (.Name x pos')) spos.line X.env = pure true:=by rfl)
    (hs:∀ x,foldedSetIterable iter X.env x = pure x:=by intro _; rfl) (hf:X.fn x = true∨X.env.scope.names.lookup x = some .local:=by first | exact .inl rfl | exact .inr rfl | assumption) :
    PS X (.Assign [.Name x pos'] (.ListComp elt [⟨tg,iter,ifs,0⟩] sc pos) spos) (tAsg (zUG wi k g tif te) (zEE i)):=by
  intro pins s σ H Dn I h
  rw [exec_Assign_Name_used _ _ _ _ hsw]
  refine wpAny_bind (wpAny_standAt (wpAny_bind ?_))
  show wpAny _ X.A (do let _ ← comprehension (.ListComp elt [⟨tg,iter,ifs,0⟩] sc pos) sc X.env _ (newList []) false (eval iter X.env) (some (assign (.Name x pos') X.env))) _ _ s
  have hfree:∀ x,(x,NameKind.free)∈sc.names→∃ c,X.env.cells.lookup x = some c:=fun x hx=>I.ok.has x (S.free x hx)
  refine wpAny_bind (wpAny_mono (wpAny_comprehension_free (use:=some (assign (.Name x pos') X.env)) (Q:=fun _ s'=>SP X pins Dn .next s') rfl hs (zF5 hfree) S.kind (fun x hx hl=>?_) ?_)
    (fun _ s' hq=>wpAny_pure (wpAny_pure hq)) fun _ _ e=>e)
  · obtain ⟨n,kd⟩:=x
    dsimp only at hl ⊢
    subst hl
    exact zBU S.nd hx
  · refine thn (hi pins s σ H _ I h) fun v s1 h1=>thn h1 fun itv s2 h2=>?_
    obtain ⟨it,fp,tn,J,H2,e,I2,T,st2,f2,W,⟨m0,w0⟩,turn⟩:=h2
    subst e
    refine zI0 (Q:=fun v H'=>zEE i v σ H' Dn.nx) (RR:=fun acc C=>compPost (model X.prog X.w) X.A X.xe (some (assign (.Name x pos') X.env)) (fun _ s'=>SP X pins Dn .next s') acc C) hc S hg hif he I2 T st2 f2 w0 turn ?_
    intro D C s' H' hDC hD hn hCn hCf I' q
    obtain ⟨m,hn⟩:=hn
    show wpAny _ _ (assign (.Name x pos') X.env (.ref D)) _ _ _
    have hCb:s2.heap.objs.size≤C:=qC9 (qCo hD hDC)
    have hCL:C≠X.env.locals:=qBp (qAe I2.lt hCb)
    have hCc:∀ x c,X.env.cells.lookup x = some c→c≠C:=fun x c e z=>by
      obtain ⟨v,q⟩:=I2.cell x c e
      exact absurd z (qAk (qAe q.lt hCb))
    refine wpAny_assign_Name (zK1 (v:=.ref D) I' hN hi' hx rfl (fun s'' I'' ⟨a,sb,ha⟩=>?_) hf)
    have hCa:C≠a:=by
      rcases ha with e | e
      · rw [e]; exact hCL
      · exact fun z=>hCc x a e z.symm
    refine ⟨m,hn.sameBut sb hCa,fun h' hs'=>⟨_,H',?_,q⟩⟩
    refine I''.turned (t':=s''.toks) (it:=C) (fun b o hb e=>(hs'.2 b hb).trans e) hCn hCL (.inr (qAq I2.sz hCb)) hCc (fun p hp z=>?_)
    exact absurd z (qAk (qAe (Heap.lt_size (I2.pin p hp).1) hCb))
theorem zHZ {lo:Int} {n:Nat} {σ:St} {H:Hp} {Q:VK} (Pv:Nat→List V→Hp→Prop) (h0:Pv 0 [] H) (hz:∀ i acc H,i < n→Pv i acc H→acc.length < sizeLine)
    (hs:∀ i acc H,i < n→Pv i acc H→g (.int (lo + i)) (σ ++ qA8 k none) H fun σ2 H2=>∃ own:St,own.length = k∧σ2 = σ ++ own∧tif σ2 H2 fun b H3=>if b = true then te σ2 H3 fun v H4=>Pv (i + 1) (acc ++ [v]) H4 else Pv (i + 1) acc H3)
    (hd:∀ acc H,Pv n acc H→∀ D,H D = none→Q (.ref D) (upd H D (.lst acc))) :
    zTH k g tif te σ Q (Itr lo n) H:=by
  refine ⟨fun i m acc H=>m = n - i∧i≤n∧Pv i acc H,⟨n,by simp,qAs _,h0⟩,?_⟩
  rintro i m acc H ⟨rfl,hi,p⟩
  by_cases hlt:i < n
  · refine .inr ⟨hlt,hz i acc H hlt p,Pv (i + 1),fun acc' H' p'=>⟨n - (i + 1),by omega,rfl,hlt,p'⟩,fun x H' y=>?_⟩
    obtain ⟨e,y⟩:=y
    subst e y
    exact hs i acc _ hlt p
  · have e:i = n:=by omega
    subst e
    exact .inl ⟨qAa _,hd acc H p⟩
def zPH (g:TG) (tb:TS) (D:Ends) (σ:St) (J:It) (H1:Hp):Prop:=∃ W:Nat→Nat→St→Hp→Prop,(∃ m,W 0 m σ H1)∧∀ i m σ H,W i m σ H →
  (J.stop i H∧D.nx σ H)∨(J.go i H∧∃ N:St→Hp→Prop,(∀ σ' H',N σ' H'→∃ m',m' < m∧W (i + 1) m' σ' H')∧∀ x H',J.yld i H x H'→g x σ H' fun σ2 H2=>tb { D with nx:=N,ct:=N,bk:=D.nx } σ2 H2)
theorem zC4 {body:List Stmt} {tb:TS} (hp:PassesOwn (model X.prog X.w) X.A X.env X.xe) (hc:X.calm = true) (hi:PI X tg iter wi) (hg:PG X tg g) (hb:PSs X body tb)
    (hs:∀ x,foldedSetIterable iter X.env x = pure x:=by intro _; rfl):PS X (.For tg iter body [] pos) (fun D σ H=>wi σ H (zPH g tb D σ)):=zXI hp hc hi hg hb hs
end
end L2
namespace L2
open PySem PySem.Spec PyProof.Rows
inductive Dat where
  | non | bl (b:Bool) | int (i:Int) | str (x:Str) | lst (xs:List Dat) | tup (xs:List Dat)
mutual
def Dat.dep:Dat→Nat
  | .lst xs=>Dat.depL xs + 1
  | .tup xs=>Dat.depL xs + 1
  | _=>0
def Dat.depL:List Dat→Nat
  | []=>0
  | x :: r=>max x.dep (Dat.depL r)
end
mutual
def Dat.eq:Dat→Dat→Bool
  | .non,.non=>true
  | .bl a,.bl b=>a == b
  | .bl a,.int b=>(if a then 1 else 0) == b
  | .int a,.bl b=>a == (if b then 1 else 0)
  | .int a,.int b=>a == b
  | .str a,.str b=>a == b
  | .lst xs,.lst ys=>Dat.eqL xs ys
  | .tup xs,.tup ys=>Dat.eqL xs ys
  | _,_=>false
def Dat.eqL:List Dat→List Dat→Bool
  | [],[]=>true
  | x :: r,y :: q=>Dat.eq x y && Dat.eqL r q
  | _,_=>false
end
mutual
def Rep (H:Hp):Dat→V→Prop
  | .non,v=>v = .non
  | .bl b,v=>v = .bl b
  | .int i,v=>v = .int i
  | .str x,v=>v = .str x
  | .lst ds,v=>∃ a xs,v = .ref a∧H a = some (.lst xs)∧RepL H ds xs
  | .tup ds,v=>∃ a xs,v = .ref a∧H a = some (.tup xs)∧RepL H ds xs
def RepL (H:Hp):List Dat→List V→Prop
  | [],xs=>xs = []
  | d :: r,xs=>∃ x q,xs = x :: q∧Rep H d x∧RepL H r q
end
mutual
theorem Rep.mono {H H':Hp} (s:Same H H'):∀ {d:Dat} {v:V},Rep H d v→Rep H' d v
  | .non,_,h=>h
  | .bl _,_,h=>h
  | .int _,_,h=>h
  | .str _,_,h=>h
  | .lst _,_,h=>by obtain ⟨a,xs,e,e',r⟩:=h; exact ⟨a,xs,e,s _ _ e',RepL.mono s r⟩
  | .tup _,_,h=>by obtain ⟨a,xs,e,e',r⟩:=h; exact ⟨a,xs,e,s _ _ e',RepL.mono s r⟩
theorem RepL.mono {H H':Hp} (s:Same H H'):∀ {ds:List Dat} {xs:List V},RepL H ds xs→RepL H' ds xs
  | [],_,h=>h
  | _ :: _,_,h=>by obtain ⟨x,q,e,r,t⟩:=h; exact ⟨x,q,e,Rep.mono s r,RepL.mono s t⟩
end
mutual
theorem Rep.inj {H:Hp}:∀ {d e:Dat} {v:V},Rep H d v→Rep H e v→d = e
  | .non,e,v,h,h'=>by cases h; cases e <;> first | rfl | (cases h'; done) | (obtain ⟨a,xs,z,_⟩:=h'; cases z)
  | .bl b,e,v,h,h'=>by cases h; cases e <;> first | (cases h'; rfl) | (cases h'; done) | (obtain ⟨a,xs,z,_⟩:=h'; cases z)
  | .int b,e,v,h,h'=>by cases h; cases e <;> first | (cases h'; rfl) | (cases h'; done) | (obtain ⟨a,xs,z,_⟩:=h'; cases z)
  | .str b,e,v,h,h'=>by cases h; cases e <;> first | (cases h'; rfl) | (cases h'; done) | (obtain ⟨a,xs,z,_⟩:=h'; cases z)
  | .lst ds,e,v,h,h'=>by
    obtain ⟨a,xs,rfl,ha,q⟩:=h
    cases e with
    | lst es =>
      obtain ⟨b,ys,z,hb,q'⟩:=h'
      cases z
      rw [ha] at hb
      cases hb
      rw [RepL.inj q q']
    | tup es =>
      obtain ⟨b,ys,z,hb,q'⟩:=h'
      cases z
      rw [ha] at hb
      cases hb
    | _=>cases h'
  | .tup ds,e,v,h,h'=>by
    obtain ⟨a,xs,rfl,ha,q⟩:=h
    cases e with
    | tup es =>
      obtain ⟨b,ys,z,hb,q'⟩:=h'
      cases z
      rw [ha] at hb
      cases hb
      rw [RepL.inj q q']
    | lst es =>
      obtain ⟨b,ys,z,hb,q'⟩:=h'
      cases z
      rw [ha] at hb
      cases hb
    | _=>cases h'
theorem RepL.inj {H:Hp}:∀ {ds es:List Dat} {xs:List V},RepL H ds xs→RepL H es xs→ds = es
  | [],[],_,_,_=>rfl
  | [],_ :: _,_,h,h'=>by cases h; obtain ⟨x,q,e,_⟩:=h'; cases e
  | _ :: _,[],_,h,h'=>by cases h'; obtain ⟨x,q,e,_⟩:=h; cases e
  | d :: r,e :: t,_,h,h'=>by
    obtain ⟨x,q,rfl,r1,t1⟩:=h
    obtain ⟨x',q',z,r2,t2⟩:=h'
    cases z
    rw [Rep.inj r1 r2,RepL.inj t1 t2]
end
mutual
theorem Dat.eq_refl:∀ d:Dat,Dat.eq d d = true
  | .non=>by simp [Dat.eq]
  | .bl _=>by simp [Dat.eq]
  | .int _=>by simp [Dat.eq]
  | .str _=>by simp [Dat.eq]
  | .lst xs=>by rw [Dat.eq]; exact Dat.eqL_refl xs
  | .tup xs=>by rw [Dat.eq]; exact Dat.eqL_refl xs
theorem Dat.eqL_refl:∀ ds:List Dat,Dat.eqL ds ds = true
  | []=>by simp [Dat.eqL]
  | d :: r=>by rw [Dat.eqL,Dat.eq_refl d,Dat.eqL_refl r]; rfl
end
theorem RepL.length {H:Hp}:∀ {ds:List Dat} {xs:List V},RepL H ds xs→xs.length = ds.length
  | [],_,h=>by cases h; rfl
  | _ :: _,_,h=>by obtain ⟨x,q,e,r,t⟩:=h; subst e; simp [RepL.length t]
theorem Dat.eqL_len:∀ {xs ys:List Dat},xs.length≠ys.length→Dat.eqL xs ys = false
  | [],[],h=>absurd rfl h
  | [],_ :: _,_=>by simp [Dat.eqL]
  | _ :: _,[],_=>by simp [Dat.eqL]
  | x :: r,y :: q,h=>by
    rw [Dat.eqL,Dat.eqL_len (fun e=>h (by simp [e])),qCx]
theorem Dat.eqL_all:∀ {xs ys:List Dat},xs.length = ys.length→∀ (e:Nat→Bool),(∀ j (h1:j < xs.length) (h2:j < ys.length),e j = Dat.eq xs[j] ys[j])→(qA9 xs.length).all e = Dat.eqL xs ys
  | [],[],_,_,_=>by simp [Dat.eqL]
  | [],_ :: _,h,_,_=>by simp at h
  | _ :: _,[],h,_,_=>by simp at h
  | x :: r,y :: q,h,e,he=>by
    have hl:r.length = q.length:=by simpa using h
    rw [qAu,qDm,qBz,Dat.eqL,he 0 (by simp) (by simp)]
    have:=Dat.eqL_all (xs:=r) (ys:=q) hl (fun j=>e (j + 1)) (fun j h1 h2=>by
      rw [he (j + 1) (by simpa using h1) (by simpa using h2)]; simp)
    rw [← this,qHl]
    rfl
theorem RepL.get {H:Hp}:∀ {ds:List Dat} {xs:List V} {i:Nat} {x:V},RepL H ds xs→xs[i]? = some x→∃ d,ds[i]? = some d∧Rep H d x
  | [],_,_,_,h,e=>by cases h; simp at e
  | d :: _,_,0,_,h,e=>by obtain ⟨x,q,e1,r,t⟩:=h; subst e1; simp at e; subst e; exact ⟨d,rfl,r⟩
  | _ :: _,_,i + 1,_,h,e=>by
    obtain ⟨x,q,e1,r,t⟩:=h
    subst e1
    obtain ⟨d',h1,h2⟩:=RepL.get (i:=i) t (by simpa using e)
    exact ⟨d',by simpa using h1,h2⟩
theorem Dat.depL_mem {d:Dat}:∀ {ds:List Dat},d∈ds→d.dep≤Dat.depL ds
  | _ :: _,h=>by
    rw [Dat.depL]
    rcases qAb.mp h with rfl | h
    · exact Nat.le_max_left _ _
    · exact qAq (Dat.depL_mem h) (Nat.le_max_right _ _)
section
variable {P:Program} {w:World} {H:Hp}
theorem zDO (A:Around):A.in1.units = A.units + 1:=rfl
theorem zAV {s:Shared} {a:Addr} {xs:List V} (ok:HOk P w H s.heap) (h:H a = some (.lst xs)):∃ its:List Value,Vals xs its∧s.heap.IsList a its.toArray:=by
  obtain ⟨_,its,n,r,e⟩:=ok a _ h
  exact ⟨its,r,⟨_,e,rfl,n,rfl⟩⟩
theorem zB9 {s:Shared} {a:Addr} {xs:List V} (ok:HOk P w H s.heap) (h:H a = some (.tup xs)):∃ its:List Value,Vals xs its∧s.heap.IsTuple a its.toArray:=by
  obtain ⟨_,its,r,e⟩:=ok a _ h
  exact ⟨its,r,e⟩
theorem Rep.flat {d:Dat} {v:V} (h:Rep H d v) (hf:d.dep = 0):zCZ v = true:=by
  cases d with
  | non=>cases h; rfl
  | bl _=>cases h; rfl
  | int _=>cases h; rfl
  | str _=>cases h; rfl
  | lst _=>simp [Dat.dep] at hf
  | tup _=>simp [Dat.dep] at hf
theorem Rep.flatEq {d e:Dat} {v u:V} (h:Rep H d v) (h':Rep H e u) (hf:d.dep = 0) (hf':e.dep = 0):eqV v u = Dat.eq d e:=by
  cases d <;> cases e <;> first
    | (simp [Dat.dep] at hf; done)
    | (simp [Dat.dep] at hf'; done)
    | (cases h; cases h'; simp [eqV,Dat.eq]; done)
theorem zT3:∀ (n:Nat) {d e:Dat} {v u:V} {x y:Value} {A:Around} {s:Shared},d.dep≤n→HOk P w H s.heap→Rep H d v→Rep H e u→RelV v x→RelV u y→A.units + n < cLine→SeqAt.EqAt A s x y (Dat.eq d e):=by
  intro n
  induction n with
  | zero =>
    intro d e v u x y A s hd ok h1 h2 r1 r2 hu
    have f1:=h1.flat (by omega)
    by_cases he:e.dep = 0
    · have f2:=h2.flat he
      have:=zU2 (A:=A) (s:=s) r1 r2 f1 f2
      rw [h1.flatEq h2 (by omega) he] at this
      exact this
    · have hu':A.units < cLine:=by omega
      cases e with
      | lst ys =>
        obtain ⟨a,xs,rfl,ha,_⟩:=h2
        obtain ⟨its,_,hl⟩:=zAV ok ha
        cases r2
        cases d with
        | non=>cases h1; cases r1; exact SeqAt.EqAt.none_list hl hu'
        | bl b=>cases h1; cases r1; exact SeqAt.EqAt.bool_list b hl hu'
        | int i=>cases h1; obtain ⟨t,rfl⟩:=r1; exact SeqAt.EqAt.int_list i t hl hu'
        | str z=>cases h1; obtain ⟨t,rfl⟩:=r1; exact SeqAt.EqAt.str_list z t hl hu'
        | lst _=>simp [Dat.dep] at hd
        | tup _=>simp [Dat.dep] at hd
      | tup ys =>
        obtain ⟨a,xs,rfl,ha,_⟩:=h2
        obtain ⟨its,_,hl⟩:=zB9 ok ha
        cases r2
        cases d with
        | non=>cases h1; cases r1; exact SeqAt.EqAt.none_tuple hl hu'
        | bl b=>cases h1; cases r1; exact SeqAt.EqAt.bool_tuple b hl hu'
        | int i=>cases h1; obtain ⟨t,rfl⟩:=r1; exact SeqAt.EqAt.int_tuple i t hl hu'
        | str z=>cases h1; obtain ⟨t,rfl⟩:=r1; exact SeqAt.EqAt.str_tuple z t hl hu'
        | lst _=>simp [Dat.dep] at hd
        | tup _=>simp [Dat.dep] at hd
      | _=>simp [Dat.dep] at he
  | succ n ih =>
    intro d e v u x y A s hd ok h1 h2 r1 r2 hu
    by_cases hd0:d.dep≤n
    · exact ih hd0 ok h1 h2 r1 r2 (by omega)
    have hu':A.units < cLine:=by omega
    have pairs:∀ {ds es:List Dat} {xs ys:List V} {its its2:List Value},Dat.depL ds≤n→RepL H ds xs→RepL H es ys→Vals xs its→Vals ys its2→∀ j (h1:j < its.toArray.size) (h2:j < its2.toArray.size),
        SeqAt.EqAt A.in1 s its.toArray[j] its2.toArray[j] (Dat.eq (ds.getD j .non) (es.getD j .non)):=by
      intro ds es xs ys its its2 hdl q1 q2 v1 v2 j j1 j2
      have l1:j < xs.length:=by have:=v1.length; simp at j1; omega
      have l2:j < ys.length:=by have:=v2.length; simp at j2; omega
      obtain ⟨d',e1,p1⟩:=q1.get (i:=j) (x:=xs[j]) (by simp [l1])
      obtain ⟨e',e2,p2⟩:=q2.get (i:=j) (x:=ys[j]) (by simp [l2])
      obtain ⟨w1,g1,z1⟩:=v1.get (i:=j) (x:=xs[j]) (by simp [l1])
      obtain ⟨w2,g2,z2⟩:=v2.get (i:=j) (x:=ys[j]) (by simp [l2])
      have k1:its.toArray[j] = w1:=by
        obtain ⟨_,k⟩:=qA1.mp g1
        simpa using k
      have k2:its2.toArray[j] = w2:=by
        obtain ⟨_,k⟩:=qA1.mp g2
        simpa using k
      rw [k1,k2,qA0,qA0,e1,e2]
      exact ih (qAq (Dat.depL_mem (qBx e1)) hdl) ok p1 p2 z1 z2 (by rw [zDO]; omega)
    cases d with
    | lst ds =>
      have hdl:Dat.depL ds≤n:=by rw [Dat.dep] at hd; omega
      obtain ⟨a,xs,rfl,ha,q1⟩:=h1
      obtain ⟨its,v1,hl1⟩:=zAV ok ha
      cases r1
      cases e with
      | non=>cases h2; cases r2; exact SeqAt.EqAt.list_none hl1 hu'
      | bl b=>cases h2; cases r2; exact SeqAt.EqAt.list_bool b hl1 hu'
      | int i=>cases h2; obtain ⟨t,rfl⟩:=r2; exact SeqAt.EqAt.list_int i t hl1 hu'
      | str z=>cases h2; obtain ⟨t,rfl⟩:=r2; exact SeqAt.EqAt.list_str z t hl1 hu'
      | tup es =>
        obtain ⟨b,ys,rfl,hb,q2⟩:=h2
        obtain ⟨its2,v2,hl2⟩:=zB9 ok hb
        cases r2
        exact SeqAt.EqAt.of_refs (zV4 ha hb (fun z=>nomatch z)) (SeqAt.RcAt.list_tuple hl1 hl2 hu')
      | lst es =>
        obtain ⟨b,ys,rfl,hb,q2⟩:=h2
        obtain ⟨its2,v2,hl2⟩:=zAV ok hb
        cases r2
        have len1:its.toArray.size = ds.length:=by have:=v1.length; have:=q1.length; simp; omega
        have len2:its2.toArray.size = es.length:=by have:=v2.length; have:=q2.length; simp; omega
        show SeqAt.EqAt A s (.ref a) (.ref b) (Dat.eqL ds es)
        by_cases hne:a = b
        · 
          subst hne
          rw [ha] at hb
          cases hb
          have same:Dat.eqL ds es = true:=by
            rw [RepL.inj q1 q2]; exact Dat.eqL_refl _
          rw [same]
          exact SeqAt.EqAt.same _
        · refine SeqAt.EqAt.of_refs hne ?_
          by_cases hs:ds.length = es.length
          · have:=SeqAt.RcAt.lists (A:=A) (s:=s) hl1 hl2 (by rw [len1,len2,hs]) hu' (pairs hdl q1 q2 v1 v2)
            rw [len1,Dat.eqL_all hs _ (fun j h1 h2=>by rw [qA0,qA0]; simp [h1,h2])] at this
            exact this
          · rw [Dat.eqL_len hs]
            exact SeqAt.RcAt.lists_lengths hl1 hl2 (by rw [len1,len2]; simpa using hs) hu'
    | tup ds =>
      have hdl:Dat.depL ds≤n:=by rw [Dat.dep] at hd; omega
      obtain ⟨a,xs,rfl,ha,q1⟩:=h1
      obtain ⟨its,v1,hl1⟩:=zB9 ok ha
      cases r1
      cases e with
      | non=>cases h2; cases r2; exact SeqAt.EqAt.tuple_none hl1 hu'
      | bl b=>cases h2; cases r2; exact SeqAt.EqAt.tuple_bool b hl1 hu'
      | int i=>cases h2; obtain ⟨t,rfl⟩:=r2; exact SeqAt.EqAt.tuple_int i t hl1 hu'
      | str z=>cases h2; obtain ⟨t,rfl⟩:=r2; exact SeqAt.EqAt.tuple_str z t hl1 hu'
      | lst es =>
        obtain ⟨b,ys,rfl,hb,q2⟩:=h2
        obtain ⟨its2,v2,hl2⟩:=zAV ok hb
        cases r2
        exact SeqAt.EqAt.of_refs (zV4 ha hb (fun z=>nomatch z)) (SeqAt.RcAt.tuple_list hl1 hl2 hu')
      | tup es =>
        obtain ⟨b,ys,rfl,hb,q2⟩:=h2
        obtain ⟨its2,v2,hl2⟩:=zB9 ok hb
        cases r2
        have len1:its.toArray.size = ds.length:=by have:=v1.length; have:=q1.length; simp; omega
        have len2:its2.toArray.size = es.length:=by have:=v2.length; have:=q2.length; simp; omega
        show SeqAt.EqAt A s (.ref a) (.ref b) (Dat.eqL ds es)
        by_cases hne:a = b
        · subst hne
          rw [ha] at hb
          cases hb
          have same:Dat.eqL ds es = true:=by
            rw [RepL.inj q1 q2]; exact Dat.eqL_refl _
          rw [same]
          exact SeqAt.EqAt.same _
        · refine SeqAt.EqAt.of_refs hne ?_
          have:=SeqAt.RcAt.tuples (A:=A) (s:=s) hl1 hl2 hu' (pairs hdl q1 q2 v1 v2)
          by_cases hs:ds.length = es.length
          · rw [len1,len2,← hs,qG4,beq_self_eq_true,qEp,Dat.eqL_all hs _ (fun j h1 h2=>by rw [qA0,qA0]; simp [h1,h2])] at this
            exact this
          · rw [len1,len2,show (ds.length == es.length) = false by simpa using hs,qCx] at this
            rw [Dat.eqL_len hs]
            exact this
    | _=>simp [Dat.dep] at hd0
theorem zG7 {n:Nat} {A:Around} {s:Shared} (ok:HOk P w H s.heap) {ds es:List Dat} {xs ys:List V} {its its2:List Value} (hdl:Dat.depL ds≤n) (hu:A.units + n < cLine) (q1:RepL H ds xs) (q2:RepL H es ys) (v1:Vals xs its) (v2:Vals ys its2) :
    ∀ j (h1:j < its.toArray.size) (h2:j < its2.toArray.size),SeqAt.EqAt A s its.toArray[j] its2.toArray[j] (Dat.eq (ds.getD j .non) (es.getD j .non)):=by
  intro j j1 j2
  have l1:j < xs.length:=by have:=v1.length; simp at j1; omega
  have l2:j < ys.length:=by have:=v2.length; simp at j2; omega
  obtain ⟨d',e1,p1⟩:=q1.get (i:=j) (x:=xs[j]) (by simp [l1])
  obtain ⟨e',e2,p2⟩:=q2.get (i:=j) (x:=ys[j]) (by simp [l2])
  obtain ⟨w1,g1,z1⟩:=v1.get (i:=j) (x:=xs[j]) (by simp [l1])
  obtain ⟨w2,g2,z2⟩:=v2.get (i:=j) (x:=ys[j]) (by simp [l2])
  have k1:its.toArray[j] = w1:=by
    obtain ⟨_,k⟩:=qA1.mp g1
    simpa using k
  have k2:its2.toArray[j] = w2:=by
    obtain ⟨_,k⟩:=qA1.mp g2
    simpa using k
  rw [k1,k2,qA0,qA0,e1,e2]
  exact zT3 n (qAq (Dat.depL_mem (qBx e1)) hdl) ok p1 p2 z1 z2 hu
theorem zSC (n:Nat) {d e:Dat} {v u:V} {x y:Value} {A:Around} {s:Shared} (hd:d.dep≤n) (ok:HOk P w H s.heap) (h1:Rep H d v) (h2:Rep H e u) (r1:RelV v x) (r2:RelV u y) (hu:A.units + n < cLine):SeqAt.RcAt A s x y (Dat.eq d e):=by
  have hu':A.units < cLine:=by omega
  cases d with
  | non =>
    cases h1; cases r1
    cases e with
    | non =>
      cases h2; cases r2
      exact SeqAt.RcAt.none_none
    | bl b =>
      cases h2; cases r2
      exact SeqAt.RcAt.none_bool b
    | int b =>
      cases h2; obtain ⟨t2,rfl⟩:=r2
      exact SeqAt.RcAt.none_int b t2
    | str b =>
      cases h2; obtain ⟨t2,rfl⟩:=r2
      exact SeqAt.RcAt.none_str b t2
    | lst es =>
      obtain ⟨p2,ys,rfl,hb,q2⟩:=h2
      obtain ⟨its2,v2,hl2⟩:=zAV ok hb
      cases r2
      exact SeqAt.RcAt.none_list hl2 hu'
    | tup es =>
      obtain ⟨p2,ys,rfl,hb,q2⟩:=h2
      obtain ⟨its2,v2,hl2⟩:=zB9 ok hb
      cases r2
      exact SeqAt.RcAt.none_tuple hl2 hu'
  | bl a =>
    cases h1; cases r1
    cases e with
    | non =>
      cases h2; cases r2
      exact SeqAt.RcAt.bool_none a
    | bl b =>
      cases h2; cases r2
      exact SeqAt.RcAt.bool_bool a b
    | int b =>
      cases h2; obtain ⟨t2,rfl⟩:=r2
      exact SeqAt.RcAt.bool_int a b t2
    | str b =>
      cases h2; obtain ⟨t2,rfl⟩:=r2
      exact SeqAt.RcAt.bool_str a b t2
    | lst es =>
      obtain ⟨p2,ys,rfl,hb,q2⟩:=h2
      obtain ⟨its2,v2,hl2⟩:=zAV ok hb
      cases r2
      exact SeqAt.RcAt.bool_list a hl2 hu'
    | tup es =>
      obtain ⟨p2,ys,rfl,hb,q2⟩:=h2
      obtain ⟨its2,v2,hl2⟩:=zB9 ok hb
      cases r2
      exact SeqAt.RcAt.bool_tuple a hl2 hu'
  | int a =>
    cases h1; obtain ⟨t1,rfl⟩:=r1
    cases e with
    | non =>
      cases h2; cases r2
      exact SeqAt.RcAt.int_none a t1
    | bl b =>
      cases h2; cases r2
      exact SeqAt.RcAt.int_bool a t1 b
    | int b =>
      cases h2; obtain ⟨t2,rfl⟩:=r2
      exact SeqAt.RcAt.int_int a t1 b t2
    | str b =>
      cases h2; obtain ⟨t2,rfl⟩:=r2
      exact SeqAt.RcAt.int_str a t1 b t2
    | lst es =>
      obtain ⟨p2,ys,rfl,hb,q2⟩:=h2
      obtain ⟨its2,v2,hl2⟩:=zAV ok hb
      cases r2
      exact SeqAt.RcAt.int_list a t1 hl2 hu'
    | tup es =>
      obtain ⟨p2,ys,rfl,hb,q2⟩:=h2
      obtain ⟨its2,v2,hl2⟩:=zB9 ok hb
      cases r2
      exact SeqAt.RcAt.int_tuple a t1 hl2 hu'
  | str a =>
    cases h1; obtain ⟨t1,rfl⟩:=r1
    cases e with
    | non =>
      cases h2; cases r2
      exact SeqAt.RcAt.str_none a t1
    | bl b =>
      cases h2; cases r2
      exact SeqAt.RcAt.str_bool a t1 b
    | int b =>
      cases h2; obtain ⟨t2,rfl⟩:=r2
      exact SeqAt.RcAt.str_int a t1 b t2
    | str b =>
      cases h2; obtain ⟨t2,rfl⟩:=r2
      exact SeqAt.RcAt.str_str a t1 b t2
    | lst es =>
      obtain ⟨p2,ys,rfl,hb,q2⟩:=h2
      obtain ⟨its2,v2,hl2⟩:=zAV ok hb
      cases r2
      exact SeqAt.RcAt.str_list a t1 hl2 hu'
    | tup es =>
      obtain ⟨p2,ys,rfl,hb,q2⟩:=h2
      obtain ⟨its2,v2,hl2⟩:=zB9 ok hb
      cases r2
      exact SeqAt.RcAt.str_tuple a t1 hl2 hu'
  | lst ds =>
    have hdl:Dat.depL ds + 1≤n:=by rw [Dat.dep] at hd; exact hd
    obtain ⟨p,xs,rfl,ha,q1⟩:=h1
    obtain ⟨its,v1,hl1⟩:=zAV ok ha
    cases r1
    cases e with
    | non =>
      cases h2; cases r2
      exact SeqAt.RcAt.list_none hl1 hu'
    | bl b =>
      cases h2; cases r2
      exact SeqAt.RcAt.list_bool b hl1 hu'
    | int b =>
      cases h2; obtain ⟨t2,rfl⟩:=r2
      exact SeqAt.RcAt.list_int b t2 hl1 hu'
    | str b =>
      cases h2; obtain ⟨t2,rfl⟩:=r2
      exact SeqAt.RcAt.list_str b t2 hl1 hu'
    | lst es =>
      obtain ⟨p2,ys,rfl,hb,q2⟩:=h2
      obtain ⟨its2,v2,hl2⟩:=zAV ok hb
      cases r2
      have len1:its.toArray.size = ds.length:=by have:=v1.length; have:=q1.length; simp; omega
      have len2:its2.toArray.size = es.length:=by have:=v2.length; have:=q2.length; simp; omega
      show SeqAt.RcAt A s (.ref p) (.ref p2) (Dat.eqL ds es)
      by_cases hs:ds.length = es.length
      · have:=SeqAt.RcAt.lists (A:=A) (s:=s) hl1 hl2 (by rw [len1,len2,hs]) hu' (zG7 ok (by omega) (by rw [zDO]; omega:A.in1.units + (n - 1) < cLine) q1 q2 v1 v2)
        rw [len1,Dat.eqL_all hs _ (fun j h1 h2=>by rw [qA0,qA0]; simp [h1,h2])] at this
        exact this
      · rw [Dat.eqL_len hs]
        exact SeqAt.RcAt.lists_lengths hl1 hl2 (by rw [len1,len2]; simpa using hs) hu'
    | tup es =>
      obtain ⟨p2,ys,rfl,hb,q2⟩:=h2
      obtain ⟨its2,v2,hl2⟩:=zB9 ok hb
      cases r2
      exact SeqAt.RcAt.list_tuple hl1 hl2 hu'
  | tup ds =>
    have hdl:Dat.depL ds + 1≤n:=by rw [Dat.dep] at hd; exact hd
    obtain ⟨p,xs,rfl,ha,q1⟩:=h1
    obtain ⟨its,v1,hl1⟩:=zB9 ok ha
    cases r1
    cases e with
    | non =>
      cases h2; cases r2
      exact SeqAt.RcAt.tuple_none hl1 hu'
    | bl b =>
      cases h2; cases r2
      exact SeqAt.RcAt.tuple_bool b hl1 hu'
    | int b =>
      cases h2; obtain ⟨t2,rfl⟩:=r2
      exact SeqAt.RcAt.tuple_int b t2 hl1 hu'
    | str b =>
      cases h2; obtain ⟨t2,rfl⟩:=r2
      exact SeqAt.RcAt.tuple_str b t2 hl1 hu'
    | lst es =>
      obtain ⟨p2,ys,rfl,hb,q2⟩:=h2
      obtain ⟨its2,v2,hl2⟩:=zAV ok hb
      cases r2
      exact SeqAt.RcAt.tuple_list hl1 hl2 hu'
    | tup es =>
      obtain ⟨p2,ys,rfl,hb,q2⟩:=h2
      obtain ⟨its2,v2,hl2⟩:=zB9 ok hb
      cases r2
      have len1:its.toArray.size = ds.length:=by have:=v1.length; have:=q1.length; simp; omega
      have len2:its2.toArray.size = es.length:=by have:=v2.length; have:=q2.length; simp; omega
      show SeqAt.RcAt A s (.ref p) (.ref p2) (Dat.eqL ds es)
      have:=SeqAt.RcAt.tuples (A:=A) (s:=s) hl1 hl2 hu' (zG7 ok (by omega) (by rw [zDO]; omega:A.in1.units + (n - 1) < cLine) q1 q2 v1 v2)
      by_cases hs:ds.length = es.length
      · rw [len1,len2,← hs,qG4,beq_self_eq_true,qEp,Dat.eqL_all hs _ (fun j h1 h2=>by rw [qA0,qA0]; simp [h1,h2])] at this
        exact this
      · rw [len1,len2,show (ds.length == es.length) = false by simpa using hs,qCx] at this
        rw [Dat.eqL_len hs]
        exact this
theorem zOP (n:Nat) {d e:Dat} {v u:V} {x y:Value} {A:Around} {s:Shared} (hd:d.dep≤n) (ok:HOk P w H s.heap) (h1:Rep H d v) (h2:Rep H e u) (r1:RelV v x) (r2:RelV u y) (hu:A.units + n < cLine):SeqAt.RcNeAt A s x y (!Dat.eq d e):=by
  have hu':A.units < cLine:=by omega
  cases d with
  | non =>
    cases h1; cases r1
    cases e with
    | non =>
      cases h2; cases r2
      exact SeqAt.RcNeAt.none_none
    | bl b =>
      cases h2; cases r2
      exact SeqAt.RcNeAt.none_bool b
    | int b =>
      cases h2; obtain ⟨t2,rfl⟩:=r2
      exact SeqAt.RcNeAt.none_int b t2
    | str b =>
      cases h2; obtain ⟨t2,rfl⟩:=r2
      exact SeqAt.RcNeAt.none_str b t2
    | lst es =>
      obtain ⟨p2,ys,rfl,hb,q2⟩:=h2
      obtain ⟨its2,v2,hl2⟩:=zAV ok hb
      cases r2
      exact SeqAt.RcNeAt.none_list hl2 hu'
    | tup es =>
      obtain ⟨p2,ys,rfl,hb,q2⟩:=h2
      obtain ⟨its2,v2,hl2⟩:=zB9 ok hb
      cases r2
      exact SeqAt.RcNeAt.none_tuple hl2 hu'
  | bl a =>
    cases h1; cases r1
    cases e with
    | non =>
      cases h2; cases r2
      exact SeqAt.RcNeAt.bool_none a
    | bl b =>
      cases h2; cases r2
      exact SeqAt.RcNeAt.bool_bool a b
    | int b =>
      cases h2; obtain ⟨t2,rfl⟩:=r2
      exact SeqAt.RcNeAt.bool_int a b t2
    | str b =>
      cases h2; obtain ⟨t2,rfl⟩:=r2
      exact SeqAt.RcNeAt.bool_str a b t2
    | lst es =>
      obtain ⟨p2,ys,rfl,hb,q2⟩:=h2
      obtain ⟨its2,v2,hl2⟩:=zAV ok hb
      cases r2
      exact SeqAt.RcNeAt.bool_list a hl2 hu'
    | tup es =>
      obtain ⟨p2,ys,rfl,hb,q2⟩:=h2
      obtain ⟨its2,v2,hl2⟩:=zB9 ok hb
      cases r2
      exact SeqAt.RcNeAt.bool_tuple a hl2 hu'
  | int a =>
    cases h1; obtain ⟨t1,rfl⟩:=r1
    cases e with
    | non =>
      cases h2; cases r2
      exact SeqAt.RcNeAt.int_none a t1
    | bl b =>
      cases h2; cases r2
      exact SeqAt.RcNeAt.int_bool a t1 b
    | int b =>
      cases h2; obtain ⟨t2,rfl⟩:=r2
      exact SeqAt.RcNeAt.int_int a t1 b t2
    | str b =>
      cases h2; obtain ⟨t2,rfl⟩:=r2
      exact SeqAt.RcNeAt.int_str a t1 b t2
    | lst es =>
      obtain ⟨p2,ys,rfl,hb,q2⟩:=h2
      obtain ⟨its2,v2,hl2⟩:=zAV ok hb
      cases r2
      exact SeqAt.RcNeAt.int_list a t1 hl2 hu'
    | tup es =>
      obtain ⟨p2,ys,rfl,hb,q2⟩:=h2
      obtain ⟨its2,v2,hl2⟩:=zB9 ok hb
      cases r2
      exact SeqAt.RcNeAt.int_tuple a t1 hl2 hu'
  | str a =>
    cases h1; obtain ⟨t1,rfl⟩:=r1
    cases e with
    | non =>
      cases h2; cases r2
      exact SeqAt.RcNeAt.str_none a t1
    | bl b =>
      cases h2; cases r2
      exact SeqAt.RcNeAt.str_bool a t1 b
    | int b =>
      cases h2; obtain ⟨t2,rfl⟩:=r2
      exact SeqAt.RcNeAt.str_int a t1 b t2
    | str b =>
      cases h2; obtain ⟨t2,rfl⟩:=r2
      exact SeqAt.RcNeAt.str_str a t1 b t2
    | lst es =>
      obtain ⟨p2,ys,rfl,hb,q2⟩:=h2
      obtain ⟨its2,v2,hl2⟩:=zAV ok hb
      cases r2
      exact SeqAt.RcNeAt.str_list a t1 hl2 hu'
    | tup es =>
      obtain ⟨p2,ys,rfl,hb,q2⟩:=h2
      obtain ⟨its2,v2,hl2⟩:=zB9 ok hb
      cases r2
      exact SeqAt.RcNeAt.str_tuple a t1 hl2 hu'
  | lst ds =>
    have hdl:Dat.depL ds + 1≤n:=by rw [Dat.dep] at hd; exact hd
    obtain ⟨p,xs,rfl,ha,q1⟩:=h1
    obtain ⟨its,v1,hl1⟩:=zAV ok ha
    cases r1
    cases e with
    | non =>
      cases h2; cases r2
      exact SeqAt.RcNeAt.list_none hl1 hu'
    | bl b =>
      cases h2; cases r2
      exact SeqAt.RcNeAt.list_bool b hl1 hu'
    | int b =>
      cases h2; obtain ⟨t2,rfl⟩:=r2
      exact SeqAt.RcNeAt.list_int b t2 hl1 hu'
    | str b =>
      cases h2; obtain ⟨t2,rfl⟩:=r2
      exact SeqAt.RcNeAt.list_str b t2 hl1 hu'
    | lst es =>
      obtain ⟨p2,ys,rfl,hb,q2⟩:=h2
      obtain ⟨its2,v2,hl2⟩:=zAV ok hb
      cases r2
      have len1:its.toArray.size = ds.length:=by have:=v1.length; have:=q1.length; simp; omega
      have len2:its2.toArray.size = es.length:=by have:=v2.length; have:=q2.length; simp; omega
      show SeqAt.RcNeAt A s (.ref p) (.ref p2) (!Dat.eqL ds es)
      by_cases hs:ds.length = es.length
      · have:=SeqAt.RcNeAt.lists (A:=A) (s:=s) hl1 hl2 (by rw [len1,len2,hs]) hu' (zG7 ok (by omega) (by rw [zDO]; omega:A.in1.units + (n - 1) < cLine) q1 q2 v1 v2)
        rw [len1,Dat.eqL_all hs _ (fun j h1 h2=>by rw [qA0,qA0]; simp [h1,h2])] at this
        exact this
      · rw [Dat.eqL_len hs]
        exact SeqAt.RcNeAt.lists_lengths hl1 hl2 (by rw [len1,len2]; simpa using hs) hu'
    | tup es =>
      obtain ⟨p2,ys,rfl,hb,q2⟩:=h2
      obtain ⟨its2,v2,hl2⟩:=zB9 ok hb
      cases r2
      exact SeqAt.RcNeAt.list_tuple hl1 hl2 hu'
  | tup ds =>
    have hdl:Dat.depL ds + 1≤n:=by rw [Dat.dep] at hd; exact hd
    obtain ⟨p,xs,rfl,ha,q1⟩:=h1
    obtain ⟨its,v1,hl1⟩:=zB9 ok ha
    cases r1
    cases e with
    | non =>
      cases h2; cases r2
      exact SeqAt.RcNeAt.tuple_none hl1 hu'
    | bl b =>
      cases h2; cases r2
      exact SeqAt.RcNeAt.tuple_bool b hl1 hu'
    | int b =>
      cases h2; obtain ⟨t2,rfl⟩:=r2
      exact SeqAt.RcNeAt.tuple_int b t2 hl1 hu'
    | str b =>
      cases h2; obtain ⟨t2,rfl⟩:=r2
      exact SeqAt.RcNeAt.tuple_str b t2 hl1 hu'
    | lst es =>
      obtain ⟨p2,ys,rfl,hb,q2⟩:=h2
      obtain ⟨its2,v2,hl2⟩:=zAV ok hb
      cases r2
      exact SeqAt.RcNeAt.tuple_list hl1 hl2 hu'
    | tup es =>
      obtain ⟨p2,ys,rfl,hb,q2⟩:=h2
      obtain ⟨its2,v2,hl2⟩:=zB9 ok hb
      cases r2
      have len1:its.toArray.size = ds.length:=by have:=v1.length; have:=q1.length; simp; omega
      have len2:its2.toArray.size = es.length:=by have:=v2.length; have:=q2.length; simp; omega
      show SeqAt.RcNeAt A s (.ref p) (.ref p2) (!Dat.eqL ds es)
      have:=SeqAt.RcNeAt.tuples (A:=A) (s:=s) hl1 hl2 hu' (zG7 ok (by omega) (by rw [zDO]; omega:A.in1.units + (n - 1) < cLine) q1 q2 v1 v2)
      by_cases hs:ds.length = es.length
      · rw [len1,len2,← hs,qG4,beq_self_eq_true,qEp,Dat.eqL_all hs _ (fun j h1 h2=>by rw [qA0,qA0]; simp [h1,h2])] at this
        exact this
      · rw [len1,len2,show (ds.length == es.length) = false by simpa using hs,qCx] at this
        rw [Dat.eqL_len hs]
        exact this
end
section
variable {X:Cx}
noncomputable def rEqD:R2:=fun x y H Q=>∃ d e,Rep H d x∧Rep H e y∧d.dep≤40∧Q (.bl (Dat.eq d e)) H
noncomputable def rNeD:R2:=fun x y H Q=>∃ d e,Rep H d x∧Rep H e y∧d.dep≤40∧Q (.bl (!Dat.eq d e)) H
theorem zXV (hu:X.A.units + 64 < cLine):OpR X (compareOp .Eq) rEqD:=by
  intro pins s σ H x y v u Q I rx ry h
  obtain ⟨d,e,h1,h2,hd,q⟩:=h
  exact zSC 40 hd I.hok h1 h2 rx ry (by omega) _ _ _ _ ⟨.bl _,H,I,rfl,q⟩
theorem zXT (hu:X.A.units + 64 < cLine):OpR X (compareOp .NotEq) rNeD:=by
  intro pins s σ H x y v u Q I rx ry h
  obtain ⟨d,e,h1,h2,hd,q⟩:=h
  exact zOP 40 hd I.hok h1 h2 rx ry (by omega) _ _ _ _ ⟨.bl _,H,I,rfl,q⟩
noncomputable def zGE (H:Hp):V→Option String
  | .non=>some "NoneType"
  | .bl _=>some "bool"
  | .int _=>some "int"
  | .str _=>some "str"
  | .ref a=>match H a with
    | some (.lst _)=>some "list"
    | some (.tup _)=>some "tuple"
    | some (.dK _)=>some "dict"
    | _=>none
  | _=>none
noncomputable def zVN (T n:String):Bool:=T == n || (T == "bool" && n == "int")
theorem zMV:zDH X (.builtin "isinstance") (fun vs H Q=>∃ x n T,vs = [x,.ty n]∧zGE H x = some T∧n∈["int","bool","str","list","tuple","dict"]∧Q (.bl (zVN T n)) H):=by
  intro pins s σ H vs us Q I r h
  obtain ⟨x,n,T,rfl,ht,hn,q⟩:=h
  obtain ⟨u,w',rfl,rx,rn⟩:=zWG r
  cases (show w' = Value.type n from rn)
  have key:∃ t,TyOf X.K H x t∧t = .type T:=by
    cases x with
    | non=>cases ht; exact ⟨_,.non,rfl⟩
    | bl b=>cases ht; exact ⟨_,.bl b,rfl⟩
    | int b=>cases ht; exact ⟨_,.int b,rfl⟩
    | str b=>cases ht; exact ⟨_,.str b,rfl⟩
    | ref a =>
      unfold zGE at ht
      dsimp only at ht
      cases e:H a with
      | none=>rw [e] at ht; cases ht
      | some o =>
        rw [e] at ht
        cases o with
        | lst xs=>cases ht; exact ⟨_,.lst e,rfl⟩
        | tup xs=>cases ht; exact ⟨_,.tup e,rfl⟩
        | dK xs=>cases ht; exact ⟨_,.dK e,rfl⟩
        | _=>cases ht
    | _=>cases ht
  obtain ⟨t,ty,rfl⟩:=key
  have hT:T∈["NoneType","bool","int","str","list","tuple","dict"]:=by
    cases x with
    | non=>cases ht; decide
    | bl b=>cases ht; decide
    | int b=>cases ht; decide
    | str b=>cases ht; decide
    | ref a =>
      unfold zGE at ht
      dsimp only at ht
      cases e:H a with
      | none=>rw [e] at ht; cases ht
      | some o =>
        rw [e] at ht
        cases o with
        | lst xs=>cases ht; decide
        | tup xs=>cases ht; decide
        | dK xs=>cases ht; decide
        | _=>cases ht
    | _=>cases ht
  have e:qBf X.K (.type T) (.type n) = some (zVN T n):=by
    simp only [qAb,List.mem_nil_iff,or_false] at hT hn
    rcases hT with rfl | rfl | rfl | rfl | rfl | rfl | rfl <;> rcases hn with rfl | rfl | rfl | rfl | rfl | rfl <;> rfl
  exact zQU I rx ty e fun tk=>⟨.bl _,H,I.tok tk,rfl,q⟩
theorem zLT {prog:Program} {w:World} {A:Around} {bs:List Bool}:TruthOf prog w A (fun i v=>(bs.map Value.bool).toArray[i]? = some v) (fun i=>bs.getD i false):=by
  intro i v s Q E hv hq
  have hv':(bs[i]?).map Value.bool = some v:=by simpa using hv
  cases e:bs[i]? with
  | none=>rw [e] at hv'; cases hv'
  | some b =>
    rw [e] at hv'
    cases hv'
    dsimp only at hq
    rw [qA0,e] at hq
    exact wpAny_truthy_bool hq
theorem zHN:∀ {bs:List Bool} {its:List Value},Vals (bs.map V.bl) its→its = bs.map Value.bool
  | [],_,.nil=>rfl
  | b :: r,_,.cons h t=>by
    have h':_ = Value.bool b:=h
    rw [h',zHN t]; rfl
theorem zOB:∀ (bs:List Bool),(qA9 bs.length).all (fun i=>bs.getD i false) = bs.all id
  | []=>rfl
  | b :: r=>by
    rw [qAu,qDm,qBz,qBz,← zOB r,qHl]
    rfl
theorem zT9 (hc:X.calm = true):zDH X (.builtin "all") (fun vs H Q=>∃ (a:Addr) (bs:List Bool),vs = [.ref a]∧H a = some (.lst (bs.map V.bl))∧Q (.bl (bs.all id)) H):=by
  intro pins s σ H vs us Q I r h
  obtain ⟨a,bs,rfl,ha,q⟩:=h
  obtain ⟨u,rfl,rx⟩:=zDF r
  cases rx
  obtain ⟨its,rv,hl⟩:=zAV I.hok ha
  have e:=zHN rv
  subst e
  refine call_all_walk (wpAny_pyIter_list hl ?_)
  have hlt:a < s.heap.objs.size:=by obtain ⟨o,ho,_⟩:=hl; exact Heap.lt_size ho
  refine ⟨s.heap.objs.size,_,_,_,_,_,fun i=>bs.getD i false,rfl,Walks.list (show X.A.in1.handled = none from I.ok.hd hc) s.heap.objs.size a (qAk hlt) _,
    ⟨⟨_,Heap.get?_push_size _ rfl,rfl,rfl⟩,hl.at fun o e=>Heap.get?_push_of_some _ e⟩,zLT,fun h' tk hk=>?_⟩
  refine ⟨.bl _,H,I.kept (t':=tk) fun b o e=>hk b o ?_ (Heap.get?_push_of_some _ e),rfl,?_⟩
  · have:=Heap.lt_size e
    simp only [qBe]
    exact qAk this
  · have:(bs.map Value.bool).toArray.size = bs.length:=by simp
    rw [this,zOB]
    exact q
noncomputable def zIR (lo:Int) (n:Nat):List V:=(qA9 n).map fun i=>.int (lo + (i:Nat))
theorem zGB:∀ {xs:List V} {its:List Value},xs.length = its.length→(∀ (j:Nat) (x:V) (v:Value),xs[j]? = some x→its[j]? = some v→RelV x v)→Vals xs its
  | [],[],_,_=>.nil
  | [],_ :: _,h,_=>by simp at h
  | _ :: _,[],h,_=>by simp at h
  | x :: xs,v :: its,h,g=>.cons (g 0 x v rfl rfl) (zGB (by simpa using h) fun j y u e1 e2=>g (j + 1) y u (by simpa using e1) (by simpa using e2))
theorem zPC {lo:Int} {n:Nat} {its:List Value} (hl:its.length = n) (h:∀ (j:Nat) (v:Value),its[j]? = some v→∃ t,v = Value.int (lo + (j:Int) * 1) t):Vals (zIR lo n) its:=by
  refine zGB (by simp [zIR,hl]) fun j x v e1 e2=>?_
  unfold zIR at e1
  rw [qAd] at e1
  cases e:(qA9 n)[j]? with
  | none=>rw [e] at e1; cases e1
  | some i =>
    rw [e] at e1
    cases e1
    have hi:i = j:=by
      obtain ⟨h1,h2⟩:=qA1.mp e
      rw [qCp] at h2
      exact h2.symm
    subst hi
    obtain ⟨t,ht⟩:=h i v e2
    exact ⟨t,by rw [ht,qHq]⟩
theorem zJH (hc:X.calm = true):zDH X (.type "list") (fun vs H Q=>∃ p lo hi,vs = [.ref p]∧H p = some (.rng lo hi)∧(-(2 ^ 62)≤lo∧lo < 2 ^ 62∧-(2 ^ 62)≤hi∧hi < 2 ^ 62)∧hi - lo≤1000000∧∀ l,H l = none→Q (.ref l) (upd H l (.lst (zIR lo (hi - lo).toNat)))):=by
  intro pins s σ H vs us Q I r h
  obtain ⟨p,lo,hi,rfl,hp,⟨b1,b2,b3,b4⟩,hz,q⟩:=h
  obtain ⟨u,rfl,rx⟩:=zDF r
  cases rx
  obtain ⟨t,u,v,e⟩:=(show ObjOk X.prog X.w H s.heap p (.rng lo hi) from I.hok p _ hp)
  have hn:Builtin.Range.rangeSize lo hi 1 = (((hi - lo).toNat:Nat):Int):=by rw [rangeSize_one]; split <;> omega
  refine call_list_range (n:=(hi - lo).toNat) (I.ok.hd hc) e (small_one b1 b2 b3 b4) hn (by omega) fun h' tk acc' c' hk hS hacc=>?_
  have rv:Vals (zIR lo (hi - lo).toNat) acc'.toList:=zPC (by simpa using hacc.1) fun j v hj=>hacc.2 j v (by simpa using hj)
  refine ⟨.ref _,_,I.laid (o:=.lst (zIR lo (hi - lo).toNat)) hk (qAa _) ⟨?_,acc'.toList,c',rv,by simpa using hS⟩,rfl,q _ I.fresh⟩
  have hl:(zIR lo (hi - lo).toNat).length = (hi - lo).toNat:=by simp [zIR]
  rw [hl,sizeLine_eq]
  omega
end
end L2
namespace L2
open PySem PySem.Spec PyProof.Rows
section
variable {X:Cx}
def zUU:R2:=fun x y H Q=>match x,y with
  | .int i,.int j=>Q (.int (i + j)) H
  | .str i,.str j=>i.length + j.length≤sizeLine∧Q (.str (i ++ j)) H
  | .ref l,.ref b=>∃ xs zs,H l = some (.lst xs)∧H b = some (.lst zs)∧xs.length + zs.length≤sizeLine∧∀ p,H p = none→Q (.ref p) (upd H p (.lst (xs ++ zs)))
  | _,_=>False
theorem zD6:OpR X (binaryOp .Add) zUU:=by
  intro pins s σ H x y v u Q I rx ry h
  cases x <;> cases y <;> first
    | exact zXX pins s σ H _ _ v u Q I rx ry ⟨_,_,rfl,rfl,h⟩
    | exact zOQ pins s σ H _ _ v u Q I rx ry ⟨_,_,rfl,rfl,h.1,h.2⟩
    | (obtain ⟨xs,zs,h1,h2,h3,h4⟩:=h; exact zXW pins s σ H _ _ v u Q I rx ry ⟨_,_,xs,zs,rfl,rfl,h1,h2,h3,h4⟩)
    | exact qA5 h
noncomputable def rMulU:R2:=fun x y H Q=>match x,y with
  | .int i,.int j=>CMul i j∧Q (.int (i * j)) H
  | _,_=>False
noncomputable def zX5:R2:=fun x y H Q=>match x,y with
  | .int i,.int j=>Q (.int (i - j)) H
  | _,_=>False
theorem zZE:OpR X (binaryOp .Sub) zX5:=by
  intro pins s σ H x y v u Q I rx ry h
  cases x <;> cases y <;> first
    | exact zXR pins s σ H _ _ v u Q I rx ry ⟨_,_,rfl,rfl,h⟩
    | exact qA5 h
noncomputable def zXB:R2:=fun x y H Q=>match x,y with
  | .int i,.int j=>0 < j∧Q (.int (i % j)) H
  | _,_=>False
theorem zGC:OpR X (binaryOp .Mod) zXB:=by
  intro pins s σ H x y v u Q I rx ry h
  cases x <;> cases y <;> first
    | exact zXU pins s σ H _ _ v u Q I rx ry ⟨_,_,rfl,rfl,h.1,h.2⟩
    | exact qA5 h
def zX9:V→Hp→VK→Prop:=fun x H Q=>match x with
  | .int i=>Q (.int (-i)) H
  | _=>False
theorem zWL:UnR X (unaryOp .USub) zX9:=by
  intro pins s σ H x v Q I rx h
  cases x <;> first
    | exact zWJ pins s σ H _ v Q I rx ⟨_,rfl,h⟩
    | exact qA5 h
noncomputable def zUS (p:Int→Int→Bool):R2:=fun x y H Q=>match x,y with
  | .int i,.int j=>Q (.bl (p i j)) H
  | _,_=>False
theorem u_lt:OpR X (compareOp .Lt) (zUS fun i j=>decide (i < j)):=by
  intro pins s σ H x y v u Q I rx ry h
  cases x <;> cases y <;> first
    | exact zZS pins s σ H _ _ v u Q I rx ry ⟨_,_,rfl,rfl,h⟩
    | exact qA5 h
theorem u_gt:OpR X (compareOp .Gt) (zUS fun i j=>decide (j < i)):=by
  intro pins s σ H x y v u Q I rx ry h
  cases x <;> cases y <;> first
    | exact zZT pins s σ H _ _ v u Q I rx ry ⟨_,_,rfl,rfl,h⟩
    | exact qA5 h
def rEqU:R2:=fun x y H Q=>match x,y with
  | .int i,.int j=>Q (.bl (decide (i = j))) H
  | .str i,.str j=>Q (.bl (decide (i = j))) H
  | .bl i,.bl j=>Q (.bl (decide (i = j))) H
  | x,y=>rEqD x y H Q
def rNeU:R2:=fun x y H Q=>match x,y with
  | .int i,.int j=>Q (.bl (!decide (i = j))) H
  | .str i,.str j=>Q (.bl (!decide (i = j))) H
  | .bl i,.bl j=>Q (.bl (!decide (i = j))) H
  | x,y=>rNeD x y H Q
theorem u_eq (hu:X.A.units + 64 < cLine):OpR X (compareOp .Eq) rEqU:=by
  intro pins s σ H x y v u Q I rx ry h
  cases x <;> cases y <;> first
    | (refine zZU pins s σ H _ _ v u Q I rx ry ⟨rfl,?_⟩; have h':=h; simp only [rEqU] at h'; simpa using h')
    | exact zXV hu pins s σ H _ _ v u Q I rx ry h
theorem u_ne (hu:X.A.units + 64 < cLine):OpR X (compareOp .NotEq) rNeU:=by
  intro pins s σ H x y v u Q I rx ry h
  cases x <;> cases y <;> first
    | (refine zZR pins s σ H _ _ v u Q I rx ry ⟨rfl,?_⟩; have h':=h; simp only [rNeU] at h'; simpa using h')
    | exact zXT hu pins s σ H _ _ v u Q I rx ry h
def rIxU (K:qA2):R2:=fun x y H Q=>match x,y with
  | .str z,.int i=>∃ c,z.length≤sizeLine∧atI z.cps.toList i = some c∧Q (.str ⟨#[c]⟩) H
  | .ref p,.int i=>∃ xs v,(SqL K H p xs∨SqT K H p xs)∧atI xs i = some v∧Q v H
  | _,_=>False
theorem u_ix:IxR X (rIxU X.K):=by
  intro value slice pins s σ H x y v u Q I rx ry h hs
  cases x <;> cases y <;> first
    | (obtain ⟨c,h1,h2,h3⟩:=h; exact zY9 value slice pins s σ H _ _ v u Q I rx ry ⟨_,_,c,rfl,rfl,h1,h2,h3⟩ hs)
    | (obtain ⟨xs,w,h1 | h1,h2,h3⟩:=h
       · exact zVJ value slice pins s σ H _ _ v u Q I rx ry ⟨_,xs,_,w,rfl,rfl,h1,h2,h3⟩ hs
       · exact zY8 value slice pins s σ H _ _ v u Q I rx ry ⟨_,xs,_,w,rfl,rfl,h1,h2,h3⟩ hs)
    | exact qA5 h
def zUP (K:qA2):List V→Hp→VK→Prop:=fun vs H Q=>match vs with
  | [.str z]=>z.length≤sizeLine∧Q (.int z.length) H
  | [.ref p]=>∃ xs,(SqL K H p xs∨SqT K H p xs)∧Q (.int xs.length) H
  | _=>False
theorem zZZ:zDH X (.builtin "len") (zUP X.K):=by
  intro pins s σ H vs us Q I r h
  cases vs with
  | nil=>exact qA5 h
  | cons hd1 tl1 =>
    cases hd1 with
    | str z =>
      cases tl1 with
      | nil =>
        exact zLC pins s σ H _ us Q I r ⟨z,rfl,h.1,h.2⟩
      | cons _ _=>exact qA5 h
    | ref p =>
      cases tl1 with
      | nil =>
        obtain ⟨xs,h1,h2⟩:=h
        exact zLD pins s σ H _ us Q I r ⟨p,xs,rfl,h1,h2⟩
      | cons _ _=>exact qA5 h
    | _=>exact qA5 h
def zND (K:qA2):List V→Hp→VK→Prop:=fun vs H Q=>match vs with
  | [.ref p]=>(∃ xs,(SqL K H p xs∨SqT K H p xs)∧∀ l,H l = none→Q (.ref l) (upd H l (.lst xs))) ∨
      ∃ lo hi,H p = some (.rng lo hi)∧(-(2 ^ 62)≤lo∧lo < 2 ^ 62∧-(2 ^ 62)≤hi∧hi < 2 ^ 62)∧hi - lo≤1000000∧∀ l,H l = none→Q (.ref l) (upd H l (.lst (zIR lo (hi - lo).toNat)))
  | _=>False
theorem zY6 (hc:X.calm = true):zDH X (.type "list") (zND X.K):=by
  intro pins s σ H vs us Q I r h
  cases vs with
  | nil=>exact qA5 h
  | cons hd1 tl1 =>
    cases hd1 with
    | ref p =>
      cases tl1 with
      | nil =>
        rcases h with ⟨xs,h1,h2⟩ | ⟨lo,hi,h1,h2,h3,h4⟩
        · exact zLB pins s σ H _ us Q I r ⟨p,xs,rfl,h1,h2⟩
        · exact zJH hc pins s σ H _ us Q I r ⟨p,lo,hi,rfl,h1,h2,h3,h4⟩
      | cons _ _=>exact qA5 h
    | _=>exact qA5 h
def zXC:List V→Hp→VK→Prop:=fun vs H Q=>match vs with
  | [x,.ty n]=>∃ T,zGE H x = some T∧n∈["int","bool","str","list","tuple","dict"]∧Q (.bl (zVN T n)) H
  | _=>False
theorem zCU:zDH X (.builtin "isinstance") zXC:=by
  intro pins s σ H vs us Q I r h
  cases vs with
  | nil=>exact qA5 h
  | cons x tl1 =>
    cases tl1 with
    | nil=>exact qA5 h
    | cons hd2 tl2 =>
      cases hd2 with
      | ty n =>
        cases tl2 with
        | nil =>
          obtain ⟨T,h1,h2,h3⟩:=h
          exact zMV pins s σ H _ us Q I r ⟨x,n,T,rfl,h1,h2,h3⟩
        | cons _ _=>exact qA5 h
      | _=>exact qA5 h
def zXE:List V→Hp→VK→Prop:=fun vs H Q=>match vs with
  | [.ref a]=>∃ bs:List Bool,H a = some (.lst (bs.map V.bl))∧Q (.bl (bs.all id)) H
  | _=>False
theorem za0 (hc:X.calm = true):zDH X (.builtin "all") zXE:=by
  intro pins s σ H vs us Q I r h
  cases vs with
  | nil=>exact qA5 h
  | cons hd1 tl1 =>
    cases hd1 with
    | ref a =>
      cases tl1 with
      | nil =>
        obtain ⟨bs,h1,h2⟩:=h
        exact zT9 hc pins s σ H _ us Q I r ⟨a,bs,rfl,h1,h2⟩
      | cons _ _=>exact qA5 h
    | _=>exact qA5 h
end
noncomputable def zL7 (N N':List Str) (k:Nat) (sc esc:Scope):Bool :=
  (sc.kind == .function) && decide ((sc.names.map (·.1)).Nodup) && (N'.length == N.length + k) &&
  ((qA9 N.length).all fun i=>match N'[i]? with
    | none=>true
    | some x=>(sc.names.lookup x == none) || (sc.names.any (fun p=>p.1 == x && p.2 == .free) && N[i]? == some x)) &&
  (sc.names.all fun p=>p.2 != .free || esc.names.lookup p.1 == some .cell || esc.names.lookup p.1 == some .free)
theorem cn {X:Cx} {sc:Scope} (N':List Str) (k:Nat) (h:zL7 X.N N' k sc X.env.scope = true):CompNames X.N N' k sc X.env:=by
  unfold zL7 at h
  simp only [qBb,decide_eq_true_eq,beq_iff_eq] at h
  obtain ⟨⟨⟨⟨h1,h2⟩,h3⟩,h4⟩,h5⟩:=h
  refine ⟨h1,h2,h3,fun i x e hi=>?_,fun x hx=>?_⟩
  · have q:=qEv.mp h4 i (qCn.mpr hi)
    rw [e] at q
    simp only [qGi,qBb,beq_iff_eq,qEw] at q
    rcases q with q | ⟨⟨p,hp,e1,e2⟩,e3⟩
    · exact .inr q
    · obtain ⟨y,kk⟩:=p
      dsimp only at e1 e2
      subst e1; subst e2
      exact .inl ⟨hp,e3⟩
  · have q:=qEv.mp h5 _ hx
    simp only [qGi,bne_iff_ne,ne_eq,not_true_eq_false,false_or,beq_iff_eq] at q
    exact q
theorem PE.imp {X:Cx} {e:Expr} {t t':TE} (h:PE X e t) (i:∀ σ H Q,t' σ H Q→t σ H Q):PE X e t':=fun pins s σ H Q I q=>h pins s σ H Q I (i σ H Q q)
noncomputable def vM (i:Nat):TE:=fun σ H Q=>match σ[i]? with
  | some (some v)=>Q v H
  | _=>False
theorem pn {X:Cx} (i:Nat) {x:Str} {pos:Pos} (hN:X.N[i]? = some x:=by rfl) (hv:Vis X.env.scope x:=by first | exact qHy rfl | exact qHz (qHy rfl) | exact qHz (qHz rfl)) (hd:(x == ("__debug__":Str)) = false:=by decide)
    (hcd:(x == ("__classdict__":Str)) = false:=by decide):PE X (.Name x pos) (vM i):=(zXL hN hv hd hcd).imp fun σ H Q h=>by
  unfold vM at h
  cases e:σ[i]? with
  | none=>rw [e] at h; exact qA5 h
  | some w =>
    rw [e] at h
    cases w with
    | none=>exact qA5 h
    | some v=>exact ⟨v,e,h⟩
noncomputable def bM (t:TE):TT:=fun σ H Q=>t σ H fun x H'=>match x with
  | .bl k=>Q k H'
  | .int i=>Q (i != 0) H'
  | .non=>Q false H'
  | _=>False
section
variable {X:Cx} {a b c:Expr} {ta tb tc:TE} {tA tB:TT} {rest:List Expr} {pos:Pos}
theorem zWP {K:qA2} {x:V} {H:Hp} {Q:Bool→Hp→Prop} (h:match x with | .bl k=>Q k H | .int i=>Q (i != 0) H | .non=>Q false H | _=>False):∃ k,TruV K x H k∧Q k H:=by
  cases x with
  | bl k=>exact ⟨k,rfl,h⟩
  | int i=>exact ⟨_,rfl,h⟩
  | non=>exact ⟨_,rfl,h⟩
  | _=>exact qA5 h
theorem pt_m (ha:PE X a ta) (he:∀ whole,isTrue a X.env whole = (do let v ← whole; standAt a.pos; holding [v] (truthy v)):=by intro _; rfl):PT X a (bM ta):=by
  intro pins s σ H Q I h
  refine isTrue_plain (thn (ha pins s σ H _ I h) fun v s1 z0=>?_) (he _)
  obtain ⟨x,H1,I1,r1,q1⟩:=z0
  exact thn (zWO pins s1 σ H1 x v Q I1 r1 (zWP q1)) fun _ _ q=>q
theorem zE9 {op:CmpOp} {r:R2} (ho:OpR X (compareOp op) r) (ha:PE X a ta) (hb:PE X b tb) (hm:behindInMarks op b = false):PT X (.Compare a [op] [b] pos) (fun σ H Q=>ta σ H fun x H1=>tb σ H1 fun y H2=>r x y H2 fun z H3=>match z with | .bl k=>Q k H3 | _=>False):=by
  intro pins s σ H Q I h
  refine wpAny_isTrue_Compare1 (thn (ha pins s σ H _ I h) fun v s1 ⟨x,H1,I1,r1,q1⟩=>thn (hb pins s1 σ H1 _ I1 q1) fun u s2 ⟨y,H2,I2,r2,q2⟩ =>
    thn (ho pins s2 σ H2 x y v u _ I2 r1 r2 q2) fun d s3 ⟨z,H3,I3,r3,q3⟩=>?_) hm
  cases z with
  | bl k=>cases r3; exact wpAny_truthy_bool ⟨H3,I3,q3⟩
  | _=>exact qA5 q3
theorem zZP (ha:PE X a ta) (hb:PE X (.BoolOp .And (b :: rest) pos) tb):PE X (.BoolOp .And (a :: b :: rest) pos) (fun σ H Q=>ta σ H fun x H1=>match x with | .bl c=>if c = true then tb σ H1 Q else Q (.bl false) H1 | _=>False):=by
  intro pins s σ H Q I h
  refine BoolOp_and (thn (ha pins s σ H _ I h) fun v s1 z0=>?_)
  obtain ⟨x,H1,I1,r1,q1⟩:=z0
  cases x with
  | bl c =>
    cases r1
    refine wpAny_truthy_bool ?_
    cases c with
    | true=>exact hb pins s1 σ H1 Q I1 (by simpa using q1)
    | false=>exact ⟨.bl false,H1,I1,rfl,by simpa using q1⟩
  | _=>exact qA5 q1
theorem zZN (ha:PE X a ta):PE X (.UnaryOp .Not a pos) (fun σ H Q=>ta σ H fun x H1=>match x with | .bl c=>Q (.bl (!c)) H1 | _=>False):=by
  intro pins s σ H Q I h
  refine UnaryOp_ (thn (ha pins s σ H _ I h) fun v s1 z0=>?_)
  obtain ⟨x,H1,I1,r1,q1⟩:=z0
  cases x with
  | bl c=>cases r1; exact not_of (wpAny_truthy_bool ⟨.bl (!c),H1,I1,rfl,q1⟩)
  | _=>exact qA5 q1
def setM:V→V→V→Hp→(Hp→Prop)→Prop:=fun o i v H Q=>match o,i with
  | .ref p,.int k=>∃ xs j,H p = some (.lst xs)∧ixN xs.length k = some j∧Q (upd H p (.lst (xs.set j v)))
  | _,_=>False
theorem zWK:PSet X setM:=by
  intro pins s σ H o i v ov iv u Q I ro ri rv h
  cases o <;> cases i <;> first
    | (obtain ⟨xs,j,h1,h2,h3⟩:=h; exact zS5 pins s σ H _ _ v ov iv u Q I ro ri rv ⟨_,xs,_,j,rfl,rfl,h1,h2,h3⟩)
    | exact qA5 h
def appM:V→List V→Hp→VK→Prop:=fun x vs H Q=>match x,vs with
  | .ref l,[y]=>∃ xs,H l = some (.lst xs)∧xs.length < sizeLine∧Q .non (upd H l (.lst (xs ++ [y])))
  | _,_=>False
theorem zFH:MtR X "list.append" appM:=by
  intro pins s σ H x vs v us Q I rx rv h
  cases x with
  | ref l =>
    cases vs with
    | nil=>exact qA5 h
    | cons y t =>
      cases t with
      | nil =>
        obtain ⟨xs,h1,h2,h3⟩:=h
        exact zQG pins s σ H _ _ v us Q I rx rv ⟨l,xs,y,rfl,rfl,h1,h2,h3⟩
      | cons _ _=>exact qA5 h
  | _=>exact qA5 h
def popM:V→List V→Hp→VK→Prop:=fun x vs H Q=>match x,vs with
  | .ref l,[.int i]=>∃ xs k y,H l = some (.lst xs)∧(-(2 ^ 63)≤i∧i < 2 ^ 63)∧seqIndex? i xs.length = some k∧xs[k]? = some y∧Q y (upd H l (.lst (xs.eraseIdx k)))
  | .ref l,[]=>∃ xs y,H l = some (.lst xs)∧xs[xs.length - 1]? = some y∧Q y (upd H l (.lst xs.dropLast))
  | _,_=>False
theorem zV7:MtR X "list.pop" popM:=by
  intro pins s σ H x vs v us Q I rx rv h
  cases x with
  | ref l =>
    cases vs with
    | nil =>
      obtain ⟨xs,y,h1,h2,h3⟩:=h
      exact zXZ pins s σ H _ _ v us Q I rx rv ⟨l,xs,y,rfl,rfl,h1,h2,h3⟩
    | cons y t =>
      cases y with
      | int i =>
        cases t with
        | nil =>
          obtain ⟨xs,k,y,h1,h2,h3,h4,h5⟩:=h
          exact zSO pins s σ H _ _ v us Q I rx rv ⟨l,xs,i,k,y,rfl,rfl,h1,h2.1,h2.2,h3,h4,h5⟩
        | cons _ _=>exact qA5 h
      | _=>exact qA5 h
  | _=>exact qA5 h
end
theorem pt_w {X:Cx} {e:Expr} {t:TT} (h:PW X e t):PT X e t:=h.pt
def Has (P:Program) (w:World) (K:qA2) (mg:Str→Option Value) (base:Heap) (x:Str) (k:Nat) (ps:List Str) (sp:Sp):Prop :=
  ∃ f fd,FnOk P w K mg base CX0 k f fd ps sp∧mg x = some (.ref f)∧qB9 K (.ref f) = true∧Binds K fd ps []
def Def (K:qA2) (mg:Str→Option Value) (x:Str) (st:Stmt):Prop:=∃ f fd,Fun K x x st f fd∧mg x = some (.ref f)
section
variable {X:Cx} {x:Str} {j k:Nat} {ps:List Str} {sp:Sp} {e:Expr} {es:List Expr} {t:TA} {p pos:Pos}
theorem zBD (h:Has X.prog X.w X.K X.mg X.base x j ps sp) (hjk:j≤k) (hr:Room k X.A) (hg:Gl X x) (ha:PA X (e :: es) t) (hdb:(x == ("__debug__":Str)) = false:=by decide)
    (he:starEach (e :: es) X.env = (false,eval e X.env) :: starEach es X.env:=by rfl) (hpl:(backTo pos (starEach es X.env)).any (·.1) = false:=by rfl):PE X (.Call (.Name x p) (e :: es) [] pos) (zHD sp [] E0 t):=by
  obtain ⟨f,fd,G,m,kp,b⟩:=h
  exact zQ4 G (hr.mono hjk) hg m kp b .nil zZQ ha hdb he hpl
end
section
variable {P:Program} {w:World} {K:qA2} {mg:Str→Option Value} {base:Heap}
theorem Def.ok {x:Str} {st:Stmt} {N ps:List Str} {k:Nat} {sp:Sp} (D:Def K mg x st) (S:FnScope N ps (zA7 st))
    (hb:∀ (kV doc pm:Value) (an:Option Addr) (cdv ct:Value) (us:List Value),us.length = ps.length→bindArgs (qBq x x (zCN st) (zBC st) (zA7 st) .none kV doc pm an cdv ct) ⟨us,[]⟩ = pure (ps.zip us))
    (len:∀ vs H Q E,sp vs H Q E→vs.length = ps.length)
    (hbody:∀ (f:Addr) (cdv:Value) (A:Around) (outer:List Env) (s:Shared) (H:Hp) (vs:List V) (Q:VK) (E:XK),Room k (A.deeper (envOfC x (zA7 st) s.heap.objs.size f cdv))→sp vs H Q E →
      ∃ t,PSs (cxOf CX0 P w K mg base N x (zA7 st) f cdv A outer s H E).nox (zBC st) t∧t { nx:=fun _ H'=>Q .non H',rt:=Q } (start N vs) H):Has P w K mg base x (k + 1) ps sp:=by
  obtain ⟨f,fd,F,m⟩:=D
  exact ⟨f,fd,F.ok S len (fun cdv A outer s H vs Q E hr h=>hbody f cdv A outer s H vs Q E hr h),m,F.kp,F.binds hb⟩
end
end L2
namespace L2
open PySem PySem.Spec PyProof.Rows
section
variable {X:Cx} {pins:List (Addr × Obj)} {σ:St} {H:Hp} {s:Shared}
theorem Inv.turnedNew {h':Heap} {t':Nat} {fp:List Addr} {a:Addr} {o:HO} (I:Inv X pins σ H s) (hf:∀ b∈fp,FpOk X pins H b) (k:∀ b u,b ∉ fp→s.heap.get? b = some u→h'.get? b = some u)
    (hp:s.heap.objs.size≤a) (new:ObjOk X.prog X.w (upd H a o) h' a o):Inv X pins σ (upd H a o) { s with heap:=h',toks:=t' }:=by
  have hn:H a = none:=I.hok.fresh hp
  have ne:∀ b u,s.heap.get? b = some u→b≠a:=fun b u e=>qAk (qAe (Heap.lt_size e) hp)
  have nfp:∀ b u,H b = some u→b ∉ fp:=fun b u e z=>by rw [(hf b z).1] at e; cases e
  refine I.step (g':=s.gens) (d':=s.drawn) (ch:=fp) (fun b hb=>⟨(hf b hb).2.2.2.1,(hf b hb).2.1,(hf b hb).2.2.2.2.1,(hf b hb).2.2.2.2.2⟩) (fun b u _ _ hc e _=>k b u hc e) (fun b u _ _ hc e _=>⟨u.slots,k b u hc e⟩)
    (fun b u _ e n=>by rw [zAK (ne b u e)]; exact n) (fun b u hc e=>⟨u,k b u hc e⟩) (fun b xs e=>by rw [zAK (zAN e hn)]; exact e) (fun b u xs e=>by rw [zAK (zAN e hn)]; exact e)
    (fun b ps e=>⟨#[],by rw [zAK (zAN e hn),e]; simp⟩) (fun m hm=>?_) (fun b u e=>?_) I.bare
  · obtain ⟨u,es,ep,ho,r⟩:=hm
    exact ⟨u,es,ep,k _ u (fun z=>(hf _ z).2.1 rfl) ho,r⟩
  · by_cases hb:b = a
    · subst hb; rw [zAH] at e; cases e; exact new
    · rw [zAK hb] at e
      refine (I.hok b u e).stay (fun c v hc q=>k c v ?_ q) (fun c q=>by rw [zAK (zAN q hn)]; exact q) fun c xs q=>by rw [zAK (zAN q hn)]; exact q
      rcases hc with z | z
      · rw [z]; exact nfp b u e
      · exact nfp c _ z
theorem Inv.turnedL {h':Heap} {t':Nat} {fp:List Addr} (I:Inv X pins σ H s) (hf:∀ b∈fp,FpOk X pins H b) (k:∀ b u,b ∉ fp→s.heap.get? b = some u→h'.get? b = some u):Inv X pins σ H { s with heap:=h',toks:=t' }:=by
  have nfp:∀ b u,H b = some u→b ∉ fp:=fun b u e z=>by rw [(hf b z).1] at e; cases e
  refine I.step (g':=s.gens) (d':=s.drawn) (ch:=fp) (fun b hb=>⟨(hf b hb).2.2.2.1,(hf b hb).2.1,(hf b hb).2.2.2.2.1,(hf b hb).2.2.2.2.2⟩) (fun b u _ _ hc e _=>k b u hc e) (fun b u _ _ hc e _=>⟨u.slots,k b u hc e⟩)
    (fun b u _ e n=>n) (fun b u hc e=>⟨u,k b u hc e⟩) (fun b xs e=>e) (fun b u xs e=>e)
    (fun b ps e=>⟨#[],by rw [e]; simp⟩) (fun m hm=>?_) (fun b u e=>?_) I.bare
  · obtain ⟨u,es,ep,ho,r⟩:=hm
    exact ⟨u,es,ep,k _ u (fun z=>(hf _ z).2.1 rfl) ho,r⟩
  · refine (I.hok b u e).stay (fun c v hc q=>k c v ?_ q) (fun c q=>q) fun c xs q=>q
    rcases hc with z | z
    · rw [z]; exact nfp b u e
    · exact nfp c _ z
def Ite (K:qA2) (a:Addr):It :=
  ⟨fun i H=>∃ xs x,SqL K H a xs∧xs[i]? = some x,fun i H x H'=>∃ T y,x = .ref T∧H T = none∧H' = upd H T (.tup [.int i,y])∧∀ xs,SqL K H a xs→xs[i]? = some y,fun i H=>∃ xs,SqL K H a xs∧xs.length≤i⟩
theorem zJW {P:Program} {w:World} {K:qA2} {ts:List Expr} {kk:Nat} {tp:Pos} (a e it:Addr) (hei:e≠it) :
    Turn P w K (.Tuple ts kk tp) (Ite K a) [e,it] e (fun i h=>(∃ old,IsEnum h e it i old)∧h.IsListIter it a i) where
  mem:=by simp
  obj:=fun i h st b hb=>by
    rcases qAb.mp hb with z | z
    · subst z
      obtain ⟨⟨old,he⟩,_⟩:=st
      exact ⟨_,he,fun v z=>by cases z⟩
    · have z':b = it:=by simpa using z
      subst z'
      obtain ⟨_,o,e,c,d⟩:=st
      exact ⟨o,e,fun v z=>by rw [d] at z; cases z⟩
  keep:=fun i h h' st k=>⟨by obtain ⟨⟨old,he⟩,_⟩:=st; exact ⟨old,k e (by simp) _ he⟩,st.2.at fun o x=>k it (by simp) o x⟩
  item:=by
    intro X hP hw hK hc i pins s σ H E I hf st hg
    subst hP hw hK
    obtain ⟨xs,x,hq,hx⟩:=hg
    obtain ⟨its,rv,p,hz⟩:=I.list hq
    obtain ⟨u,hu,ru⟩:=rv.get hx
    obtain ⟨⟨old,he⟩,hit⟩:=st
    refine wpAny_pyNext_enum_item he hit p.isList (x:=u) (by simpa using hu) hei fun h' ho hit' hT hsz hk=>?_
    refine ⟨_,rfl,wpAny_letOwnedTupleGo_enum ho fun h'' he'' hs''=>?_⟩
    have hTe:s.heap.objs.size≠e:=qBp (Heap.lt_size he)
    have hTi:s.heap.objs.size≠it:=by obtain ⟨o,ho',_⟩:=hit; exact qBp (Heap.lt_size ho')
    have kk:∀ b u,b ∉ [e,it]→s.heap.get? b = some u→h''.get? b = some u:=fun b u hb q=>by
      have b1:b≠e:=fun z=>hb (by simp [z])
      have b2:b≠it:=fun z=>hb (by simp [z])
      exact (hs''.2 b b1).trans (hk b u b1 b2 q)
    have hT'':=(hs''.2 _ hTe).trans hT
    refine ⟨.ref s.heap.objs.size,_,I.turnedNew (t':=s.toks + 1) (o:=.tup [.int i,x]) hf kk (qAa _) ⟨by show 2≤sizeLine; decide,[.int i s.toks,u],.cons ⟨_,rfl⟩ (.cons ru .nil),⟨_,hT'',rfl,_,rfl⟩⟩,rfl,
      ⟨_,x,rfl,I.fresh,rfl,fun ys hy=>by rw [I.list_inj hy hq]; exact hx⟩,⟨⟨_,by simpa using he''⟩,hit'.at fun o x=>(hs''.2 it hei.symm).trans x⟩,fun b hb=>?_⟩
    have hbs:b < s.heap.objs.size:=by
      rcases qAb.mp hb with z | z
      · rw [z]; exact Heap.lt_size he
      · have z':b = it:=by simpa using z
        rw [z']
        obtain ⟨o,ho',_⟩:=hit
        exact Heap.lt_size ho'
    rw [zAK (qAk hbs)]
    exact (hf b hb).1
  done:=by
    intro X hP hw hK hc i pins s σ H E I hf st hg
    subst hP hw hK
    obtain ⟨xs,hq,hx⟩:=hg
    obtain ⟨its,rv,p,hz⟩:=I.list hq
    have hl:=rv.length
    obtain ⟨⟨old,he⟩,hit⟩:=st
    exact wpAny_pyNext_enum_end (I.ok.hd hc) he hit p.isList (by simp; omega) fun h' eb=>⟨rfl,I.turnedL (t':=s.toks) hf fun b u hb q=>eb b u (fun z=>hb (by simp [z])) q⟩
  self:=fun _ _ _ _ _ st h=>by obtain ⟨⟨old,he⟩,_⟩:=st; exact wpAny_pyIter_enum he h
def zVS (K:qA2) (tl:TA):TI:=fun σ H R=>tl σ H fun vs H1=>match vs with
  | [.ref a]=>(∃ xs,SqL K H1 a xs)∧R (Ite K a) H1
  | _=>False
theorem zUX {ts:List Expr} {kk:Nat} {tp p pos:Pos} {a:Expr} {ta:TA} (hg:Gl X "enumerate") (hm:X.mg "enumerate" = none) (ha:PA X [a] ta) (hs:starEach [a] X.env = [(false,eval a X.env)]:=by rfl) :
    PI X (.Tuple ts kk tp) (.Call (.Name "enumerate" p) [a] [] pos) (zVS X.K ta):=by
  intro pins s σ H R I h
  refine Call_ (zGS I hg hm boot_enumerate (qC6 (thn (ha pos pins s σ H _ I h) fun us s1 z0=>?_) hs rfl))
  obtain ⟨vs,H1,I1,r1,q1⟩:=z0
  cases vs with
  | nil=>exact qA5 q1
  | cons hd1 tl1 =>
    cases hd1 with
    | ref l =>
      cases tl1 with
      | nil =>
        obtain ⟨⟨xs,hq⟩,q⟩:=q1
        obtain ⟨u,rfl,rx⟩:=zDF r1
        cases rx
        obtain ⟨its,rv,pl,hz⟩:=I1.list hq
        refine call_enumerate_list pl.isList fun h' he hit hsz hk=>?_
        refine wpAny_pyIter_enum he ?_
        have hne:s1.heap.objs.size + 1≠s1.heap.objs.size:=by omega
        refine ⟨s1.heap.objs.size + 1,[s1.heap.objs.size + 1,s1.heap.objs.size],_,_,H1,rfl,I1.kept (t':=s1.toks) hk,zJW l _ _ hne,⟨⟨_,he⟩,hit⟩,fun b hb=>?_,q⟩
        have hb':s1.heap.objs.size≤b:=by
          rcases qAb.mp hb with z | z
          · rw [z]; exact qBv _
          · have z':b = s1.heap.objs.size:=by simpa using z
            rw [z']; exact qAa _
        exact I1.fpOk hb' (I1.hok.fresh hb')
      | cons _ _=>exact qA5 q1
    | _=>exact qA5 q1
end
section
variable {X:Cx} {K:qA2}
theorem zCT (hK:X.K = K:=by rfl):zDH X (.builtin "len") (zUP K):=hK ▸ zZZ
theorem zVI (hc:X.calm = true) (hK:X.K = K:=by rfl):zDH X (.type "list") (zND K):=hK ▸ zY6 hc
theorem zCF (hK:X.K = K:=by rfl):IxR X (rIxU K):=hK ▸ u_ix
theorem zG1 {ts:List Expr} {kk:Nat} {tp p pos:Pos} {a:Expr} {ta:TA} (hg:Gl X "enumerate") (hm:X.mg "enumerate" = none) (ha:PA X [a] ta) (hs:starEach [a] X.env = [(false,eval a X.env)]:=by rfl) (hK:X.K = K:=by rfl) :
    PI X (.Tuple ts kk tp) (.Call (.Name "enumerate" p) [a] [] pos) (zVS K ta):=hK ▸ zUX hg hm ha hs
theorem zDB {es:List Expr} {k:Nat} {t:TGs} {n:Nat} {pos:Pos} (hc:X.calm = true) (h:PGs X es t)
    (hn:(assignEach es X.env).length = n:=by rfl) (hst:(assignEach es X.env).findIdx? (·.1) = none:=by rfl) (hK:X.K = K:=by rfl):PG X (.Tuple es k pos) (gTup K n t):=hK ▸ zXJ hc h hn hst
noncomputable def tML (r:V→List V→Hp→VK→Prop) (to:TE) (t:TA):TE:=fun σ H Q=>to σ H fun x H1=>match x with
  | .ref p=>∃ xs,H1 p = some (.lst xs)∧t σ H1 fun vs H2=>r x vs H2 Q
  | _=>False
variable {o e:Expr} {es:List Expr} {to:TE} {t:TA} {name:Str} {apos cpos:Pos} {T id:String} {r:V→List V→Hp→VK→Prop}
theorem zES (pa:PlainAttrs "list") (slot:Slot "list" name id) (hty:typeOf (.builtin id) = pure (.type "method_descriptor")) (hm:MtR X id r) (ho:PE X o to) (ha:PA X (e :: es) t)
    (hbase:attributeBase o name X.env (eval o X.env) = eval o X.env:=by rfl)
    (hfew:((backTo cpos (starEach (e :: es) X.env)).all (fun x=>!x.1) && (backToKw cpos (keywordEach [] X.env)).all (fun x=>x.1.isSome)
      && decide ((e :: es).length + ([]:List Keyword).length + (if ([]:List Keyword).isEmpty then 0 else 1) < 30)) = true:=by rfl)
    (hline:(apos.endLine == cpos.line) = true:=by rfl) (hs:starEach (e :: es) X.env = (false,eval e X.env) :: starEach es X.env:=by rfl) (hplain:(backTo cpos (starEach es X.env)).any (·.1) = false:=by rfl) :
    PE X (.Call (.Attribute o name apos) (e :: es) [] cpos) (tML r to t):=by
  intro pins s σ H Q I h
  refine wpAny_Call_method_late hbase hfew hline rfl (thn (ho pins s σ H _ I h) fun v s1 z0=>?_)
  obtain ⟨x,H1,I1,r1,q1⟩:=z0
  cases x with
  | ref p=>?_
  | _=>exact qA5 q1
  obtain ⟨xs,hx,q1⟩:=q1
  obtain ⟨h1,h2⟩:=zTD (T:="list") I1 r1 (.inl ⟨rfl,xs,SqL.of hx⟩)
  refine ⟨"list",id,pa,slot,hty,h1,h2,?_⟩
  have hA:=ha cpos pins s1 σ H1 _ I1 q1
  rw [hs] at hA ⊢
  refine Calls.callWith_builtin (by show (false || (backTo cpos (starEach es X.env)).any (·.1)) = false; rw [hplain] <;> rfl) (Calls.evalArgs_plain ?_)
  exact thn hA fun us s2 ⟨vs,H2,I2,r2,q2⟩=>hm pins s2 σ H2 (.ref p) vs v us Q I2 r1 r2 q2
end
end L2
namespace L2
open PySem PySem.Spec PyProof.Rows
theorem same_new {H:Hp} {p:Addr} (h:H p = none) (o:HO):Same H (upd H p o):=fun b u q=>by rw [zAK (zAN q h)]; exact q
theorem Same.upd {H H':Hp} {p:Addr} (s:Same H H') (h:H p = none) (o:HO):Same H (upd H' p o):=fun b u q=>by rw [zAK (zAN q h)]; exact s b u q
theorem zD0 {H:Hp}:∀ (ns:List Int),RepL H (ns.map Dat.int) (ns.map V.int)
  | []=>rfl
  | n :: r=>⟨.int n,r.map V.int,rfl,rfl,zD0 r⟩
theorem zD3:∀ (ns:List Int),Dat.depL (ns.map Dat.int) = 0
  | []=>rfl
  | n :: r=>by
    rw [qAi,Dat.depL,zD3 r]
    rfl
theorem zF2:∀ (ns ms:List Int),Dat.eqL (ns.map Dat.int) (ms.map Dat.int) = decide (ns = ms)
  | [],[]=>by simp [Dat.eqL]
  | [],_ :: _=>by simp [Dat.eqL]
  | _ :: _,[]=>by simp [Dat.eqL]
  | n :: r,m :: q=>by
    rw [qAi,qAi,Dat.eqL,zF2 r q,Dat.eq]
    by_cases h:n = m
    · subst h; simp
    · simp [h]
theorem big {n:Nat} (h:n≤100000):n < sizeLine:=by rw [sizeLine_eq]; omega
end L2
namespace L2
open PySem PySem.Spec PyProof.Rows
section
variable {X:Cx}
def rInU (K:qA2) (neg:Bool):R2:=fun x y H Q=>match y with
  | .ref p=>∃ xs,(SqL K H p xs∨SqT K H p xs)∧zCZ x = true∧xs.all zCZ = true∧Q (.bl (if neg then !inV x xs else inV x xs)) H
  | .str j=>match x with
    | .str i=>Q (.bl (if neg then !(!(Builtin.Str.occurrences j i 0 j.length 1).isEmpty) else !(Builtin.Str.occurrences j i 0 j.length 1).isEmpty)) H
    | _=>False
  | _=>False
theorem zPD {K:qA2} (hK:X.K = K:=by rfl):OpR X (compareOp .NotIn) (rInU K true):=by
  subst hK
  intro pins s σ H x y v u Q I rx ry h
  cases y with
  | ref p =>
    obtain ⟨xs,h1,h2,h3,h4⟩:=h
    exact zKH pins s σ H _ _ v u Q I rx ry ⟨p,xs,rfl,h1,h2,h3,h4⟩
  | str j =>
    cases x with
    | str i=>exact zKG pins s σ H _ _ v u Q I rx ry ⟨i,j,rfl,rfl,h⟩
    | _=>exact qA5 h
  | _=>exact qA5 h
end
end L2
namespace Mi
open PySem
noncomputable section
inductive Sv where
  | i (n:Int) | s (x:Str)
inductive Sw where
  | non | bl (b:Bool) | int (i:Int) | str (x:Str)
inductive Dt where
  | non | bl (b:Bool) | int (i:Int) | str (x:Str) | lst (xs:List Dt) | tup (xs:List Dt) | scr (ns:List Int) | exc (c f:Str) (d:Dt) | ins (c:Str) (fs:List (Str × Sv)) | dct (kvs:List (Sum Int Str × Sw))
mutual
def Dt.dep:Dt→Nat
  | .lst xs=>Dt.depL xs + 1
  | .tup xs=>Dt.depL xs + 1
  | .scr _=>1000
  | .exc _ _ _=>1000
  | .ins _ _=>1000
  | .dct _=>1000
  | _=>0
def Dt.depL:List Dt→Nat
  | []=>0
  | x :: r=>max x.dep (Dt.depL r)
end
mutual
def Dt.eq:Dt→Dt→Bool
  | .non,.non=>true
  | .bl a,.bl b=>a == b
  | .bl a,.int b=>(if a then 1 else 0) == b
  | .int a,.bl b=>a == (if b then 1 else 0)
  | .int a,.int b=>a == b
  | .str a,.str b=>a == b
  | .lst xs,.lst ys=>Dt.eqL xs ys
  | .tup xs,.tup ys=>Dt.eqL xs ys
  | _,_=>false
def Dt.eqL:List Dt→List Dt→Bool
  | [],[]=>true
  | x :: r,y :: q=>Dt.eq x y && Dt.eqL r q
  | _,_=>false
end
structure Xn where
  cls:Str
  f:Str
  d:Dt
abbrev R (α:Type):=Option (Except Xn α)
noncomputable def okR {α:Type} (a:α):R α:=some (.ok a)
noncomputable def zA3 {α β:Type} (x:R α) (f:α→R β):R β:=match x with
  | none=>none
  | some (.error e)=>some (.error e)
  | some (.ok a)=>f a
def optR {α:Type} (o:Option α):R α:=match o with
  | none=>none
  | some a=>okR a
@[simp] theorem zA0 {α β:Type} (a:α) (f:α→R β):zA3 (okR a) f = f a:=rfl
@[simp] theorem zA9 {α β:Type} (f:α→R β):zA3 none f = none:=rfl
@[simp] theorem zAC {α β:Type} (e:Xn) (f:α→R β):zA3 (some (.error e)) f = some (.error e):=rfl
@[simp] theorem zA8 {α:Type} (a:α):optR (some a) = okR a:=rfl
@[simp] theorem zAB {α:Type}:optR (none:Option α) = none:=rfl
abbrev Rh:=List (Option Dt)
abbrev Sl:=Dt × Nat
abbrev Ro:=List (Option Sl)
abbrev EM:=Rh→R Dt
abbrev TM:=Rh→R Bool
abbrev AM:=Rh→R (List Dt)
abbrev FM:=List Dt→R Dt
noncomputable def ixA (n:Nat) (i:Int):Option Nat:=if 0≤i then (if i < n then some i.toNat else none) else if -(n:Int)≤i then some (i + n).toNat else none
def itA {α:Type} (xs:List α) (i:Int):Option α:=(ixA xs.length i).bind fun j=>xs[j]?
noncomputable def addD:Dt→Dt→Option Dt
  | .int i,.int j=>some (.int (i + j))
  | .str i,.str j=>@ite _ (i.length + j.length≤100000) (qA4 _) (some (.str (i ++ j))) none
  | .lst xs,.lst ys=>@ite _ (xs.length + ys.length≤100000) (qA4 _) (some (.lst (xs ++ ys))) none
  | _,_=>none
noncomputable def subD:Dt→Dt→Option Dt
  | .int i,.int j=>some (.int (i - j))
  | _,_=>none
noncomputable def mulD:Dt→Dt→Option Dt
  | .int i,.int j=>@ite _ (((-18446744073709551616 < i∧i < 18446744073709551616)∨(-18446744073709551616 < j∧j < 18446744073709551616))∨i.natAbs.log2 + j.natAbs.log2≤67108864) (qA4 _) (some (.int (i * j))) none
  | _,_=>none
noncomputable def divD:Dt→Dt→Option Dt
  | .int i,.int j=>@ite _ (0 < j∧j < 1000000000000000000000000) (qA4 _) (some (.int (i / j))) none
  | _,_=>none
noncomputable def modD:Dt→Dt→Option Dt
  | .int i,.int j=>if 0 < j then some (.int (i % j)) else none
  | _,_=>none
noncomputable def powD:Dt→Dt→Option Dt
  | .int i,.int j=>@ite _ (0≤j∧j≤1000000∧i.natAbs < 18446744073709551616) (qA4 _) (some (.int (i ^ j.toNat))) none
  | _,_=>none
noncomputable def negD:Dt→Option Dt
  | .int i=>some (.int (-i))
  | _=>none
noncomputable def cmpD (p:Int→Int→Bool):Dt→Dt→Option Dt
  | .int i,.int j=>some (.bl (p i j))
  | _,_=>none
noncomputable def eqD (x y:Dt):Option Dt:=if x.dep≤40∧y.dep≤40 then some (.bl (Dt.eq x y)) else none
noncomputable def neD (x y:Dt):Option Dt:=if x.dep≤40∧y.dep≤40 then some (.bl (!Dt.eq x y)) else none
noncomputable def zE3:Dt→Bool
  | .non=>true
  | _=>false
def isD (x y:Dt):Option Dt:=match y with
  | .non=>some (.bl (zE3 x))
  | _=>none
noncomputable def za5 (x y:Dt):Option Dt:=match y with
  | .non=>some (.bl (!zE3 x))
  | _=>none
def ixD:Dt→Dt→Option Dt
  | .lst xs,.int i=>itA xs i
  | .tup xs,.int i=>itA xs i
  | .scr ns,.int i=>(itA ns i).map .int
  | .str z,.int i=>@ite _ (z.length≤100000) (qA4 _) ((itA z.cps.toList i).map fun c=>.str ⟨#[c]⟩) none
  | _,_=>none
noncomputable def lenD:List Dt→Option Dt
  | [.lst xs]=>some (.int xs.length)
  | [.tup xs]=>some (.int xs.length)
  | [.scr ns]=>some (.int ns.length)
  | [.str z]=>@ite _ (z.length≤100000) (qA4 _) (some (.int z.length)) none
  | _=>none
noncomputable def listD:List Dt→Option Dt
  | [.lst xs]=>some (.lst xs)
  | [.tup xs]=>some (.lst xs)
  | [.scr ns]=>some (.lst (ns.map .int))
  | _=>none
noncomputable def nums (lo:Int) (n:Nat):List Dt:=(qA9 n).map fun i:Nat=>.int (lo + (i:Int))
noncomputable def tyD:Dt→String
  | .non=>"NoneType"
  | .bl _=>"bool"
  | .int _=>"int"
  | .str _=>"str"
  | .lst _=>"list"
  | .tup _=>"tuple"
  | .scr _=>""
  | .exc _ _ _=>""
  | .ins _ _=>""
  | .dct _=>""
def isiD (n:String) (x:Dt):Option Dt:=if tyD x = "" then none else some (.bl (tyD x == n || (tyD x == "bool" && n == "int")))
noncomputable def boolsD:List Dt→Option (List Bool)
  | []=>some []
  | .bl b :: r=>(boolsD r).map (b :: ·)
  | _ :: _=>none
def allD:List Dt→Option Dt
  | [.lst xs]=>(boolsD xs).map fun bs=>.bl (bs.all id)
  | _=>none
noncomputable def intD:List Dt→Option Dt
  | [.int i]=>some (.int i)
  | [.bl k]=>some (.int (if k = true then 1 else 0))
  | _=>none
noncomputable def absD:List Dt→Option Dt
  | [.int i]=>some (.int (if i < 0 then -i else i))
  | _=>none
noncomputable def hasD (x:Dt) (ys:List Dt):Option Bool:=if x.dep = 0∧Dt.depL ys = 0 then some (ys.any fun y=>Dt.eq y x) else none
def inD (ng:Bool) (x y:Dt):Option Dt:=match y with
  | .lst ys=>(hasD x ys).map fun b=>.bl (if ng = true then !b else b)
  | .tup ys=>(hasD x ys).map fun b=>.bl (if ng = true then !b else b)
  | .str z=>match x with
    | .str y=>match y.cps.toList with
      | [c]=>some (.bl (if ng = true then !decide (c∈z.cps.toList) else decide (c∈z.cps.toList)))
      | _=>none
    | _=>none
  | _=>none
noncomputable def zW2 (n d:Nat):Option Int→Nat
  | none=>d
  | some v=>if v < 0 then (v + (n:Int)).toNat else min v.toNat n
def cutA {α:Type} (xs:List α) (lo hi:Option Int):List α:=(xs.drop (zW2 xs.length 0 lo)).take (zW2 xs.length xs.length hi - zW2 xs.length 0 lo)
def slD:Dt→Option Int→Option Int→Option Dt
  | .lst xs,lo,hi=>some (.lst (cutA xs lo hi))
  | .str z,lo,hi=>@ite _ (z.length≤100000) (qA4 _) (some (.str ⟨(cutA z.cps.toList lo hi).toArray⟩)) none
  | _,_,_=>none
abbrev OM:=Rh→R (Option Int)
def oNo:OM:=fun _=>okR none
def oE (e:Rh→R Dt):OM:=fun ρ=>zA3 (e ρ) fun d=>match d with
  | .int i=>okR (some i)
  | _=>none
def eSl (a:Rh→R Dt) (lo hi:OM):Rh→R Dt:=fun ρ=>zA3 (a ρ) fun x=>zA3 (lo ρ) fun l=>zA3 (hi ρ) fun h=>optR (slD x l h)
noncomputable def posC (c:Nat):List Nat→Option Nat
  | []=>none
  | x :: r=>if x = c then some 0 else (posC c r).map (· + 1)
def findD (x:Dt) (ys:List Dt):Option Dt:=match x,ys with
  | .str z,[.str y]=>match y.cps.toList with
    | [c]=>some (.int (match posC c z.cps.toList with | some i=>(i:Int) | none=>-1))
    | _=>none
  | _,_=>none
def indexD (x:Dt) (ys:List Dt):Option Dt:=match x,ys with
  | .str z,[.str y]=>match y.cps.toList with
    | [c]=>(posC c z.cps.toList).map fun i=>.int (i:Int)
    | _=>none
  | _,_=>none
noncomputable def zYY (x:Dt) (ys:List Dt):Option Dt:=match x,ys with
  | .str z,[.str y]=>match y.cps.toList with
    | [c]=>some (.int (z.cps.toList.count c:Nat))
    | _=>none
  | _,_=>none
noncomputable def strsD:List Dt→Option (List Str)
  | []=>some []
  | .str z :: r=>(strsD r).map (z :: ·)
  | _ :: _=>none
def joinD (x:Dt) (ys:List Dt):Option Dt:=match x,ys with
  | .str z,[.lst ds]=>match strsD ds with
    | some zs=>@ite _ ((zs.map (·.length)).sum + zs.length * z.length≤100000) (qA4 _) (some (.str (Str.join z zs))) none
    | none=>none
  | _,_=>none
noncomputable def zNT:Dt→Bool
  | .str _=>true
  | _=>false
def eMt (f:Dt→List Dt→Option Dt) (a:Rh→R Dt) (am:Rh→R (List Dt)):Rh→R Dt:=fun ρ=>zA3 (a ρ) fun x=>if zNT x = true then zA3 (am ρ) fun xs=>optR (f x xs) else none
noncomputable def signsD (z:Str):List Dt:=z.cps.toList.map fun c=>.str ⟨#[c]⟩
def eC (d:Dt):EM:=fun _=>okR d
def eV (i:Nat):EM:=fun ρ=>match ρ[i]? with
  | some (some d)=>okR d
  | _=>none
def eB (f:Dt→Dt→Option Dt) (a b:EM):EM:=fun ρ=>zA3 (a ρ) fun x=>zA3 (b ρ) fun y=>optR (f x y)
def eU (f:Dt→Option Dt) (a:EM):EM:=fun ρ=>zA3 (a ρ) fun x=>optR (f x)
def eAnd (a b:EM):EM:=fun ρ=>zA3 (a ρ) fun x=>match x with
  | .bl k=>if k = true then b ρ else okR (.bl false)
  | _=>none
def eOr (a b:EM):EM:=fun ρ=>zA3 (a ρ) fun x=>match x with
  | .bl k=>if k = true then okR (.bl true) else b ρ
  | _=>none
def eNot (a:EM):EM:=fun ρ=>zA3 (a ρ) fun x=>match x with
  | .bl k=>okR (.bl (!k))
  | _=>none
def zYO (p q:Dt→Dt→Option Dt) (a b c:EM):EM:=fun ρ=>zA3 (a ρ) fun x=>zA3 (b ρ) fun y=>zA3 (optR (p x y)) fun z=>match z with
  | .bl k=>if k = true then zA3 (c ρ) fun w=>optR (q y w) else okR (.bl false)
  | _=>none
def eIf (c:TM) (a b:EM):EM:=fun ρ=>zA3 (c ρ) fun k=>if k = true then a ρ else b ρ
def aNil:AM:=fun _=>okR []
def aCons (e:EM) (r:AM):AM:=fun ρ=>zA3 (e ρ) fun x=>zA3 (r ρ) fun xs=>okR (x :: xs)
def eLst (a:AM):EM:=fun ρ=>zA3 (a ρ) fun xs=>@ite _ (xs.length≤100000) (qA4 _) (okR (.lst xs)) none
def eTup (a:AM):EM:=fun ρ=>zA3 (a ρ) fun xs=>@ite _ (xs.length≤100000) (qA4 _) (okR (.tup xs)) none
def eCall (f:FM) (a:AM):EM:=fun ρ=>zA3 (a ρ) f
def eBi (f:List Dt→Option Dt) (a:AM):EM:=fun ρ=>zA3 (a ρ) fun xs=>optR (f xs)
def eIsi (n:String) (a:EM):EM:=fun ρ=>zA3 (a ρ) fun x=>optR (isiD n x)
def tB (a:EM):TM:=fun ρ=>zA3 (a ρ) fun x=>match x with
  | .bl k=>okR k
  | _=>none
def tM (a:EM):TM:=fun ρ=>zA3 (a ρ) fun x=>match x with
  | .bl k=>okR k
  | .int i=>okR (i != 0)
  | .non=>okR false
  | _=>none
def tAn (a b:TM):TM:=fun ρ=>zA3 (a ρ) fun k=>if k = true then b ρ else okR false
def tOr (a b:TM):TM:=fun ρ=>zA3 (a ρ) fun k=>if k = true then okR true else b ρ
def tNo (a:TM):TM:=fun ρ=>zA3 (a ρ) fun k=>okR (!k)
def tYes:TM:=fun _=>okR true
abbrev IM:=Rh→R (List Dt)
def iSq (e:EM):IM:=fun ρ=>zA3 (e ρ) fun d=>match d with
  | .lst xs=>okR xs
  | .tup xs=>okR xs
  | .scr ns=>okR (ns.map .int)
  | .str z=>okR (signsD z)
  | _=>none
def iR1 (e:AM):IM:=fun ρ=>zA3 (e ρ) fun vs=>match vs with
  | [.int j]=>@ite _ (-4611686018427387904≤j∧j < 4611686018427387904) (qA4 _) (okR (nums 0 j.toNat)) none
  | _=>none
noncomputable def enumD (n:Nat):List Dt→List Dt
  | []=>[]
  | x :: r=>.tup [.int n,x] :: enumD (n + 1) r
def iEn (e:AM):IM:=fun ρ=>zA3 (e ρ) fun vs=>match vs with
  | [.lst xs]=>okR (enumD 0 xs)
  | _=>none
noncomputable def zipD:List Dt→List Dt→List Dt
  | x :: r,y :: q=>.tup [x,y] :: zipD r q
  | _,_=>[]
def iZi (e:AM):IM:=fun ρ=>zA3 (e ρ) fun vs=>match vs with
  | [.lst xs,.lst ys]=>okR (zipD xs ys)
  | _=>none
inductive Tg where
  | one (i:Nat)
  | tup (is:List Nat)
noncomputable def zAU:Tg→Dt→Option (List (Nat × Dt))
  | .one i,d=>some [(i,d)]
  | .tup is,.tup ds=>if ds.length = is.length then some (is.zip ds) else none
  | .tup _,_=>none
noncomputable def Tg.idx:Tg→List Nat
  | .one i=>[i]
  | .tup is=>is
noncomputable def zAS:Rh→List (Nat × Dt)→Rh
  | ρ,[]=>ρ
  | ρ,(i,d) :: r=>zAS (ρ.set i (some d)) r
noncomputable def zAZ:Ro→List (Nat × Dt)→Ro
  | ρ,[]=>ρ
  | ρ,(i,d) :: r=>zAZ (ρ.set i (some (d,0))) r
def compGo (ρ:Rh) (k:Nat) (tg:Tg) (c:TM) (e:EM):List Dt→List Dt→R (List Dt)
  | [],acc=>okR acc
  | d :: ds,acc=>match zAU tg d with
    | none=>none
    | some bs=>zA3 (c (zAS (ρ ++ qA8 k none) bs)) fun b=>if b = true then zA3 (e (zAS (ρ ++ qA8 k none) bs)) fun x=>compGo ρ k tg c e ds (acc ++ [x]) else compGo ρ k tg c e ds acc
def eComp (it:IM) (k:Nat) (tg:Tg) (c:TM) (e:EM):EM:=fun ρ=>zA3 (it ρ) fun ds=>@ite _ (ds.length≤100000∧(tg.idx.all fun i=>decide (ρ.length≤i)) = true) (qA4 _) (zA3 (compGo ρ k tg c e ds []) fun es=>okR (.lst es)) none
inductive Out where
  | nx (ρ:Ro) | rt (d:Dt) | bk (ρ:Ro) | ct (ρ:Ro)
abbrev SM:=Ro→R Out
noncomputable def full (ρ:Ro):Rh:=ρ.map fun o=>o.map qHs
noncomputable def frz (ρ:Ro):Rh:=ρ.map fun o=>match o with
  | some (d,n)=>if n = 0∨d.dep = 0 then some d else none
  | none=>none
noncomputable def frz1 (i:Nat) (ρ:Ro):Ro:=match ρ[i]? with
  | some (some (d,_))=>ρ.set i (some (d,0))
  | _=>ρ
def frzAt:List Nat→Ro→Ro
  | [],ρ=>ρ
  | i :: r,ρ=>frzAt r (frz1 i ρ)
def sNil:SM:=fun ρ=>okR (.nx ρ)
def sSeq (a b:SM):SM:=fun ρ=>zA3 (a ρ) fun o=>match o with
  | .nx ρ'=>b ρ'
  | o=>okR o
noncomputable def zWV:SM:=fun _=>none
def zWX:SM:=fun ρ=>okR (.bk ρ)
def zZK:SM:=fun ρ=>okR (.ct ρ)
def sIf (c:TM) (a b:SM):SM:=fun ρ=>zA3 (c (full ρ)) fun k=>if k = true then a ρ else b ρ
def zZJ (e:EM):SM:=fun ρ=>zA3 (e (full ρ)) fun _=>okR (.nx ρ)
def sSet (i n:Nat) (vs:List Nat) (e:EM):SM:=fun ρ=>zA3 (e (full ρ)) fun d =>
  if d.dep≤n then okR (.nx (ρ.set i (some (d,n)))) else zA3 (e (frz (frzAt vs ρ))) fun d'=>okR (.nx ((frzAt vs ρ).set i (some (d',n))))
def sUnp (is:List Nat) (vs:List Nat) (e:EM):SM:=fun ρ=>zA3 (e (frz (frzAt vs ρ))) fun d=>match zAU (.tup is) d with
  | none=>none
  | some bs=>okR (.nx (zAZ (frzAt vs ρ) bs))
def sRet (L n:Nat) (vs:List Nat) (e:EM):SM:=fun ρ=>zA3 (e (full ρ)) fun d =>
  if d.dep≤n∧d.dep≤L then okR (.rt d) else if n = L then zA3 (e (frz (frzAt vs ρ))) fun d'=>okR (.rt d') else none
def zZI:SM:=fun _=>okR (.rt .non)
def sRetV (L i:Nat):SM:=fun ρ=>match ρ[i]? with
  | some (some (d,k))=>if k = L∨L = 0∨(d.dep≤k∧d.dep≤L∧k < 1000) then okR (.rt d) else none
  | _=>none
def sApp (i n:Nat) (e:EM):SM:=fun ρ=>match ρ[i]? with
  | some (some (.lst ds,k + 1))=>zA3 (e (full ρ)) fun d=>@ite _ (ds.length≤100000∧d.dep≤n∧d.dep≤k) (qA4 _) (okR (.nx (ρ.set i (some (.lst (ds ++ [d]),k + 1))))) none
  | _=>none
def sItem (i n:Nat) (e1 e2:EM):SM:=fun ρ=>zA3 (e2 (full ρ)) fun d=>match ρ[i]? with
  | some (some (.lst ds,k + 1))=>zA3 (e1 (full ρ)) fun z=>match z with
    | .int z=>match ixA ds.length z with
      | some q=>if d.dep≤n∧d.dep≤k then okR (.nx (ρ.set i (some (.lst (ds.set q d),k + 1)))) else none
      | none=>none
    | _=>none
  | _=>none
def forGo (tg:Tg) (b:SM):List Dt→SM
  | [],ρ=>okR (.nx ρ)
  | d :: ds,ρ=>match zAU tg d with
    | none=>none
    | some bs=>zA3 (b (zAZ ρ bs)) fun o=>match o with
      | .nx ρ'=>forGo tg b ds ρ'
      | .ct ρ'=>forGo tg b ds ρ'
      | .bk ρ'=>okR (.nx ρ')
      | .rt d=>okR (.rt d)
def sFor (vs:List Nat) (it:IM) (tg:Tg) (b:SM):SM:=fun ρ=>zA3 (it (frz (frzAt vs ρ))) fun ds=>forGo tg b ds (frzAt vs ρ)
def sForR (it:IM) (i:Nat) (b:SM):SM:=fun ρ=>zA3 (it (full ρ)) fun ds=>forGo (.one i) b ds ρ
def whGo (c:TM) (b:SM):Nat→SM
  | 0,_=>none
  | m + 1,ρ=>zA3 (c (full ρ)) fun k=>if k = true then zA3 (b ρ) fun o=>match o with
      | .nx ρ'=>whGo c b m ρ'
      | .ct ρ'=>whGo c b m ρ'
      | .bk ρ'=>okR (.nx ρ')
      | .rt d=>okR (.rt d)
    else okR (.nx ρ)
noncomputable def WNs:{ n:Nat // n = 1000000 }:=Classical.choice ⟨⟨1000000,rfl⟩⟩
noncomputable def WN:Nat:=WNs.val
theorem za9:WN = 1000000:=WNs.property
def sWhile (c:TM) (b:SM):SM:=fun ρ=>whGo c b WN ρ
noncomputable def startO (n:Nat) (ds:List Dt):Ro:=ds.map (fun d=>some (d,0)) ++ qA8 (n - ds.length) none
def endF:Out→R Dt
  | .nx _=>okR .non
  | .rt d=>okR d
  | _=>none
def runF (P n:Nat) (b:SM):FM:=fun ds=>if ds.length = P then zA3 (b (startO n ds)) endF else none
end
end Mi
namespace L2
open PySem PySem.Spec PyProof.Rows
section
variable {X:Cx}
end
noncomputable def Its (z:Str):It:=⟨fun i _=>i < z.cps.size,fun i H x H'=>H' = H∧∃ c,z.cps[i]? = some c∧x = .str ⟨#[c]⟩,fun i _=>z.cps.size≤i⟩
theorem zS3 {P:Program} {w:World} {K:qA2} {tg:Expr} (z:Str) (t:Tok) (it:Addr) (ty:String) (hty:ty = strIterType z):Turn P w K tg (Its z) [it] it (fun i h=>h.IsStrIter it ty z t i) where
  mem:=by simp
  obj:=fun i h st b hb=>by
    have e:b = it:=by simpa using hb
    subst e
    obtain ⟨o,e,c,d⟩:=st
    exact ⟨o,e,fun v z=>by rw [d] at z; cases z⟩
  keep:=fun i h h' st k=>by obtain ⟨o,ho,r⟩:=st; exact ⟨o,k it (by simp) o ho,r⟩
  item:=by
    intro X hP hw hK hc i pins s σ H E I hf st hg
    subst hP hw hK
    have hi:i < z.cps.size:=hg
    have hx:z.cps[i]? = some z.cps[i]:=qEh hi
    obtain ⟨f0,f1,f2,f3,f4,f5⟩:=hf it (by simp)
    have fin:∀ h',h'.IsStrIter it ty z t (i + 1)→Heap.SameBut it s.heap h'→∃ u,some (Value.str ⟨#[z.cps[i]]⟩ s.toks) = some u∧wpAny (model X.prog X.w) X.A (letOwnedTupleGo tg (.ref it) u) (fun _ s2=>∃ x H',Inv X pins σ H' s2∧RelV x u∧(Its z).yld i H x H'∧s2.heap.IsStrIter it ty z t (i + 1)∧∀ b∈[it],H' b = none) E { s with heap:=h',toks:=s.toks + 1 }:=by
      intro h' st' sb
      have I1:Inv X pins σ H { s with heap:=h',toks:=s.toks + 1 }:=I.turned (t':=s.toks + 1) (fun b o hb e=>(sb.2 b hb).trans e) f0 f1 f3 f4 f5
      obtain ⟨o,e,c,d⟩:=id st'
      refine ⟨_,rfl,zT0 (s:={ s with heap:=h',toks:=s.toks + 1 }) e c d ?_ ⟨.str ⟨#[z.cps[i]]⟩,H,I1,⟨_,rfl⟩,⟨rfl,_,hx,rfl⟩,st',fun b hb=>(hf b hb).1⟩⟩
      rw [hty]; unfold strIterType; split <;> decide
    cases ha:z.cps.all (· < 128)
    · have e:ty = "str_iterator":=by rw [hty]; unfold strIterType; rw [ha]; rfl
      subst e
      exact wpAny_pyNext_wide_item st hx fun h' a b=>fin h' a b
    · have e:ty = "str_ascii_iterator":=by rw [hty]; unfold strIterType; rw [ha]; rfl
      subst e
      exact wpAny_pyNext_ascii_item st hx fun h' a b=>fin h' a b
  done:=by
    intro X hP hw hK hc i pins s σ H E I hf st hg
    subst hP hw hK
    have hx:z.cps[i]? = none:=Array.getElem?_eq_none hg
    obtain ⟨f0,f1,f2,f3,f4,f5⟩:=hf it (by simp)
    have fin:∀ h',Heap.ExtBut it s.heap h'→(none:Option Value) = none∧Inv X pins σ H { s with heap:=h' }:=fun h' eb=>⟨rfl,I.turned (t':=s.toks) (fun b o hb e=>eb b o hb e) f0 f1 f3 f4 f5⟩
    cases ha:z.cps.all (· < 128)
    · have e:ty = "str_iterator":=by rw [hty]; unfold strIterType; rw [ha]; rfl
      subst e
      exact wpAny_pyNext_wide_end (I.ok.hd hc) st hx fun h' a=>fin h' a
    · have e:ty = "str_ascii_iterator":=by rw [hty]; unfold strIterType; rw [ha]; rfl
      subst e
      exact wpAny_pyNext_ascii_end (I.ok.hd hc) st hx fun h' a=>fin h' a
  self:=fun A i s Q E st h=>by
    cases ha:z.cps.all (· < 128)
    · have e:ty = "str_iterator":=by rw [hty]; unfold strIterType; rw [ha]; rfl
      subst e
      exact wpAny_pyIter_striter_wide st h
    · have e:ty = "str_ascii_iterator":=by rw [hty]; unfold strIterType; rw [ha]; rfl
      subst e
      exact wpAny_pyIter_striter_ascii st h
section
variable {X:Cx}
def iAny (K:qA2) (tl:TE):TI:=fun σ H R=>tl σ H fun x H1=>match x with
  | .ref a=>(∃ xs,SqL K H1 a xs)∧R (Itl K a) H1∨(∃ xs,SqT K H1 a xs)∧R (Itt K a) H1
  | .str z=>R (Its z) H1
  | _=>False
theorem zER {K:qA2} {tg l:Expr} {tl:TE} (hl:PE X l tl) (hK:X.K = K:=by rfl):PI X tg l (iAny K tl):=by
  subst hK
  intro pins s σ H R I h
  refine thn (hl pins s σ H _ I h) fun v s1 z0=>?_
  obtain ⟨x,H1,I1,r1,q1⟩:=z0
  cases x with
  | ref a =>
    cases r1
    rcases q1 with ⟨⟨xs,hq⟩,q⟩ | ⟨⟨xs,hq⟩,q⟩
    · obtain ⟨its,rv,p,hz⟩:=I1.list hq
      refine wpAny_pyIter_list p.isList ?_
      refine ⟨s1.heap.objs.size,[s1.heap.objs.size],_,_,H1,rfl,I1.kept (t':=s1.toks) fun b o e=>Heap.get?_push_of_some _ e,zPE a _,⟨_,Heap.get?_push_size _ rfl,rfl,rfl⟩,fun b hb=>?_,q⟩
      have e:b = s1.heap.objs.size:=by simpa using hb
      subst e
      exact I1.fpOk (qAa _) (I1.hok.fresh (qAa _))
    · obtain ⟨its,rv,p,hz⟩:=I1.tuple hq
      refine wpAny_pyIter_tuple (show s1.heap.IsTuple a its.toArray from p) ?_
      refine ⟨s1.heap.objs.size,[s1.heap.objs.size],_,_,H1,rfl,I1.kept (t':=s1.toks) fun b o e=>Heap.get?_push_of_some _ e,zOG a _,⟨_,Heap.get?_push_size _ rfl,rfl,rfl⟩,fun b hb=>?_,q⟩
      have e:b = s1.heap.objs.size:=by simpa using hb
      subst e
      exact I1.fpOk (qAa _) (I1.hok.fresh (qAa _))
  | str z =>
    obtain ⟨t,rfl⟩:=r1
    refine wpAny_pyIter_strU ?_
    refine ⟨s1.heap.objs.size,[s1.heap.objs.size],_,_,H1,rfl,I1.kept (t':=s1.toks) fun b o e=>Heap.get?_push_of_some _ e,zS3 z t _ _ rfl,⟨_,Heap.get?_push_size _ rfl,rfl,rfl⟩,fun b hb=>?_,q1⟩
    have e:b = s1.heap.objs.size:=by simpa using hb
    subst e
    exact I1.fpOk (qAa _) (I1.hok.fresh (qAa _))
  | _=>exact qA5 q1
def zYL:V→List V→Hp→VK→Prop:=fun x vs H Q=>match x,vs with
  | .str z,[.str y]=>Q (.int (Txt.find z y)) H
  | _,_=>False
theorem zG5:MtR X "str.find" zYL:=by
  intro pins s σ H x vs v us Q I rx rv h
  cases x with
  | str z =>
    cases vs with
    | nil=>exact qA5 h
    | cons y t =>
      cases y with
      | str y =>
        cases t with
        | nil =>
          obtain ⟨t,rfl⟩:=rx
          obtain ⟨u,rfl,ru⟩:=zDF rv
          obtain ⟨t2,rfl⟩:=ru
          exact SC.find ⟨.int _,H,I.tok _,⟨_,rfl⟩,h⟩
        | cons _ _=>exact qA5 h
      | _=>exact qA5 h
  | _=>exact qA5 h
def zTV:V→List V→Hp→VK→Prop:=fun x vs H Q=>match x,vs with
  | .str z,[.str y]=>∃ (i:Nat) (rest:List Nat),Builtin.Str.occurrences z y 0 z.length 1 = i :: rest∧Q (.int i) H
  | _,_=>False
theorem zGP:MtR X "str.index" zTV:=by
  intro pins s σ H x vs v us Q I rx rv h
  cases x with
  | str z =>
    cases vs with
    | nil=>exact qA5 h
    | cons hd1 tl1 =>
      cases hd1 with
      | str y =>
        cases tl1 with
        | nil =>
          obtain ⟨t,rfl⟩:=rx
          obtain ⟨u,rfl,ru⟩:=zDF rv
          obtain ⟨t2,rfl⟩:=ru
          obtain ⟨i,rest,h1,h2⟩:=h
          exact SC.index h1 ⟨.int _,H,I.tok _,⟨_,rfl⟩,h2⟩
        | cons _ _=>exact qA5 h
      | _=>exact qA5 h
  | _=>exact qA5 h
theorem zJY:∀ {ys:List Str} {us:List Value},Vals (ys.map V.str) us→StrsAre us ys
  | [],_,.nil=>.nil
  | y :: ys,_,.cons r t=>by obtain ⟨k,rfl⟩:=r; exact .cons y k (zJY t)
def zY7:V→List V→Hp→VK→Prop:=fun x vs H Q=>match x,vs with
  | .str z,[.ref a]=>∃ ys:List Str,H a = some (.lst (ys.map V.str))∧(ys.map (·.length)).sum + ys.length * z.length≤16777216∧Q (.str (Str.join z ys)) H
  | _,_=>False
theorem zIU:MtR X "str.join" zY7:=by
  intro pins s σ H x vs v us Q I rx rv h
  cases x with
  | str z =>
    cases vs with
    | nil=>exact qA5 h
    | cons hd1 tl1 =>
      cases hd1 with
      | ref a =>
        cases tl1 with
        | nil =>
          obtain ⟨t,rfl⟩:=rx
          obtain ⟨u,rfl,ru⟩:=zDF rv
          cases ru
          obtain ⟨ys,h1,h2,h3⟩:=h
          obtain ⟨its,rv,hl⟩:=zAV I.hok h1
          exact join_list hl (by simpa using zJY rv) h2 fun t' k=>⟨.str (Str.join z ys),H,I.tok _,⟨t',by rw [eq_of_beq (join_closes (ys:=ys) (rfl:z = z))]⟩,h3⟩
        | cons _ _=>exact qA5 h
      | _=>exact qA5 h
  | _=>exact qA5 h
end
theorem zLU (z:Str) (c i:Nat):(i + 1≤z.length∧Builtin.Str.subAt z ⟨#[c]⟩ i = true) ↔ z.cps.toList[i]? = some c:=by
  obtain ⟨⟨xs⟩⟩:=z
  unfold Builtin.Str.subAt
  show (i + 1≤xs.length∧((⟨xs⟩:Array Nat).extract i (i + 1) == #[c]) = true) ↔ xs[i]? = some c
  constructor
  · rintro ⟨h1,h2⟩
    have h3:=congrArg qG0 (eq_of_beq h2)
    simp at h3
    have hlt:i < xs.length:=by omega
    rw [qA3 hlt]
    have h4:(qI0 1 (List.drop i xs)) = [c]:=by
      have:=h3
      simpa [qEi] using this
    rw [qAx hlt,qFj] at h4
    exact congrArg some (List.cons.inj h4).1
  · intro h
    have hlt:i < xs.length:=(qA1.mp h).1
    have he:xs[i] = c:=(qA1.mp h).2
    refine ⟨by omega,?_⟩
    have:(⟨xs⟩:Array Nat).extract i (i + 1) = #[c]:=by
      apply Array.toList_inj.mp
      simp [qEi]
      rw [qAx hlt]
      simp [he]
    rw [this]; simp
theorem zIL (c:Nat):∀ (xs:List Nat),(Mi.posC c xs = none∧∀ i:Nat,xs[i]?≠some c)∨∃ i:Nat,Mi.posC c xs = some i∧xs[i]? = some c∧∀ j:Nat,j < i→xs[j]?≠some c
  | []=>.inl ⟨rfl,fun i=>by simp⟩
  | x :: r=>by
    rw [Mi.posC]
    by_cases h:x = c
    · rw [if_pos h]; exact .inr ⟨0,rfl,by simp [h],fun j hj=>by omega⟩
    · rw [if_neg h]
      rcases zIL c r with ⟨h1,h2⟩ | ⟨i,h1,h2,h3⟩
      · rw [h1]
        refine .inl ⟨rfl,fun i=>?_⟩
        cases i with
        | zero=>simpa using h
        | succ i=>simpa using h2 i
      · rw [h1]
        refine .inr ⟨i + 1,rfl,by simpa using h2,fun j hj=>?_⟩
        cases j with
        | zero=>simpa using h
        | succ j=>simpa using h3 j (by omega)
theorem zKN (z y:Str) (hi:Nat):∀ (l:List Nat) (free:Nat),(∀ i∈l,free≤i)→l.Pairwise (· < ·) →
    ((forIn l ((#[]:Array Nat),free) (StrLaws.occBody z y hi 1)).run.fst.toList = []∧∀ i∈l,¬ (i + y.length≤hi∧Builtin.Str.subAt z y i = true)) ∨
    ∃ i,i∈l∧(forIn l ((#[]:Array Nat),free) (StrLaws.occBody z y hi 1)).run.fst.toList = [i]∧(i + y.length≤hi∧Builtin.Str.subAt z y i = true)∧∀ j∈l,j < i→¬ (j + y.length≤hi∧Builtin.Str.subAt z y j = true)
  | [],free,_,_=>.inl ⟨by simp,fun i h=>by simp at h⟩
  | a :: l,free,hf,hp=>by
    rw [qF5]
    unfold StrLaws.occBody
    have ha:free≤a:=hf a qAz
    have hp':=qBu.mp hp
    by_cases hc:a + y.length≤hi∧Builtin.Str.subAt z y a = true
    · have c1:(((#[]:Array Nat),free).fst.size < 1∧((#[]:Array Nat),free).snd≤a)∧a + y.length≤hi:=⟨⟨by simp,ha⟩,hc.1⟩
      rw [if_pos ⟨c1,hc.2⟩]
      refine .inr ⟨a,qAz,?_,hc,fun j hj hlt=>?_⟩
      · have stay:∀ (l:List Nat) (st:Array Nat × Nat),st.fst.size = 1→(forIn l st (StrLaws.occBody z y hi 1)).run.fst = st.fst:=by
          intro l
          induction l with
          | nil=>intro st _; rfl
          | cons b l ih =>
            intro st hs
            rw [qF5]
            unfold StrLaws.occBody
            rw [if_neg (by rw [hs]; intro h; omega)]
            exact ih (st.fst,st.snd) hs
        have:=stay l (#[a],a + y.length) rfl
        show (forIn l (#[a],a + y.length) (StrLaws.occBody z y hi 1)).run.fst.toList = [a]
        rw [this]
      · rcases qAb.mp hj with rfl | hm
        · omega
        · have:=hp'.1 j hm; omega
    · have c2:¬ (((((#[]:Array Nat),free).fst.size < 1∧((#[]:Array Nat),free).snd≤a)∧a + y.length≤hi)∧Builtin.Str.subAt z y a = true):=fun h=>hc ⟨h.1.2,h.2⟩
      rw [if_neg c2]
      rcases zKN z y hi l free (fun i hi'=>hf i (qAt _ hi')) hp'.2 with ⟨h1,h2⟩ | ⟨i,h1,h2,h3,h4⟩
      · refine .inl ⟨h1,fun i hi'=>?_⟩
        rcases qAb.mp hi' with rfl | hm
        · exact hc
        · exact h2 i hm
      · refine .inr ⟨i,qAt _ h1,h2,h3,fun j hj hlt=>?_⟩
        rcases qAb.mp hj with rfl | hm
        · exact hc
        · exact h4 j hm hlt
theorem zQB (z:Str) (c:Nat):Builtin.Str.occurrences z ⟨#[c]⟩ 0 z.length 1 = (match Mi.posC c z.cps.toList with | some i=>[i] | none=>[]):=by
  rw [StrLaws.occ_eq]
  have hlen:(⟨#[c]⟩:Str).length = 1:=rfl
  have hzl:z.length = z.cps.toList.length:=by simp [Str.length]
  have hm:∀ i,i < z.length→i∈qGj 0 (z.length + 1 - 0):=fun i hi=>by simp [List.mem_range']; omega
  rcases zKN z ⟨#[c]⟩ z.length (qGj 0 (z.length + 1 - 0)) 0 (fun _ _=>qAs _) (List.pairwise_lt_range' (s:=0) (n:=z.length + 1 - 0) (step:=1) (by decide)) with ⟨h1,h2⟩ | ⟨i,h1,h2,h3,h4⟩
  · rw [h1]
    rcases zIL c z.cps.toList with ⟨g1,_⟩ | ⟨j,g1,g2,_⟩
    · rw [g1]
    · exact absurd ((zLU z c j).mpr g2) (h2 j (hm j (by rw [hzl]; exact (qA1.mp g2).1)))
  · rw [h2]
    have hi:=(zLU z c i).mp h3
    rcases zIL c z.cps.toList with ⟨_,g2⟩ | ⟨j,g1,g2,g3⟩
    · exact absurd hi (g2 i)
    · rw [g1]
      have hj:j < z.length:=by rw [hzl]; exact (qA1.mp g2).1
      rcases qFu i j with q | q | q
      · exact absurd hi (g3 i q)
      · rw [q]
      · exact absurd ((zLU z c j).mpr g2) (h4 j (hm j hj) q)
theorem zT2 (z:Str) (c:Nat):Txt.find z ⟨#[c]⟩ = (match Mi.posC c z.cps.toList with | some i=>(i:Int) | none=>-1):=by
  unfold Txt.find
  rw [zQB]
  cases Mi.posC c z.cps.toList <;> rfl
end L2
namespace L2
open PySem PySem.Spec PyProof.Rows
section
variable {X:Cx} {K:qA2}
end
end L2
namespace L2
open PySem PySem.Spec PyProof.Rows
def XO (e:Addr) (C:Value) (d:Option Addr) (h:Heap):Prop:=∃ oe vs,h.get? e = some oe∧oe.cls = C∧oe.dict = d∧oe.data = .fields vs∧1 < vs.size
abbrev xo (e:Addr) (C:Value) (d:Option Addr):HO:=.ext (XO e C d)
def Fl (n:Nat) (e:Addr) (C:Value) (d:Option Addr) (mk:Value) (H:Hp) (h:Heap):Prop :=
  ∃ oe vs T oT ts,h.get? e = some oe∧oe.cls = C∧oe.dict = d∧oe.data = .fields vs∧vs[1]? = some (.ref T)∧n≤T∧T≠e∧H T = none∧h.get? T = some oT∧oT.data = .fields ts∧ts[3]? = some mk
def Fly (n:Nat) (e:Addr) (C:Value) (d:Option Addr) (H:Hp) (h:Heap):Prop :=
  H e = some (xo e C d)∧((∃ oe vs,h.get? e = some oe∧oe.cls = C∧oe.dict = d∧oe.data = .fields vs∧vs[1]? = some .none)∨Fl n e C d .none H h)
def Held (n:Nat) (e:Addr) (C:Value) (d:Option Addr) (L:Addr) (H:Hp) (h:Heap):Prop:=H e = some (xo e C d)∧Fl n e C d (rawInt L) H h
theorem Fly.mono {n n':Nat} {e:Addr} {C:Value} {d:Option Addr} {H:Hp} {h:Heap} (x:Fly n e C d H h) (hn:n'≤n):Fly n' e C d H h:=by
  obtain ⟨a,b | ⟨oe,vs,T,oT,ts,h1,h2,h3,h4,h5,h6,h7⟩⟩:=x
  · exact ⟨a,.inl b⟩
  · exact ⟨a,.inr ⟨oe,vs,T,oT,ts,h1,h2,h3,h4,h5,qAq hn h6,h7⟩⟩
structure Nt (n:Nat) (fs ch:List Addr) (e:Addr) (H:Hp) (h h':Heap):Prop where
  keep:∀ b o,h.get? b = some o→b≠e→b ∉ fs→b ∉ ch→h'.get? b = some o
  slot:∀ b o,h.get? b = some o→b≠e→b ∉ ch→∃ sl,h'.get? b = some { o with slots:=sl }
  there:∀ b o,h.get? b = some o→∃ o',h'.get? b = some o'
  old:∀ b∈ch,n≤b∧H b = none∧∃ o vs,h.get? b = some o∧o.data = .fields vs
section
variable {M:Model} {A:Around} {E:Value→Shared→Prop} {s:Shared} {n:Nat} {e L:Addr} {C:Value} {d:Option Addr} {H:Hp} {base:Heap} {env:Env} {outer:List Env}
theorem zU3 {oe:Obj} {vs:Array Value} {head:Value} {hadNext:Bool} {Q:Unit→Shared→Prop}
    (hfr:A.frames = some (env :: outer)) (hl:s.heap.FunFrames base (env :: outer)) (hf:env.frame = some L)
    (he:s.heap.get? e = some oe) (hc:oe.cls = C) (hdi:oe.dict = d) (hd:oe.data = .fields vs) (hsz:1 < vs.size) (hn:n≤s.heap.objs.size) (hH:∀ b,s.heap.objs.size≤b→H b = none)
    (h:∀ h',(∀ b o,s.heap.get? b = some o→b≠e→b ∉ frs (env :: outer)→h'.get? b = some o)→(∀ b o,s.heap.get? b = some o→b≠e→∃ sl,h'.get? b = some { o with slots:=sl }) →
      (∃ o',h'.get? e = some o')→Fl n e C d (rawInt L) H h'→Q () { s with heap:=h' }) :
    wpAny M A (do let a ← frameOf env; let pl ← entryPlaceOf L hadNext; let b ← EntryCells.newEntry head a .none (rawInt L) .none pl; setField (.ref e) 1 b) Q E s:=by
  have hene:e ∉ (env :: outer).filterMap (·.frame):=fun hm=>by
    obtain ⟨_,o,ho,hnf⟩:=hl.mem hm
    rw [he] at ho; injection ho with ho; subst ho; exact hnf vs hd
  refine wpAny_bind (wpAny_frameOf_fun hfr hl hf fun h₁ hs₁=>?_)
  refine wpAny_bind (wpAny_entryPlaceOf fun pl hpl=>?_)
  unfold EntryCells.newEntry newFields
  refine wpAny_bind (wpAny_newObj_type ?_ (hpl.sizeOk5 _ _ _ _ _))
  have he₁:h₁.get? e = some oe:=(hs₁.2.1 e hene).trans he
  have he₂:=Heap.get?_push_of_some (h:=h₁) { cls:=.type "traceback",dict:=none,data:=.fields ([head,.ref L,.none,rawInt L,.none] ++ (if pl.isEmpty then qA8 6 Value.none else pl)).toArray } he₁
  have hTe:h₁.objs.size≠e:=qBp (Heap.lt_size he₁)
  have hd₃:=Obj.data_mapFields hd (·.setIfInBounds 1 (Value.ref h₁.objs.size))
  have he₃:=Heap.get?_update_self (Obj.mapFields (·.setIfInBounds 1 (Value.ref h₁.objs.size))) he₂ (Obj.isFreed_of_fields hd₃)
  have hT₃:=(Heap.get?_update_other (h₁.push { cls:=.type "traceback",dict:=none,data:=.fields ([head,.ref L,.none,rawInt L,.none] ++ (if pl.isEmpty then qA8 6 Value.none else pl)).toArray })
    (Obj.mapFields (·.setIfInBounds 1 (Value.ref h₁.objs.size))) (qCh hTe)).trans (Heap.get?_push_size h₁ rfl)
  have keep:∀ b o,b≠e→h₁.get? b = some o →
      ((h₁.push { cls:=.type "traceback",dict:=none,data:=.fields ([head,.ref L,.none,rawInt L,.none] ++ (if pl.isEmpty then qA8 6 Value.none else pl)).toArray }).update e (Obj.mapFields (·.setIfInBounds 1 (Value.ref h₁.objs.size)))).get? b = some o :=
    fun b o hbe hb=>by
      rw [Heap.get?_update_other _ _ (qCh hbe)]
      exact Heap.get?_push_of_some _ hb
  have hsz1:h₁.objs.size = s.heap.objs.size:=hs₁.1
  refine wpAny_setField he₂ hd hsz (h _ (fun b o hb hbe hbf=>keep b o hbe ((hs₁.2.1 b hbf).trans hb)) (fun b o hb hbe=>?_) ⟨_,he₃⟩ ?_)
  · obtain ⟨sl,e1⟩:=hs₁.2.2 b o hb
    exact ⟨sl,keep b _ hbe e1⟩
  · have hdo:∀ (o:Obj) f,(Obj.mapFields f o).dict = o.dict:=fun o f=>by unfold Obj.mapFields; split <;> rfl
    exact ⟨_,_,h₁.objs.size,_,_,he₃,(Obj.cls_mapFields _ _).trans hc,(hdo _ _).trans hdi,hd₃,by simp [hsz],by rw [hsz1]; exact hn,hTe,hH _ (by rw [hsz1]; exact qAa _),hT₃,rfl,
      by first | (simp; done) | (rcases hpl with rfl | ⟨_,_,_,_,_,_,_,rfl⟩ <;> simp)⟩
theorem zV2 {Q:Unit→Shared→Prop} (hfr:A.frames = some (env :: outer)) (hl:s.heap.FunFrames base (env :: outer)) (hf:env.frame = some L) (x:Fly n e C d H s.heap) (hn:n≤s.heap.objs.size) (hH:∀ b,s.heap.objs.size≤b→H b = none)
    (h:∀ h' ch,Nt n (frs (env :: outer)) ch e H s.heap h'→Held n e C d L H h'→Q () { s with heap:=h' }):wpAny M A (noteFrame (.ref e) env) Q E s:=by
  obtain ⟨hx,⟨oe,vs,he,hc,hdi,hd,h1⟩ | ⟨oe,vs,T,oT,ts,he,hc,hdi,hd,h1,hnT,hTe,hHT,hT,hdT,h3⟩⟩:=x
  · unfold noteFrame
    simp only [hf]
    refine wpAny_bind (wpAny_field he hd h1 ?_)
    rw [if_neg (by decide)]
    refine zU3 hfr hl hf he hc hdi hd (qBs.mp h1).1 hn hH fun h' k1 k2 k3 k4=>?_
    refine h h' [] ⟨fun b o hb hbe hbf _=>k1 b o hb hbe hbf,fun b o hb hbe _=>k2 b o hb hbe,fun b o hb=>?_,fun b hb=>nomatch hb⟩ ⟨hx,k4⟩
    by_cases z:b = e
    · rw [z]; exact k3
    · obtain ⟨sl,q⟩:=k2 b o hb z; exact ⟨_,q⟩
  · unfold noteFrame
    simp only [hf]
    refine wpAny_bind (wpAny_field he hd h1 ?_)
    rw [if_pos (show (Value.ref T != Value.none) = true from by simp)]
    refine wpAny_bind (wpAny_field hT hdT h3 ?_)
    rw [if_neg (show ¬ ((Value.none == rawInt L) = true) from by simp [rawInt])]
    refine wpAny_bind (wpAny_setField hT hdT (qBs.mp h3).1 ?_)
    have other:∀ b,b≠T→(s.heap.update T (Obj.mapFields (·.setIfInBounds 3 Value.none))).get? b = s.heap.get? b:=fun b hb=>Heap.get?_update_other _ _ (qCh hb)
    have noRecord:∀ b o,s.heap.get? b = some o→(∀ vs,o.data≠.fields vs)→b≠T:=fun b o hb hnf q=>by
      rw [q,hT] at hb; injection hb with hb; subst hb; exact hnf ts hdT
    have hl1:=hl.of_keeps (h':=s.heap.update T (Obj.mapFields (·.setIfInBounds 3 Value.none))) fun b o hb hnf=>⟨o,(other b (noRecord b o hb hnf)).trans hb,rfl⟩
    have hself:=Heap.get?_update_self (Obj.mapFields (·.setIfInBounds 3 Value.none)) hT (Obj.isFreed_of_fields (Obj.data_mapFields hdT _))
    have hsz:(s.heap.update T (Obj.mapFields (·.setIfInBounds 3 Value.none))).objs.size = s.heap.objs.size:=by simp
    refine zU3 (s:={ s with heap:=s.heap.update T (Obj.mapFields (·.setIfInBounds 3 Value.none)) }) hfr hl1 hf ((other e (qCh hTe)).trans he) hc hdi hd (qBs.mp h1).1 (by rw [hsz]; exact hn) (by rw [hsz]; exact hH) fun h' k1 k2 k3 k4=>?_
    have nT:∀ b,b ∉ [T]→b≠T:=fun b hb z=>hb (by simp [z])
    refine h h' [T] ⟨fun b o hb hbe hbf hc=>k1 b o ((other b (nT b hc)).trans hb) hbe hbf,fun b o hb hbe hc=>k2 b o ((other b (nT b hc)).trans hb) hbe,fun b o hb=>?_,fun b hb=>?_⟩ ⟨hx,k4⟩
    · by_cases z:b = e
      · rw [z]; exact k3
      · by_cases z':b = T
        · rw [z']
          obtain ⟨sl,q⟩:=k2 T _ hself hTe
          exact ⟨_,q⟩
        · obtain ⟨sl,q⟩:=k2 b o ((other b z').trans hb) z
          exact ⟨_,q⟩
    · obtain rfl:b = T:=by simpa using hb
      exact ⟨hnT,hHT,oT,ts,hT,hdT⟩
theorem zV9 {Q:Unit→Shared→Prop} {fs:List Addr} {mk:Value} (x:Fl n e C d mk H s.heap)
    (h:∀ h' ch,Nt n fs ch e H s.heap h'→Fl n e C d .none H h'→Q () { s with heap:=h' }):wpAny M A (setFlight (.ref e) none) Q E s:=by
  obtain ⟨oe,vs,T,oT,ts,he,hc,hdi,hd,h1,hnT,hTe,hHT,hT,hdT,h3⟩:=x
  have hsz3:3 < ts.size:=(qBs.mp h3).1
  have other:∀ b,b≠T→(s.heap.update T (Obj.mapFields (·.setIfInBounds 3 ((none:Option Addr).elim Value.none fun f=>rawInt f)))).get? b = s.heap.get? b :=
    fun b hb=>Heap.get?_update_other _ _ (qCh hb)
  have hself:=Heap.get?_update_self (Obj.mapFields (·.setIfInBounds 3 ((none:Option Addr).elim Value.none fun f=>rawInt f))) hT (Obj.isFreed_of_fields (Obj.data_mapFields hdT _))
  have nT:∀ b,b ∉ [T]→b≠T:=fun b hb z=>hb (by simp [z])
  unfold setFlight
  refine wpAny_bind (wpAny_field he hd h1 ?_)
  rw [if_pos (show (Value.ref T != Value.none) = true from by simp)]
  refine wpAny_setField hT hdT hsz3 (h _ [T] ⟨fun b o hb _ _ hc=>(other b (nT b hc)).trans hb,fun b o hb _ hc=>⟨o.slots,(other b (nT b hc)).trans hb⟩,fun b o hb=>?_,fun b hb=>?_⟩ ?_)
  · by_cases z:b = T
    · rw [z]; exact ⟨_,hself⟩
    · exact ⟨o,(other b z).trans hb⟩
  · obtain rfl:b = T:=by simpa using hb
    exact ⟨hnT,hHT,oT,ts,hT,hdT⟩
  · exact ⟨oe,vs,T,_,_,(other e (qCh hTe)).trans he,hc,hdi,hd,h1,hnT,hTe,hHT,hself,Obj.data_mapFields hdT _,by simp [hsz3]⟩
end
section
variable {X:Cx} {pins:List (Addr × Obj)} {σ:St} {H:Hp} {s:Shared} {n:Nat} {e:Addr} {C:Value} {d:Option Addr} {A:Around} {E:Value→Shared→Prop} {fs ch:List Addr} {h h':Heap}
theorem Nt.hok {P:Program} {w:World} (t:Nt n fs ch e H h h') (k:HOk P w H h) (he:H e = some (xo e C d)) (hfs:∀ b∈fs,H b = none) (f:XO e C d h'):HOk P w H h':=fun a o ha=>by
  by_cases z:a = e
  · subst z
    rw [he] at ha
    cases ha
    obtain ⟨oe,vs,h1,r⟩:=id f
    exact ⟨f,⟨oe,h1⟩,(k a _ he).2.2⟩
  · refine (k a o ha).stay (fun b u hb q=>?_) (fun _ q=>q) fun _ _ q=>q
    have hb':H b≠none:=by
      rcases hb with rfl | hb
      · rw [ha]; exact fun z=>by cases z
      · rw [hb]; exact fun z=>by cases z
    have hbe:b≠e:=by
      rcases hb with rfl | hb
      · exact z
      · intro y; rw [y,he] at hb; cases hb
    exact t.keep b u q hbe (fun y=>hb' (hfs b y)) fun y=>hb' (t.old b y).2.1
theorem Fl.xo {mk:Value} (f:Fl n e C d mk H h):XO e C d h:=by
  obtain ⟨oe,vs,T,oT,ts,h1,h2,h3,h4,h5,_⟩:=f
  exact ⟨oe,vs,h1,h2,h3,h4,(qBs.mp h5).1⟩
theorem Nt.un (t:Nt n fs ch e H h h') (he:H e = some (xo e C d)):Un fs ch H H h h' :=
  ⟨fun b o q hn hf hc=>t.keep b o q (fun z=>by rw [z,he] at hn; cases hn) hf hc,fun b o q hn _ hc=>t.slot b o q (fun z=>by rw [z,he] at hn; cases hn) hc,fun _ _ _ hn _=>hn,fun b o q _=>t.there b o q,fun _ _ q=>q,fun _ _ _ q=>q,fun b ps q=>⟨#[],by simpa using q⟩⟩
theorem Inv.noted (I:Inv X pins σ H s) (t:Nt n (frs X.stack) ch e H s.heap h') (he:H e = some (xo e C d)) (f:XO e C d h') (hn:X.s₀.heap.objs.size≤n) (hp:∀ p∈X.pn ++ pins,p.1 < n):Inv X pins σ H { s with heap:=h' }:=by
  refine I.call' rfl (t.un he) (t.hok I.hok he I.stkFree f) I.bare fun b hb=>?_
  obtain ⟨h1,h2,o,vs,h3,h4⟩:=t.old b hb
  refine ⟨.inr (qAq hn h1),?_,?_,fun p hp' z=>?_⟩
  · intro z
    obtain ⟨m,⟨o',es,ep,ho',hd',_⟩,_⟩:=I.loc
    rw [z,ho'] at h3; cases h3; rw [hd'] at h4; cases h4
  · intro x c hx z
    obtain ⟨v,o',ho',hd'⟩:=I.cell x c hx
    rw [← z,ho'] at h3; cases h3; rw [hd'] at h4; cases h4
  · have:=hp p hp'
    rw [z] at this
    exact absurd h1 (Nat.not_le_of_lt this)
theorem zNK {Q:Unit→Shared→Prop} {M:Model} (I:Inv X pins σ H s) (hA:A.frames = some X.stack) (hs:X.stack = X.env :: X.outer∧X.env.frame = some X.env.locals) (x:Fly n e C d H s.heap) (hn:X.s₀.heap.objs.size≤n) (hn':n≤s.heap.objs.size)
    (hp:∀ p∈X.pn ++ pins,p.1 < n) (h:∀ s',Inv X pins σ H s'→Held n e C d X.env.locals H s'.heap→Q () s'):wpAny M A (noteFrame (.ref e) X.env) Q E s:=by
  have hst:=I.stack
  rw [hs.1] at hA hst
  refine zV2 hA hst hs.2 x hn' (fun b hb=>I.hok.fresh hb) fun h' ch t y=>h _ (I.noted (ch:=ch) (by rw [hs.1]; exact t) x.1 y.2.xo hn hp) y
theorem zIW {Q:Unit→Shared→Prop} {M:Model} {mk:Value} (I:Inv X pins σ H s) (hx:H e = some (xo e C d)) (x:Fl n e C d mk H s.heap) (hn:X.s₀.heap.objs.size≤n)
    (hp:∀ p∈X.pn ++ pins,p.1 < n) (h:∀ s',Inv X pins σ H s'→Fl n e C d .none H s'.heap→Q () s'):wpAny M A (setFlight (.ref e) none) Q E s :=
  zV9 (fs:=frs X.stack) x fun h' ch t y=>h _ (I.noted t hx y.xo hn hp) y
theorem zQJ {Q:Unit→Shared→Prop} {M:Model} (I:Inv X pins σ H s) (hA:A.frames = some X.stack) (hs:X.stack = X.env :: X.outer∧X.env.frame = some X.env.locals) (x:Fly n e C d H s.heap) (hn:X.s₀.heap.objs.size≤n) (hn':n≤s.heap.objs.size)
    (hp:∀ p∈X.pn ++ pins,p.1 < n) (h:∀ s',Inv X pins σ H s'→Fly n e C d H s'.heap→Q () s'):wpAny M A (leaving X.env (.ref e)) Q E s:=by
  unfold leaving
  exact wpAny_bind (zNK I hA hs x hn hn' hp fun s1 I1 y=>zIW I1 y.1 y.2 hn hp fun s2 I2 z=>h s2 I2 ⟨y.1,.inr z⟩)
end
def CXe (P:Program) (w:World):CXT:=fun outer H s E x s'=>∃ e C d H',x = .ref e∧s'.os = s.os∧AllBare s'.gens∧Un (frs outer) [] H H' s.heap s'.heap∧HOk P w H' s'.heap∧Fly s.heap.objs.size e C d H' s'.heap∧s.heap.objs.size≤s'.heap.objs.size∧E x d H'
section
variable {X:Cx} {pins:List (Addr × Obj)} {σ:St} {H:Hp} {s s':Shared} {E E':XK}
theorem Inv.pinlt (I:Inv X pins σ H s):∀ p∈X.pn ++ pins,p.1 < s.heap.objs.size:=fun p hp=>Heap.lt_size (I.pin p hp).1
def XP (X:Cx) (pins:List (Addr × Obj)) (σ:St) (E:XK) (x:Value) (s':Shared):Prop:=∃ n e C d H',x = .ref e∧Inv X pins σ H' s'∧Fly n e C d H' s'.heap∧X.s₀.heap.objs.size≤n∧n≤s'.heap.objs.size∧(∀ p∈X.pn ++ pins,p.1 < n)∧E x d H'
theorem Inv.flown {x:Value} (I:Inv X pins σ H s) (h:CXe X.prog X.w X.stack H s E x s'):XP X pins σ E x s':=by
  obtain ⟨e,C,d,H',rfl,ho,hb,u,hk,f,hz,q⟩:=h
  exact ⟨_,e,C,d,H',rfl,I.call' ho u hk hb (fun b z=>absurd z (by simp)),f,I.sz,hz,I.pinlt,q⟩
end
section
variable {P:Program} {w:World} {K:qA2} {mg:Str→Option Value} {base:Heap} {N:List Str} {qual:Str} {scope:Scope} {f:Addr} {cd:Value} {A:Around} {outer:List Env} {s:Shared} {H:Hp} {E E':XK}
theorem zWB {pins:List (Addr × Obj)} {σ:St} {x:Value} {s':Shared} (hE:∀ C d H',E' C d H'→E C d H')
    (h:XP (cxOf (CXe P w) P w K mg base N qual scope f cd A outer s H E) pins σ E' x s'):(cxOf (CXe P w) P w K mg base N qual scope f cd A outer s H E).xe x s':=by
  obtain ⟨n,e,C,d,H',rfl,I,fl,hn,hz,hp,q⟩:=h
  refine zQJ I I.ok.frames ⟨rfl,rfl⟩ fl hn hz hp fun s2 I2 f2=>?_
  exact ⟨e,C,d,H',rfl,I2.os,I2.bare,I2.base,I2.hok,f2.mono hn,I2.sz,hE _ _ _ q⟩
end
end L2
namespace L2
open PySem PySem.Spec PyProof.Rows
abbrev TEX:=St→Hp→VK→XK→Prop
abbrev TSX:=Ends→(St→XK)→St→Hp→Prop
def PEx (X:Cx) (e:Expr) (t:TEX):Prop:=∀ (pins:List (Addr × Obj)) (s:Shared) (σ:St) (H:Hp) (Q:VK) (E:XK),Inv X pins σ H s→t σ H Q E→wpAny (model X.prog X.w) X.A (eval e X.env) (EP X pins σ Q) (XP X pins σ E) s
def PSx (X:Cx) (st:Stmt) (t:TSX):Prop:=∀ (pins:List (Addr × Obj)) (s:Shared) (σ:St) (H:Hp) (D:Ends) (E:St→XK),Inv X pins σ H s→t D E σ H→wpAny (model X.prog X.w) X.A (exec st X.env) (SP X pins D) (fun x s'=>∃ σ',XP X pins σ' (E σ') x s') s
def PSxs (X:Cx) (st:List Stmt) (t:TSX):Prop:=∀ (pins:List (Addr × Obj)) (s:Shared) (σ:St) (H:Hp) (D:Ends) (E:St→XK),Inv X pins σ H s→t D E σ H→wpAny (model X.prog X.w) X.A (execs st X.env) (SP X pins D) (fun x s'=>∃ σ',XP X pins σ' (E σ') x s') s
section
variable {X:Cx} {k:Nat} {f:Addr} {fd:FuncData} {ps:List Str} {sp:Sp} {dvs:List V} {ds:List Value} {x:Str} {p pos:Pos} {e:Expr} {es:List Expr} {t:TA} {te:TE} {tx:TEX} {st:Stmt} {rest:List Stmt} {u u':TSX}
theorem zUN {pins:List (Addr × Obj)} {σ:St} {H:Hp} {s:Shared} {Q:VK} {E:XK} {us:List Value} {vs:List V} (F:FnOk X.prog X.w X.K X.mg X.base (CXe X.prog X.w) k f fd ps sp) (hr:Room k X.A) (hb:Binds X.K fd ps ds) (hd:Vals dvs ds)
    (I:Inv X pins σ H s) (r:Vals vs us) (h:sp (vs ++ dvs) H Q E):wpAny (model X.prog X.w) X.A (call (.ref f) us) (EP X pins σ Q) (XP X pins σ E) s:=by
  have r2:Vals (vs ++ dvs) (us ++ ds):=r.append hd
  have hl:(us ++ ds).length = ps.length:=by rw [← r2.length]; exact F.len _ _ _ _ h
  refine wpAny_call (codeAny_mono (F.run X.A X.stack s H ⟨us,[]⟩ (us ++ ds) (vs ++ dvs) Q E hr I.env0 (hb s us I.kIn hl) r2 h) fun r s' hq=>?_)
  cases r with
  | error e=>exact I.flown hq
  | ok fl =>
    cases fl with
    | ret u=>exact I.after hq
    | next=>exact qA5 hq
    | brk=>exact qA5 hq
    | cont=>exact qA5 hq
theorem PA.nox {es:List Expr} {t:TA} {E:Value→Shared→Prop} {M:Model} (h:PA X.nox es t) (pos:Pos) {pins:List (Addr × Obj)} {s:Shared} {σ:St} {H:Hp} {Q:List V→Hp→Prop} (I:Inv X pins σ H s) (q:t σ H Q) :
    wpAny (model X.prog X.w) X.A (spliced (backTo pos (starEach es X.env))) (AP X pins σ Q) E s :=
  wpAny_mono (h pos pins s σ H Q (I.wish _) q) (fun _ _ ⟨vs,H',I',r,q⟩=>⟨vs,H',I'.unwish,r,q⟩) fun _ _ z=>qA5 z
theorem zSI (F:FnOk X.prog X.w X.K X.mg X.base (CXe X.prog X.w) k f fd ps sp) (hr:Room k X.A) (hg:Gl X x) (hm:X.mg x = some (.ref f)) (hk:qB9 X.K (.ref f) = true) (hb:Binds X.K fd ps ds) (hd:Vals dvs ds)
    (ha:PA X.nox (e :: es) t) (hdb:(x == ("__debug__":Str)) = false:=by decide) (he:starEach (e :: es) X.env = (false,eval e X.env) :: starEach es X.env:=by rfl) (hpl:(backTo pos (starEach es X.env)).any (·.1) = false:=by rfl) :
    PEx X (.Call (.Name x p) (e :: es) [] pos) (fun σ H Q E=>zHD sp dvs E t σ H Q):=by
  intro pins s σ H Q E I h
  refine wpAny_Call_Name_kw (zFI I hg hm ?_ hdb)
  refine qEe (h₀:=X.base) I.ok.mod.kin hk (thn (PA.nox (M:=model X.prog X.w) ha pos I h) fun us s1 ⟨vs,H1,I1,r,q⟩=>⟨I1.kIn,?_⟩) he hpl
  exact zUN F hr hb hd I1 r q
theorem zSF (he:PEx X e tx) (hs:swapsWith e none pos.line X.env = pure false:=by rfl):PSx X (.Expr e pos) (fun D E σ H=>tx σ H (fun _ H1=>D.nx σ H1) (E σ)):=by
  intro pins s σ H D E I h
  exact wpAny_Expr_any (wpAny_mono (he pins s σ H _ _ I h) (fun v s1 ⟨x,H1,I1,r1,q1⟩=>⟨σ,H1,I1,q1⟩) fun x s1 q=>⟨σ,q⟩) I.quiet hs
theorem zSE (h1:PSx X st u):PSxs X [st] u:=by
  intro pins s σ H D E I h
  refine wpAny_execs_cons (thn (h1 pins s σ H D E I h) fun f s1 q=>?_)
  cases f with
  | next=>exact wpAny_execs_nil q
  | ret v=>exact q
  | brk=>exact q
  | cont=>exact q
abbrev Cx.hd (X:Cx) (e:Addr):Cx:={ X with A:=X.A.mark (some (.ref e)),calm:=false,xe:=fun _ _=>False }
theorem Cx.Ok.hd' {X:Cx} {e:Addr} (ok:X.Ok):(X.hd e).Ok :=
  ⟨ok.mod,ok.kind,ok.glob,ok.blt,ok.above,ok.inj,ok.has,ok.cab,fun z=>qGb z,ok.frames,ok.stk,ok.exf,ok.bs,ok.bsz,ok.noex,ok.exfs,ok.funs,ok.frf⟩
variable {pins:List (Addr × Obj)} {σ:St} {H:Hp} {s:Shared} {a:Addr}
theorem Inv.hd (I:Inv X pins σ H s) (a:Addr):Inv (X.hd a) pins σ H s:=⟨I.ok.hd',I.os,I.bare,I.base,I.loc,I.cell,I.free,I.freeC,I.pin,I.hok,I.len⟩
theorem Inv.unhd (ok:X.Ok) (I:Inv (X.hd a) pins σ H s):Inv X pins σ H s:=⟨ok,I.os,I.bare,I.base,I.loc,I.cell,I.free,I.freeC,I.pin,I.hok,I.len⟩
theorem Inv.gone {i:Nat} {x:Str} {h':Heap} {m:Str→Option Value} {v:Option Value} {t':Nat} (I:Inv X pins σ H s) (hN:X.N.Nodup) (hi:X.N[i]? = some x) (hk:X.env.scope.names.lookup x = some .local)
    (hm:∀ (j:Nat) (y:Str) (w:V),X.N[j]? = some y→σ[j]? = some (some w)→Vis X.env.scope y→∃ u,RelV w u∧Look X.env s.heap m y u) (hn:h'.Ns X.env.locals fun y=>if y = x then v else m y) (hs:Heap.SameBut X.env.locals s.heap h'):Inv X pins (σ.set i none) H { s with heap:=h',toks:=t' }:=by
  have hiσ:i < σ.length:=by rw [I.len]; exact (qA1.mp hi).1
  have cne:=I.cne
  have oth:∀ b,b≠X.env.locals→h'.get? b = s.heap.get? b:=fun b hb=>hs.2 b hb
  refine ⟨I.ok,I.os,I.bare,⟨fun b o e n hb hx=>?_,fun b o e n hb hx=>?_,I.base.free,fun b o e hx=>?_,I.base.tups,I.base.frzs,I.base.tbls⟩,⟨_,hn,fun j y w e1 e2 e3=>?_⟩,fun y c e=>?_,I.free,I.freeC,fun p hp=>?_,fun b ob e=>?_,by simp [I.len]⟩
  · exact (oth b (qAk (qAe (Heap.lt_size e) I.ok.above))).trans (I.base.keep b o e n hb hx)
  · obtain ⟨sl,e1⟩:=I.base.slot b o e n hb hx
    exact ⟨sl,(oth b (qAk (qAe (Heap.lt_size e) I.ok.above))).trans e1⟩
  · obtain ⟨o',e1⟩:=I.base.there b o e hx
    exact ⟨o',(oth b (qAk (qAe (Heap.lt_size e) I.ok.above))).trans e1⟩
  · by_cases hj:j = i
    · subst hj
      rw [qAf hiσ] at e2
      cases e2
    · rw [qAh (qCh hj)] at e2
      obtain ⟨u',r',q⟩:=hm j y w e1 e2 e3
      refine ⟨u',r',?_⟩
      have hy:y≠x:=fun e=>hj (zIS hN e1 (e ▸ hi))
      rcases q with ⟨k,e⟩ | ⟨k,c,e,z⟩
      · exact .inl ⟨k,by simp [hy,e]⟩
      · exact .inr ⟨k,c,e,z.sameBut hs (cne y c e)⟩
  · obtain ⟨w',z⟩:=I.cell y c e
    exact ⟨w',z.sameBut hs (cne y c e)⟩
  · obtain ⟨e,n,ne,nf,d⟩:=I.pin p hp
    exact ⟨(oth p.1 ne).trans e,n,ne,nf,d⟩
  · refine (I.hok b ob e).stay (fun c w' hc q=>(oth c ?_).trans q) (fun _ q=>q) fun _ _ q=>q
    rintro rfl
    rcases hc with rfl | hc
    · rw [I.free] at e; cases e
    · rw [I.free] at hc; cases hc
theorem zJ4 {M:Model} {A:Around} {E:Value→Shared→Prop} {Q:Unit→Shared→Prop} {i:Nat} {x:Str} {pos:Pos} (I:Inv X pins σ H s) (hN:X.N.Nodup) (hi:X.N[i]? = some x) (hk:X.env.scope.names.lookup x = some .local)
    (h:∀ s',Inv X pins (σ.set i none) H s'→Q () s'):wpAny M A (do bindName X.env x .none; unbindBehindTheSuite X.env x pos) Q E s:=by
  obtain ⟨m,hn,hl⟩:=id I.loc
  refine wpAny_nameGoes_keeps hk hn (by rw [I.ok.kind]; rfl) fun h' v hn' hs=>h _ (I.gone hN hi hk hl hn' hs)
noncomputable def zSZ (i:Nat) (D:Ends):Ends:={ nx:=fun σ H=>D.nx (σ.set i none) H,rt:=D.rt,bk:=fun σ H=>D.bk (σ.set i none) H,ct:=fun σ H=>D.ct (σ.set i none) H }
def zTE (K:qA2) (c:Value) (i:Nat) (tb:TSX) (ts:TS):TS:=fun D σ H=>tb D (fun σ1 x d H1=>∃ e C,x = .ref e∧H1 e = some (xo e C d)∧qCy K C c = some true∧ts (zSZ i D) (σ1.set i (some (.ref e))) H1) σ H
theorem zSG {body:List Stmt} {tb:TSX} {ts:TS} {c:Value} {cn x:Str} {i:Nat} {b₀:Stmt} {suite:List Stmt} {cp hp':Pos} (hb:PSxs X body tb) (hst:X.stack = X.env :: X.outer∧X.env.frame = some X.env.locals)
    (hc:X.mg cn = some c∨(X.mg cn = none∧bootBuiltins cn = some c∧cn≠"__name__")) (hg:Gl X cn) (hN:X.N.Nodup) (hi:X.N[i]? = some x) (hk:X.env.scope.names.lookup x = some .local) (hsu:∀ e,PSs (X.hd e) (b₀ :: suite) ts) (hdb:(cn == ("__debug__":Str)) = false:=by decide) :
    PS X (.Try body [.ExceptHandler (some (.Name cn cp)) (some x) (b₀ :: suite) hp'] [] [] pos) (zTE X.K c i tb ts):=by
  intro pins s σ H D I h
  refine wpAny_Try_except (wpAny_mono (hb pins s σ H _ _ I h) (fun f s1 q=>?_) fun y s1 z0=>?_)
  · cases f with
    | next=>exact wpAny_execs_nil q
    | ret v=>exact q
    | brk=>exact q
    | cont=>exact q
  · obtain ⟨σ1,n,e,C,d,H1,ey,I1,fl,hn,hn',hp,q0⟩:=z0
    subst ey
    obtain ⟨e',C',ee,hC',hm,q⟩:=q0
    cases ee
    refine zNK I1 I1.ok.frames hst fl hn hn' hp fun s2 I2 hh=>?_
    refine zIW I2 hh.1 hh.2 hn hp fun s3 I3 f3=>?_
    have I3h:=I3.hd e
    have LT:qE8 (model X.prog X.w) s3.heap (typeOf (.ref e)) C':=by
      obtain ⟨oe,vs,he,hcl,_⟩:=(I3.hok e _ hC').1
      subst hcl
      exact (qHw he).andThen .now
    have ex:=PySem.W.exm_one (M:=model X.prog X.w) I3.kIn LT hm
    have load:∀ {Q:Value→Shared→Prop} {E:Value→Shared→Prop},Q c s3→wpAny (model X.prog X.w) (X.A.mark (some (.ref e))) (eval (.Name cn cp) X.env) Q E s3:=fun {Q E} hq=>by
      rcases hc with z | ⟨z,z1,z2⟩
      · exact zFI (X:=X.hd e) I3h hg z hq hdb
      · exact zGS (X:=X.hd e) I3h hg z z1 hq z2 hdb
    refine wpAny_handleBy_cons (codeAny_handlers_test (load (ex.here ?_))) (by intro z; cases z)
    refine codeAny_handlers_suite_as (zIW I3h hh.1 f3 hn hp fun s4 I4 f4=>?_)
    refine zIA (X:=X.hd e) (v:=.ref e) I4 hN hi (.inl hk) rfl (fun s5 I5=>?_) (.inr hk)
    refine wpAny_mono (hsu e pins s5 _ H1 (zSZ i D) I5 q) (fun f s6 q6=>?_) fun _ _ z=>qA5 z
    cases f with
    | next=>obtain ⟨σ',H',I',q'⟩:=q6; exact zJ4 (I'.unhd I1.ok) hN hi hk fun s7 I7=>⟨_,H',I7,q'⟩
    | brk=>obtain ⟨σ',H',I',q'⟩:=q6; exact zJ4 (I'.unhd I1.ok) hN hi hk fun s7 I7=>⟨_,H',I7,q'⟩
    | cont=>obtain ⟨σ',H',I',q'⟩:=q6; exact zJ4 (I'.unhd I1.ok) hN hi hk fun s7 I7=>⟨_,H',I7,q'⟩
    | ret u=>obtain ⟨v,σ',H',I',r,q'⟩:=q6; exact zJ4 (I'.unhd I1.ok) hN hi hk fun s7 I7=>⟨v,_,H',I7,r,q'⟩
end
end L2
namespace PySem.W
open PySem PySem.Calls PyProof.Rows Builtin Builtin.ObjectAttr
noncomputable def excTail:List Value→Bool
  | .ref _ :: r=>excTail r
  | [.type a,.type b,.type c,.type d]=>a == "ValueError" && b == "Exception" && c == "BaseException" && d == "object"
  | _=>false
theorem zMN {a b c d:String} (e:excTail [.type a,.type b,.type c,.type d] = true):a = "ValueError"∧b = "Exception"∧c = "BaseException"∧d = "object":=by
  simp only [excTail,qBb,beq_iff_eq] at e
  exact ⟨e.1.1.1,e.1.1.2,e.1.2,e.2⟩
theorem zF1:∀ {l:List Value},excTail l = true→∃ as:List Addr,l = as.map Value.ref ++ [.type "ValueError",.type "Exception",.type "BaseException",.type "object"]
  | .ref a :: r,e=>by
    obtain ⟨as,rfl⟩:=zF1 (l:=r) e
    exact ⟨a :: as,rfl⟩
  | [.type a,.type b,.type c,.type d],e=>by
    obtain ⟨rfl,rfl,rfl,rfl⟩:=zMN e
    exact ⟨[],rfl⟩
def excOver (K:Frag) (C:Addr):Bool:=(clsIn K C).any fun cd=>excTail cd.mro
section
variable {prog:Program} {w:World} {A:Around} {s:Shared} {K:Frag} {x C:Addr} {R:Result→Shared→Prop}
end
end PySem.W
namespace PySem.Xc
open PySem
section
variable {M:Model} {prog:Program} {w:World} {A:Around} {E:Value→Shared→Prop} {h:Heap} {g:Array GenState} {d:Drawn} {t:Nat} {os:OsState} {R:Result→Shared→Prop}
variable {nm q:Str} {C N:Addr} {bs bm bmB:List Value} {hdct:Bool} {sn:List Str} {sub:List Value} {ab:Bool} {col:Option Bool} {dd:Option Addr} {k0 k1 k2 k3 k5:Option Value} {B newId initId:String}
theorem zI1 (F:ExcBaseFacts B newId initId bmB) (hB:bm.contains (.type B) = true) {rest:List Value} {Q:Unit→Shared→Prop} (hC:h.get? C = some (excClassObj nm q C N bs bm hdct sn sub ab col dd k0 k1 k2 k3 k5 newId))
    (hq:Q () ⟨h,g,d,t,os⟩):wpAny M A (checkBuiltinCall newId ⟨.ref C :: rest,[]⟩) Q E ⟨h,g,d,t,os⟩:=by
  have hcont:(Value.ref C :: bm).contains (.type B) = true:=by rw [qBm,hB,qF6]
  have hstar:=F.noStar
  simp only [checkBuiltinCall,F.newKind,F.newSplit,F.newRow]
  repeat (first | refine wpAny_loadPart_at hC ?_ | (refine wpAny_isSubtype_exc hC ?_; rw [hcont]) | refine wpAny_staticBase_exc hC ?_ | refine wpAny_madeBy_exc hC ?_ | simp only [bne_self_eq_false,qFn,if_false] | wp_step)
  exact hq
theorem zL9 (F:ExcBaseFacts B newId initId bmB) (hB:bm.contains (.type B) = true) (hA:bm.contains (.type "AttributeError") = false) (hN:bm.contains (.type "NameError") = false) {rest:List Value} (hC:h.get? C = some (excClassObj nm q C N bs bm hdct sn sub ab col dd k0 k1 k2 k3 k5 newId))
    (hq:R (.ok (.ret (.ref (h.objs.size + 1)))) ⟨(h.push { cls:=.type "tuple",data:=.seq rest.toArray }).push
      { cls:=.ref C,data:=.fields #[.ref h.objs.size,.none,.none,.none,.bool false,.none] },g,d,t,os⟩) (hrest:rest.length≤sizeLine) :
    codeAny (model prog w) A (.builtin newId ⟨.ref C :: rest,[]⟩) R ⟨h,g,d,t,os⟩:=by
  have hends:=F.ends
  have hcB:(Value.ref C :: bm).contains (.type B) = true:=by rw [qBm,hB,qF6]
  have hcA:(Value.ref C :: bm).contains (.type "AttributeError") = false:=by rw [qBm,hA]; rfl
  have hcN:(Value.ref C :: bm).contains (.type "NameError") = false:=by rw [qBm,hN]; rfl
  refine codeAny_builtinAt F.entry ?_
  unfold Builtin.«BaseException.__new__»
  refine wpAt_bind ?_
  show wpAt _ _ _ (stack >>= _) _ _ _
  refine wpAt_bind (wpAt_stack fun p below=>wpAt_of_wpAny ?_)
  wp_walk
  refine wpAt_of_wpAny ?_
  rw [F.owner]
  repeat (first | with_reducible refine wpAny_madeHere_exc F.canon hC ?_ | with_reducible refine wpAny_loadPart_at hC ?_ | (with_reducible refine wpAny_isSubtype_exc hC ?_; first | rw [hcB] | rw [hcA] | rw [hcN]) | wp_step)
  show R _ _
  rw [Heap.size_push]
  exact hq
theorem zMU (F:ExcBaseFacts B newId initId bmB) (hB:bm.contains (.type B) = true) {e:Addr} {oe:Obj} {rest:List Value} {Q:Unit→Shared→Prop} {newId':String}
    (hC:h.get? C = some (excClassObj nm q C N bs bm hdct sn sub ab col dd k0 k1 k2 k3 k5 newId')) (he:h.get? e = some oe) (hcls:oe.cls = .ref C) (hq:Q () ⟨h,g,d,t,os⟩) :
    wpAny M A (checkBuiltinCall initId ⟨.ref e :: rest,[]⟩) Q E ⟨h,g,d,t,os⟩:=by
  have hcB:(Value.ref C :: bm).contains (.type B) = true:=by rw [qBm,hB,qF6]
  have hshort:=F.noStar
  simp only [checkBuiltinCall,F.initKind,F.initSplit,F.initRow]
  repeat (first | (with_reducible refine wpAny_loadPart_at he ?_; rw [hcls]) | with_reducible refine wpAny_loadPart_at hC ?_ | (with_reducible refine wpAny_isSubtype_exc hC ?_; rw [hcB]) | wp_step)
  refine wpAny_onRaise ?_
  rw [show ∀ (a b:String) (n:Nat),Bind.check ⟨.positional,"*",B,.self,[⟨"args",.varPos,false⟩]⟩ a b n (List.map (fun x=>x.fst) ({ pos:=Value.ref e :: rest }:Args).kw) = pure () from
    fun a b n=>check_star_args _ _ _ _ _ _]
  exact wpAny_pure hq
theorem zGD (F:ExcBaseFacts B newId initId bmB) (hB:bm.contains (.type B) = true) (hA:bm.contains (.type "AttributeError") = false) (hN:bm.contains (.type "NameError") = false) {rest:List Value} {fI:Addr} {oI:Obj} {Q:Fin→Shared→Prop}
    (hC:h.get? C = some (excClassObj nm q C N bs bm hdct sn sub ab col dd k0 k1 k2 k3 k5 newId)) (hi:qE8 (model prog w) h (typeLookup (.ref C) "__init__") (some (.ref fI)))
    (hfI:h.get? fI = some oI) (hfc:oI.cls = .type "function")
    (hq:∀ h' e,Heap.MadeExcOf h h' e (.ref C) rest→h.objs.size≤e →
      wpAny (model prog w) A (call (.ref fI) (.ref e :: rest)) (fun r s'=>r = .none∧Q (.done (.ret (.ref e))) s') E ⟨h',g,d,t,os⟩) (hrest:rest.length≤sizeLine) :
    wpAny (model prog w) A (Builtin.«type.__call__» ⟨.ref C :: rest,[]⟩) Q E ⟨h,g,d,t,os⟩:=by
  repeat (first | with_reducible refine wpAny_loadPart_at hC ?_ | with_reducible refine wpAny_madeBy_exc hC ?_ | wp_step)
  refine codeAny_call_builtin_code (Code.quiet_builtin _ F.quiet) (zI1 F hB hC ?_)
  refine zL9 F hB hA hN hC ?_ hrest
  show wpAny _ _ _ _ _ _
  have hC₁:=Heap.get?_push_of_some { cls:=.ref C,data:=.fields #[.ref h.objs.size,.none,.none,.none,.bool false,.none] }
    (Heap.get?_push_of_some { cls:=.type "tuple",data:=.seq rest.toArray } hC)
  have hfI₁:=Heap.get?_push_of_some { cls:=.ref C,data:=.fields #[.ref h.objs.size,.none,.none,.none,.bool false,.none] }
    (Heap.get?_push_of_some { cls:=.type "tuple",data:=.seq rest.toArray } hfI)
  have hi₁:=hi.keeps (h':=(h.push { cls:=.type "tuple",data:=.seq rest.toArray }).push { cls:=.ref C,data:=.fields #[.ref h.objs.size,.none,.none,.none,.bool false,.none] }) fun b o e=>Heap.get?_push_of_some _ (Heap.get?_push_of_some _ e)
  have hget:((h.push { cls:=.type "tuple",data:=.seq rest.toArray }).push
      { cls:=.ref C,data:=.fields #[.ref h.objs.size,.none,.none,.none,.bool false,.none] }).get? (h.objs.size + 1) = some
      { cls:=.ref C,data:=.fields #[.ref h.objs.size,.none,.none,.none,.bool false,.none] }:=by heap_get
  have hcC:(Value.ref C :: bm).contains (.ref C) = true:=by simp
  unfold isInstance
  repeat (first | with_reducible refine wpAny_loadPart_at hget ?_ | (with_reducible refine wpAny_isSubtype_exc hC₁ ?_; rw [hcC]) | wp_step)
  show wpAny _ _ (typeLookup (.ref C) _) _ _ _
  refine hi₁.here ?_
  refine wpAny_holding (wpAny_bind ?_)
  unfold bindSpecial
  refine wpAny_bind (wpAny_typeOf (T:="function") ⟨_,hfI₁,hfc⟩ ?_)
  rw [if_pos (by decide)]
  refine wpAny_pure (wpAny_bind (wpAny_mono (hq _ (h.objs.size + 1) ⟨fun b o hb=>Heap.get?_push_of_some _ (Heap.get?_push_of_some _ hb),Heap.get?_none_of_le (qBv _),h.objs.size,hget,Heap.get?_none_of_le (qAa _),?_⟩ (qBv _)) (fun r s' hr=>?_) fun _ _ x=>x))
  · exact Heap.get?_push_of_some _ (Heap.get?_push_at rfl rfl)
  · obtain ⟨rfl,hQ⟩:=hr
    wp_walk
    exact hQ
theorem call_initX (F:ExcBaseFacts B newId initId bmB) (hB:bm.contains (.type B) = true) (hA:bm.contains (.type "AttributeError") = false) (hN:bm.contains (.type "NameError") = false) {rest:List Value} {fI:Addr} {oI:Obj} {Q:Value→Shared→Prop}
    (hC:h.get? C = some (excClassObj nm q C N bs bm hdct sn sub ab col dd k0 k1 k2 k3 k5 newId)) (hi:qE8 (model prog w) h (typeLookup (.ref C) "__init__") (some (.ref fI)))
    (hfI:h.get? fI = some oI) (hfc:oI.cls = .type "function")
    (hq:∀ h' e,Heap.MadeExcOf h h' e (.ref C) rest→h.objs.size≤e →
      wpAny (model prog w) (A.under (.builtin "type.__call__" ⟨.ref C :: rest,[]⟩)) (call (.ref fI) (.ref e :: rest)) (fun r s'=>r = .none∧Q (.ref e) s') E ⟨h',g,d,t,os⟩) (hrest:rest.length≤sizeLine) :
    wpAny (model prog w) A (call (.ref C) rest) Q E ⟨h,g,d,t,os⟩:=by
  have f1:=tc_lookup
  have f2:=tc_bind (.ref C)
  have hT:(⟨h,g,d,t,os⟩:Shared).TypeIs (.ref C) "type":=⟨_,hC,rfl⟩
  refine wpAny_call (codeAny_of_tree ?_)
  show wpAny _ _ (callAny (.ref C) _) _ _ _
  repeat (any_goals (first | assumption | with_reducible refine wpAny_loadPart_at hC ?_ | wp_step))
  refine ⟨rfl,?_⟩
  refine codeAny_call_builtin_at (Code.quiet_builtin _ (by decide +kernel)) entry_typeCall (wpAny_check_type_call_sub hC (zGD (hrest:=hrest) F hB hA hN hC hi hfI hfc fun h' e hm hz=>?_))
  exact hq h' e hm hz
theorem zOF (F:ExcBaseFacts B newId initId bmB) (hB:bm.contains (.type B) = true) (hA:bm.contains (.type "AttributeError") = false) (hN:bm.contains (.type "NameError") = false) {rest:List Value} {Q:Fin→Shared→Prop}
    (hC:h.get? C = some (excClassObj nm q C N bs bm hdct sn sub ab col dd k0 k1 k2 k3 k5 newId)) (hi:qE8 (model prog w) h (typeLookup (.ref C) "__init__") (some (.builtin initId)))
    (hq:∀ h' e,Heap.MadeExcOf h h' e (.ref C) rest→h.objs.size≤e→Q (.done (.ret (.ref e))) ⟨h',g,d,t,os⟩) (hrest:rest.length≤sizeLine) :
    wpAny (model prog w) A (Builtin.«type.__call__» ⟨.ref C :: rest,[]⟩) Q E ⟨h,g,d,t,os⟩:=by
  repeat (first | with_reducible refine wpAny_loadPart_at hC ?_ | with_reducible refine wpAny_madeBy_exc hC ?_ | wp_step)
  refine codeAny_call_builtin_code (Code.quiet_builtin _ F.quiet) (zI1 F hB hC ?_)
  refine zL9 F hB hA hN hC ?_ hrest
  show wpAny _ _ _ _ _ _
  have hC₁:=Heap.get?_push_of_some { cls:=.ref C,data:=.fields #[.ref h.objs.size,.none,.none,.none,.bool false,.none] }
    (Heap.get?_push_of_some { cls:=.type "tuple",data:=.seq rest.toArray } hC)
  have hi₁:=hi.keeps (h':=(h.push { cls:=.type "tuple",data:=.seq rest.toArray }).push { cls:=.ref C,data:=.fields #[.ref h.objs.size,.none,.none,.none,.bool false,.none] }) fun b o e=>Heap.get?_push_of_some _ (Heap.get?_push_of_some _ e)
  have hget:((h.push { cls:=.type "tuple",data:=.seq rest.toArray }).push
      { cls:=.ref C,data:=.fields #[.ref h.objs.size,.none,.none,.none,.bool false,.none] }).get? (h.objs.size + 1) = some
      { cls:=.ref C,data:=.fields #[.ref h.objs.size,.none,.none,.none,.bool false,.none] }:=by heap_get
  have hcC:(Value.ref C :: bm).contains (.ref C) = true:=by simp
  unfold isInstance
  repeat (first | with_reducible refine wpAny_loadPart_at hget ?_ | (with_reducible refine wpAny_isSubtype_exc hC₁ ?_; rw [hcC]) | wp_step)
  show wpAny _ _ (typeLookup (.ref C) _) _ _ _
  refine hi₁.here ?_
  refine wpAny_holding (wpAny_bind (wpAny_of_eq (F.init.bind _) ?_))
  refine wpAny_bind (wpAny_call (codeAny_call_builtin F.init.plain F.initEntry (zMU F hB hC₁ hget rfl ?_)))
  wp_walk
  refine hq _ _ ⟨fun b o hb=>?_,Heap.get?_none_of_le (qBv _),h.objs.size + 2,?_,Heap.get?_none_of_le (by omega),?_⟩ (qBv _)
  · rw [Heap.get?_update_other _ _ (qBp (qBc (Heap.lt_size hb)))]
    exact Heap.get?_push_of_some _ (Heap.get?_push_of_some _ (Heap.get?_push_of_some _ hb))
  · rw [Heap.get?_update_self _ (Heap.get?_push_of_some _ hget) rfl]
    simp only [Heap.size_push]
    rfl
  · rw [Heap.get?_update_other _ _ (show h.objs.size + 1≠h.objs.size + 2 by omega)]
    exact Heap.get?_push_at (by simp only [Heap.size_push]) rfl
theorem callX (F:ExcBaseFacts B newId initId bmB) (hB:bm.contains (.type B) = true) (hA:bm.contains (.type "AttributeError") = false) (hN:bm.contains (.type "NameError") = false) {rest:List Value} {Q:Value→Shared→Prop}
    (hC:h.get? C = some (excClassObj nm q C N bs bm hdct sn sub ab col dd k0 k1 k2 k3 k5 newId)) (hi:qE8 (model prog w) h (typeLookup (.ref C) "__init__") (some (.builtin initId)))
    (hq:∀ h' e,Heap.MadeExcOf h h' e (.ref C) rest→h.objs.size≤e→Q (.ref e) ⟨h',g,d,t,os⟩) (hrest:rest.length≤sizeLine) :
    wpAny (model prog w) A (call (.ref C) rest) Q E ⟨h,g,d,t,os⟩:=by
  have f1:=tc_lookup
  have f2:=tc_bind (.ref C)
  have hT:(⟨h,g,d,t,os⟩:Shared).TypeIs (.ref C) "type":=⟨_,hC,rfl⟩
  refine wpAny_call (codeAny_of_tree ?_)
  show wpAny _ _ (callAny (.ref C) _) _ _ _
  repeat (any_goals (first | assumption | with_reducible refine wpAny_loadPart_at hC ?_ | wp_step))
  refine ⟨rfl,?_⟩
  refine codeAny_call_builtin_at (Code.quiet_builtin _ (by decide +kernel)) entry_typeCall (wpAny_check_type_call_sub hC (zOF (hrest:=hrest) F hB hA hN hC hi fun h' e hm hz=>?_))
  exact hq h' e hm hz
end
end PySem.Xc
namespace PySem.W
open PySem
def xcIn (K:Frag) (C:Addr):Bool:=match K.lookup C with
  | some ⟨.type "type",_,.cls cd,sl⟩=>(match cd.mro,sl.toList with
    | .ref C' :: bm,[_,_,_,_,some (.builtin n),_]=>C' == C && !cd.hasDel && excTail bm && n == "ValueError.__new__" && cd.hasDict
    | _,_=>false)
  | _=>false
theorem xc_cls {K:Frag} {h:Heap} {C:Addr} (X:K.In h) (q:xcIn K C = true):∃ nm qn N bs bm hdct sn sub ab col dd k0 k1 k2 k3 k5,
    h.get? C = some (excClassObj nm qn C N bs bm hdct sn sub ab col dd k0 k1 k2 k3 k5 "ValueError.__new__")∧excTail bm = true:=by
  unfold xcIn at q
  split at q
  · rename_i dd cd sl ho
    split at q
    · rename_i C' bm k0 k1 k2 k3 n k5 hm hs
      simp only [qBb,beq_iff_eq,Bool.not_eq_true'] at q
      obtain ⟨⟨⟨⟨rfl,hdel⟩,hb⟩,hn⟩,hd⟩:=q
      subst hn
      obtain ⟨nm,bs,mro,ns,qn,hd',sn,sub,ab,col,del⟩:=cd
      dsimp only at hm hdel
      subst hm hdel
      have hsl:sl = #[k0,k1,k2,k3,some (.builtin "ValueError.__new__"),k5]:=by
        obtain ⟨l⟩:=sl
        simp only at hs
        rw [hs]
      subst hsl
      exact ⟨nm,qn,ns,bs,bm,hd',sn,sub,ab,col,dd,k0,k1,k2,k3,k5,X _ _ ho,hb⟩
    · cases q
  · cases q
theorem exc_con {l:List Value} {T:String} {b:Bool} (e:excTail l = true) (hb:List.contains [Value.type "ValueError",.type "Exception",.type "BaseException",.type "object"] (.type T) = b):l.contains (.type T) = b:=by
  obtain ⟨as,rfl⟩:=zF1 e
  clear e
  induction as with
  | nil=>exact hb
  | cons a r ih=>rw [qAi,qGc,qBm,ih]; rfl
end PySem.W
namespace PySem.Xc
open PySem
section
variable {M:Model} {A:Around} {E:Value→Shared→Prop} {s:Shared} {env:Env}
variable {nm q:Str} {C N:Addr} {bs bm:List Value} {hdct:Bool} {sn:List Str} {sub:List Value} {ab:Bool} {col:Option Bool} {dd:Option Addr} {k0 k1 k2 k3 k5:Option Value} {newId:String}
theorem raiseX {x:Sem Value} {Q:Flow→Shared→Prop} (hh:A.handled = none)
    (h:wpAny M A x (fun v s₁=>∃ e t di nm q C N bs bm hdct sn sub ab col dd k0 k1 k2 k3 k5 newId,v = .ref e∧s₁.heap.get? C = some (excClassObj nm q C N bs bm hdct sn sub ab col dd k0 k1 k2 k3 k5 newId)∧bm.contains (.type "BaseException") = true ∧
      s₁.heap.get? e = some { cls:=.ref C,dict:=di,data:=.fields #[.ref t,.none,.none,.none,.bool false,.none] }∧E (.ref e) s₁) E s) :
    wpAny M A (raiseStmt env (some x) none) Q E s:=by
  unfold raiseStmt
  refine wpAny_bind (wpAny_mono h (fun v s₁ h₁=>?_) fun _ _ x=>x)
  obtain ⟨e,t,di,nm,q,C,N,bs,bm,hdct,sn,sub,ab,col,dd,k0,k1,k2,k3,k5,newId,rfl,hC,hbase,he,hE⟩:=h₁
  have hcB:(Value.ref C :: bm).contains (.type "BaseException") = true:=by rw [qBm,hbase,qF6]
  obtain ⟨hp,g,d,tk,os⟩:=s₁
  repeat (first | with_reducible refine wpAny_loadPart_at he ?_ | with_reducible refine wpAny_loadPart_at hC ?_ | (with_reducible refine wpAny_isSubtype_exc hC ?_; rw [hcB]) | wp_step)
  exact wpAny_raiseNew_none hh hE
theorem RaiseX {x:Expr} {pos:Pos} {Q:Flow→Shared→Prop} (hh:A.handled = none)
    (h:wpAny M A (eval x env) (fun v s₁=>∃ e t di nm q C N bs bm hdct sn sub ab col dd k0 k1 k2 k3 k5 newId,v = .ref e∧s₁.heap.get? C = some (excClassObj nm q C N bs bm hdct sn sub ab col dd k0 k1 k2 k3 k5 newId)∧bm.contains (.type "BaseException") = true ∧
      s₁.heap.get? e = some { cls:=.ref C,dict:=di,data:=.fields #[.ref t,.none,.none,.none,.bool false,.none] }∧E (.ref e) s₁) E s) :
    wpAny M A (exec (.Raise (some x) none pos) env) Q E s:=by
  rw [arm_exec_Raise]
  first
    | exact wpAny_bind (wpAny_standAt (raiseX hh (wpAny_bind (wpAny_mono h (fun v s₁ h₁=>wpAny_bind (wpAny_standAt (wpAny_pure h₁))) fun _ _ x=>x))))
    | (simp only [evalOpt,qHt]; exact wpAny_bind (wpAny_standAt (raiseX hh (wpAny_bind (wpAny_mono h (fun v s₁ h₁=>wpAny_bind (wpAny_standAt (wpAny_pure h₁))) fun _ _ x=>x)))))
    | (show wpAny M A (do standAt pos; raiseStmt env (some (do let v ← eval x env; standAt pos; pure v)) none) Q E s; exact wpAny_bind (wpAny_standAt (raiseX hh (wpAny_bind (wpAny_mono h (fun v s₁ h₁=>wpAny_bind (wpAny_standAt (wpAny_pure h₁))) fun _ _ x=>x)))))
end
section
open PySem.W
variable {prog:Program} {w:World} {A:Around} {E:Value→Shared→Prop} {K:Frag} {x C:Addr} {ox:Obj} {od:Option Obj} {name:Str} {expr fill:Bool} {h:Heap} {g:Array GenState} {d:Drawn} {t:Nat} {os:OsState}
theorem zRN {M:Model} {nameV:Value} {Q:Unit→Shared→Prop} (X:K.In h) (hc:xcIn K C = true) (I:InstAt h x ox C od) (hq:Q () ⟨h,g,d,t,os⟩):wpAny M A (checkBuiltinCall "BaseException.__getattribute__" ⟨[.ref x,nameV],[]⟩) Q E ⟨h,g,d,t,os⟩:=by
  obtain ⟨nm,qn,N,bs,bm,hdct,sn,sub,ab,col,dd,k0,k1,k2,k3,k5,hC,ht⟩:=xc_cls X hc
  have hk:builtinKind "BaseException.__getattribute__" = some .slot:=by decide +kernel
  have hsplit:splitId "BaseException.__getattribute__" = some ("BaseException","__getattribute__"):=by decide +kernel
  have hcB:(Value.ref C :: bm).contains (.type "BaseException") = true:=by rw [qBm,exc_con ht (T:="BaseException") (b:=true) (by decide)]; rfl
  have ha:=F.args_bexc_ga (.ref x) nameV
  simp only [checkBuiltinCall,hk,hsplit]
  refine wpAny_bind ?_
  · unfold isInstance
    have hx:=I.at_
    have hcl:=I.cls
    repeat (first | (with_reducible refine wpAny_loadPart_at hx ?_; rw [hcl]) | (with_reducible refine wpAny_isSubtype_exc hC ?_; rw [hcB]) | wp_step)
    exact hq
end
end PySem.Xc
namespace L2
open PySem PySem.Spec PyProof.Rows
def XN (e:Addr) (C:Value) (d:Option Addr) (h:Heap):Prop:=∃ t1,h.get? e = some { cls:=C,dict:=d,data:=.fields #[.ref t1,.none,.none,.none,.bool false,.none] }
abbrev xn (e:Addr) (C:Value) (d:Option Addr):HO:=.ext (XN e C d)
theorem zUB {e:Addr} {C:Value} {d:Option Addr} (h1 h2:Heap) (x:XN e C d h1) (k:∀ o,h1.get? e = some o→h2.get? e = some o):XN e C d h2:=let ⟨t1,a⟩:=x; ⟨t1,k _ a⟩
theorem zUA {e:Addr} {C:Value} {d:Option Addr} (h1 h2:Heap) (x:XO e C d h1) (k:∀ o,h1.get? e = some o→h2.get? e = some o):XO e C d h2:=let ⟨oe,vs,a,r⟩:=x; ⟨oe,vs,k _ a,r⟩
theorem zZW {P:Program} {w:World} {H:Hp} {h:Heap} {e:Addr} {C:Value} {d:Option Addr} (x:XN e C d h):ObjOk P w H h e (xn e C d):=⟨x,let ⟨t1,a⟩:=x; ⟨_,a⟩,zUB⟩
theorem zZV {P:Program} {w:World} {H:Hp} {h:Heap} {e:Addr} {C:Value} {d:Option Addr} (x:XO e C d h):ObjOk P w H h e (xo e C d):=⟨x,let ⟨oe,vs,a,_⟩:=x; ⟨_,a⟩,zUA⟩
section
variable {X:Cx} {pins:List (Addr × Obj)} {σ:St} {H:Hp} {s:Shared} {k:Nat} {f C:Addr} {fd:FuncData} {ps:List Str} {sp:Sp} {x:Str} {p pos:Pos} {e:Expr} {es:List Expr} {t:TA} {te:TE}
def zI9 (C:Addr) (t:TA):TE:=fun σ H Q=>t σ H fun vs H1=>vs.length≤sizeLine∧∀ e,H1 e = none→Q (.ref e) (upd H1 e (xn e (.ref C) none))
theorem Inv.madeX {h':Heap} {e:Addr} {us:List Value} (I:Inv X pins σ H s) (m:Heap.MadeExcOf s.heap h' e (.ref C) us) (hs:s.heap.objs.size≤e):H e = none∧Inv X pins σ (upd H e (xn e (.ref C) none)) { s with heap:=h' }:=by
  obtain ⟨t1,h1,_⟩:=m.there
  exact ⟨I.hok.fresh hs,I.laid (t':=s.toks) m.keeps hs (zZW ⟨t1,h1⟩)⟩
theorem zOM {Q:VK} {us:List Value} {vs:List V} (hc:PySem.W.xcIn X.K C = true) (hi:qAm X.K (.ref C) "__init__" = some (some (.builtin "ValueError.__init__")))
    (I:Inv X pins σ H s) (r:Vals vs us) (hz:vs.length≤sizeLine) (h:∀ e,H e = none→Q (.ref e) (upd H e (xn e (.ref C) none))):wpAny (model X.prog X.w) X.A (call (.ref C) us) (EP X pins σ Q) X.xe s:=by
  obtain ⟨nm,qn,N,bs,bm,hdct,sn,sub,ab,col,dd,k0,k1,k2,k3,k5,hC,ht⟩:=PySem.W.xc_cls I.kIn hc
  have hus:us.length≤sizeLine:=by rw [← r.length]; exact hz
  have key:∀ h' e,Heap.MadeExcOf s.heap h' e (.ref C) us→s.heap.objs.size≤e→EP X pins σ Q (.ref e) { s with heap:=h' }:=by
    intro h' e m hs
    obtain ⟨he,I2⟩:=I.madeX m hs
    exact ⟨.ref e,_,I2,rfl,h e he⟩
  have hK:=PySem.W.looks_findIn (M:=model X.prog X.w) I.kIn hi
  obtain ⟨hh,g,d,tk,os⟩:=s
  exact Xc.callX PySem.F.excBase_ValueError (PySem.W.exc_con ht (by decide)) (PySem.W.exc_con ht (by decide)) (PySem.W.exc_con ht (by decide)) hC hK key hus
theorem zQ1 (hc:PySem.W.xcIn X.K C = true) (hi:qAm X.K (.ref C) "__init__" = some (some (.builtin "ValueError.__init__"))) (hg:Gl X x) (hm:X.mg x = some (.ref C)) (hk:qB9 X.K (.ref C) = true)
    (ha:PA X (e :: es) t) (hdb:(x == ("__debug__":Str)) = false:=by decide) (he:starEach (e :: es) X.env = (false,eval e X.env) :: starEach es X.env:=by rfl) (hpl:(backTo pos (starEach es X.env)).any (·.1) = false:=by rfl) :
    PE X (.Call (.Name x p) (e :: es) [] pos) (zI9 C t):=by
  intro pins s σ H Q I h
  refine wpAny_Call_Name_kw (zFI I hg hm ?_ hdb)
  refine qEe (h₀:=X.base) I.ok.mod.kin hk (thn (ha pos pins s σ H _ I h) fun us s1 ⟨vs,H1,I1,r,z,q⟩=>⟨I1.kIn,?_⟩) he hpl
  exact zOM hc hi I1 r z q
theorem Inv.xn {e:Addr} {d:Option Addr} {Cv:Value} (I:Inv X pins σ H s) (h:H e = some (xn e Cv d)):XN e Cv d s.heap:=(I.hok e _ h).1
theorem XN.xo {h:Heap} {e:Addr} {d:Option Addr} {Cv:Value} (x:XN e Cv d h):XO e Cv d h:=let ⟨t1,a⟩:=x; ⟨_,_,a,rfl,rfl,rfl,by simp⟩
theorem Inv.raised {e:Addr} {d:Option Addr} (I:Inv X pins σ H s) (h:H e = some (L2.xn e (.ref C) d)) (E:XK) (q:E (.ref e) d (upd H e (xo e (.ref C) d))):XP X pins σ E (.ref e) s:=by
  have x:=I.xn h
  obtain ⟨t1,a⟩:=id x
  have I':Inv X pins σ (upd H e (xo e (.ref C) d)) s:=I.write (t':=s.toks) (h':=s.heap) (e:=e) (by rw [h]; trivial) (.inl rfl) (fun _ _ _ q=>q) ⟨_,a⟩ (zZV x.xo)
  exact ⟨s.heap.objs.size,e,.ref C,d,_,rfl,I',⟨zAH,.inl ⟨_,_,a,rfl,rfl,rfl,rfl⟩⟩,I.sz,qAa _,I.pinlt,q⟩
def Flies (X:Cx) (E:XK):Prop:=∀ (pins:List (Addr × Obj)) (σ:St) (x:Value) (s':Shared),XP X pins σ E x s'→X.xe x s'
theorem Flies.passes {E:XK} (h:Flies X E):zOC (CXe X.prog X.w) X E:=fun pins σ H s x s' I q=>h pins σ x s' (I.flown q)
def zTF (K:qA2) (E:XK) (te:TE):TS:=fun _ σ H=>te σ H fun v H1=>∃ e C d,v = .ref e∧H1 e = some (L2.xn e (.ref C) d)∧PySem.W.xcIn K C = true∧E (.ref e) d (upd H1 e (xo e (.ref C) d))
theorem zSH {E:XK} (he:PE X e te) (hf:Flies X E) (hc:X.calm = true):PS X (.Raise (some e) none pos) (zTF X.K E te):=by
  intro pins s σ H D I h
  refine Xc.RaiseX (I.ok.hd hc) (thn (he pins s σ H _ I h) fun v s1 z0=>?_)
  obtain ⟨y,H1,I1,ry,a,C,d,ey,ha,hx,q⟩:=z0
  subst ey
  cases ry
  obtain ⟨t1,hg⟩:=I1.xn ha
  obtain ⟨nm,qn,N,bs,bm,hdct,sn,sub,ab,col,dd,k0,k1,k2,k3,k5,hC,ht⟩:=PySem.W.xc_cls I1.kIn hx
  exact ⟨a,t1,d,nm,qn,C,N,bs,bm,hdct,sn,sub,ab,col,dd,k0,k1,k2,k3,k5,_,rfl,hC,PySem.W.exc_con ht (by decide),hg,hf pins σ _ _ (I1.raised ha E q)⟩
structure XBase (K:qA2) (B:Addr):Prop where
  ga:qCu K (.ref B) "__getattribute__" = some (some (.builtin "type.__getattribute__"))
  rd:PySem.W.readsIn K B (.type "type") = true
  fd:PySem.W.findCls K (.ref B) (.type "type") "__init__" = some (.val (.builtin "ValueError.__init__"))
  hi:qG6 (.builtin "ValueError.__init__") = true
structure XSet (K:qA2) (C:Addr) (f:Str):Prop where
  st:qAm K (.ref C) "__setattr__" = some (some (.builtin "object.__setattr__"))
  ov:PySem.W.excOver K C = true
  tk:PySem.W.takerIn K C f = some none
  hd:(qC1 K C).any (·.hasDict) = true
end
end L2
namespace PySem.Xc
open PySem PySem.W
section
variable {prog:Program} {w:World} {A:Around} {E:Value→Shared→Prop} {K:Frag} {x C:Addr} {ox:Obj} {od:Option Obj} {name:Str} {expr fill:Bool} {h:Heap} {g:Array GenState} {d:Drawn} {t:Nat} {os:OsState}
theorem zP4 {Q:Option Value→Shared→Prop} (X:K.In h) (I:InstAt h x ox C od) (hc:xcIn K C = true) (hga:findIn K (.ref C) "__getattribute__" = some (some (.builtin "BaseException.__getattribute__"))) (hgg:findIn K (.ref C) "__getattr__" = some none)
    (hf:findObj K C od "__class__" = some (.bind (.builtin "getset_descriptor.__get__") (.builtin "object.__class__"))) (hm:mroIn K C (.type "object") = some true) (hq:Q (some (.ref C)) ⟨h,g,d,t + 1,os⟩):wpAny (model prog w) A (getAttr? (.ref x) "__class__") Q E ⟨h,g,d,t,os⟩:=by
  have f3:=F.excAttr_ValueError.ga.bind (.ref x)
  have hx2:(Value.builtin "BaseException.__getattribute__" == Value.builtin "object.__getattribute__") = false:=by decide +kernel
  have hx1:(onTheHeap (Value.ref C) && Value.builtin "BaseException.__getattribute__" == Value.builtin "object.__getattribute__") = false:=by rw [hx2]; rfl
  have L0:=I.type (M:=model prog w)
  have L1:=looks_findIn (M:=model prog w) X hga
  have L2:=looks_findIn (M:=model prog w) X hgg
  have hx:=I.at_
  have hcl:=I.cls
  unfold getAttr?
  repeat (any_goals (first | assumption | (with_reducible refine wpAny_loadPart_at hx ?_; rw [hcl]) | with_reducible refine L1.at ?_ | with_reducible refine L2.at ?_ | wp_step))
  refine codeAny_call_builtin F.excAttr_ValueError.ga.plain F.entry_bexc_ga (zRN (h:=h) X hc I ?_)
  have L3:=looks_find (M:=model prog w) X I hf
  unfold Builtin.«object.__getattribute__»
  refine wpAny_bind (wpAny_pure (wpAny_bind (wpAny_pure (wpAny_bind (L0.at (wpAny_bind (L3.at ?_)))))))
  show wpAny _ _ (Builtin.ObjectAttr.bindTo (.builtin "getset_descriptor.__get__") (.builtin "object.__class__") (.ref x) (.ref C)) _ _ _
  unfold Builtin.ObjectAttr.bindTo
  refine wpAny_bind (wpAny_holding (wpAny_call (class_get (s:=⟨h,g,d,t + 1,os⟩) (ox:=ox) (od:=od) X I hm ?_)))
  exact wpAny_pure (handed_on rfl (wpAny_pure hq))
theorem zJ8 {a g:Value} (hc:(clsIn K C).isSome = true) (ha:findIn K (.ref C) name = some (some a)) (hg:specialIn K a "__get__" = some (some g)) (ht:takesIn K a = some true):findObj K C od name = some (.bind g a):=by
  obtain ⟨cd,hc⟩:=qD4.mp hc
  unfold findObj
  rw [hc,qEx,ha,qEx]
  simp only [hg,qEx,ht]
end
structure XIs (K:Frag) (C:Addr):Prop where
  xc:xcIn K C = true
  ga:findIn K (.ref C) "__getattribute__" = some (some (.builtin "BaseException.__getattribute__"))
  gg:findIn K (.ref C) "__getattr__" = some none
  hd:hasDictIn K C = true
  ca:findIn K (.ref C) "__class__" = some (some (.builtin "object.__class__"))
  cg:specialIn K (.builtin "object.__class__") "__get__" = some (some (.builtin "getset_descriptor.__get__"))
  ct:takesIn K (.builtin "object.__class__") = some true
  mo:mroIn K C (.type "object") = some true
theorem kitx_exc {K:Frag} {x C:Addr} (c:XIs K C):KitX K (.ref x) (.ref C) (fun h=>∃ ox od,InstAt h x ox C od) where
  ty:=fun _ _ _ ⟨_,_,I⟩=>I.type
  it:=fun _ _ X _=>by
    obtain ⟨cdD,hcD,_⟩:=any_some c.hd
    unfold clsIn at hcD
    split at hcD
    · rename_i c' d' cd' sl' ho
      intro A' Q' E' s' k q
      unfold isType loadHead
      exact wpAny_bind (wpAny_loadPart (k _ _ (X _ _ ho)) (wpAny_pure q))
    · cases hcD
  ne:=fun h tp dd its n sl X htp=>by
    obtain ⟨cdD,hcD,_⟩:=any_some c.hd
    refine Bool.eq_false_iff.mpr fun q=>?_
    have e:C = tp:=Value.ref.inj (beq_iff_eq.mp q)
    subst e
    unfold clsIn at hcD
    split at hcD
    · rename_i c' d' cd' sl' ho
      have z:=(X _ _ ho).symm.trans htp
      cases z
    · cases hcD
  ca:=fun {_ _ _ _ _ s} X ⟨_,_,I⟩ k=>by
    obtain ⟨cd,hc,_⟩:=any_some c.hd
    obtain ⟨h,g,d,t,os⟩:=s
    exact zP4 X I c.xc c.ga c.gg (zJ8 (by rw [hc]; rfl) c.ca c.cg c.ct) c.mo k
end PySem.Xc
namespace L2
open PySem PySem.Spec PyProof.Rows
section
variable {X:Cx} {pins:List (Addr × Obj)} {σ:St} {H:Hp} {s:Shared} {C e d:Addr} {f:Str} {pos:Pos} {ta:TE}
def isX (H:Hp) (e C:Addr) (d:Option Addr):Prop:=H e = some (xn e (.ref C) d)∨H e = some (xo e (.ref C) d)
theorem Inv.isX {d:Option Addr} (I:Inv X pins σ H s) (h:L2.isX H e C d):XO e (.ref C) d s.heap:=by
  rcases h with h | h
  · exact (I.xn h).xo
  · exact (I.hok e _ h).1
theorem Inv.instX0 {d:Option Addr} (I:Inv X pins σ H s) (h:L2.isX H e C d) (hd:∀ a,d = some a→∃ fs,H a = some (.xd fs)):∃ ox od,qGy s.heap e ox C od:=by
  obtain ⟨oe,vs,h1,h2,h3,h4,_⟩:=I.isX h
  have nc:qGz oe = true:=by unfold qGz; rw [h4]
  cases d with
  | none=>exact ⟨oe,none,h1,h2,nc,by rw [h3]; trivial⟩
  | some a =>
    obtain ⟨fs,ha⟩:=hd a rfl
    obtain ⟨mA,hn,_⟩:=I.hok a _ ha
    obtain ⟨od,ho,_⟩:=zKU hn
    exact ⟨oe,some od,h1,h2,nc,by rw [h3]; exact ho⟩
noncomputable def clsV:List V→Option (List Value)
  | []=>some []
  | .ref a :: r=>(clsV r).map (Value.ref a :: ·)
  | .ty n :: r=>(clsV r).map (Value.type n :: ·)
  | _ :: _=>none
theorem zMT:∀ {xs:List V} {its us:List Value},clsV xs = some its→Vals xs us→us = its
  | [],_,_,h,.nil=>by cases h; rfl
  | .ref a :: r,its,_,h,.cons q t=>by
    obtain ⟨l,hl,rfl⟩:=qDl.mp (show (clsV r).map (Value.ref a :: ·) = some its from h)
    rw [zMT hl t]
    cases q
    rfl
  | .ty n :: r,its,_,h,.cons q t=>by
    obtain ⟨l,hl,rfl⟩:=qDl.mp (show (clsV r).map (Value.type n :: ·) = some its from h)
    rw [zMT hl t]
    cases q
    rfl
def zUQ (K:qA2):List V→Hp→VK→Prop:=fun vs H Q=>∃ e C d y b,vs = [.ref e,y]∧L2.isX H e C d∧(∀ a,d = some a→∃ fs,H a = some (.xd fs))∧Xc.XIs K C∧Q (.bl b) H ∧
  ((∃ c,y = .ref c∧qBf K (.ref C) (.ref c) = some b)∨(∃ n,y = .ty n∧qBf K (.ref C) (.type n) = some b)∨∃ p xs its,y = .ref p∧H p = some (.tup xs)∧clsV xs = some its∧PySem.W.kitAny K (.ref C) its = some b)
theorem zF6:zDH X (.builtin "isinstance") (zUQ X.K):=by
  intro pins s σ H vs us Q I r h
  obtain ⟨e,C,d,y,b,rfl,hx,hd,c,q,hy⟩:=h
  cases r with
  | cons r1 r2 =>
    cases r2 with
    | cons ry r3 =>
      cases r3
      cases r1
      have P:=I.instX0 hx hd
      rcases hy with ⟨c',rfl,hk⟩ | ⟨n,rfl,hk⟩ | ⟨p,xs,its,rfl,hp,rv,hk⟩
      · cases ry
        exact qBa (Xc.kitx_exc c) I.kIn P hk (fun z=>nomatch z) fun tk=>⟨.bl b,H,I.tok tk,rfl,q⟩
      · cases ry
        exact qBa (Xc.kitx_exc c) I.kIn P hk (fun z=>nomatch z) fun tk=>⟨.bl b,H,I.tok tk,rfl,q⟩
      · cases ry
        obtain ⟨_,us',r',ob,h1,h2,n,h3⟩:=I.hok p _ hp
        obtain ⟨oc,od,odt,osl⟩:=ob
        dsimp only at h2 h3
        subst h2 h3
        rw [zMT rv r'] at h1
        exact PySem.W.kia_tup (Xc.kitx_exc c) I.kIn P h1 hk (fun z=>nomatch z) fun tk=>⟨.bl b,H,I.tok tk,rfl,q⟩
end
end L2
namespace L2
open PySem PySem.Spec PyProof.Rows
def HasX (P:Program) (w:World) (K:qA2) (mg:Str→Option Value) (base:Heap) (x:Str) (k:Nat) (ps:List Str) (sp:Sp):Prop :=
  ∃ f fd,FnOk P w K mg base (CXe P w) k f fd ps sp∧mg x = some (.ref f)∧qB9 K (.ref f) = true∧Binds K fd ps []
section
variable {P:Program} {w:World} {K:qA2} {mg:Str→Option Value} {base:Heap} {x:Str} {k:Nat} {ps N:List Str} {sp sp':Sp} {st:Stmt}
theorem Fun.okX {y qual:Str} {f:Addr} {fd:FuncData} (F:Fun K y qual st f fd) (S:FnScope N ps (zA7 st)) (len:∀ vs H Q E,sp vs H Q E→vs.length = ps.length)
    (hbody:∀ (cdv:Value) (A:Around) (outer:List Env) (s:Shared) (H:Hp) (vs:List V) (Q:VK) (E:XK),Room k (A.deeper (envOfC qual (zA7 st) s.heap.objs.size f cdv))→sp vs H Q E →
      ∃ t,PSs (cxOf (CXe P w) P w K mg base N qual (zA7 st) f cdv A outer s H E) (zBC st) t∧t { nx:=fun _ H'=>Q .non H',rt:=Q } (start N vs) H):FnOk P w K mg base (CXe P w) (k + 1) f fd ps sp:=by
  obtain ⟨oc,od,kV,doc,pm,an,cdv,ct,osl,rfl,lk,hcd⟩:=F.ex
  exact zYJ lk hcd S len fun A outer s H vs Q E hr hsp=>hbody cdv A outer s H vs Q E hr hsp
theorem Def.okX (D:Def K mg x st) (S:FnScope N ps (zA7 st))
    (hb:∀ (kV doc pm:Value) (an:Option Addr) (cdv ct:Value) (us:List Value),us.length = ps.length→bindArgs (qBq x x (zCN st) (zBC st) (zA7 st) .none kV doc pm an cdv ct) ⟨us,[]⟩ = pure (ps.zip us))
    (len:∀ vs H Q E,sp vs H Q E→vs.length = ps.length)
    (hbody:∀ (f:Addr) (cdv:Value) (A:Around) (outer:List Env) (s:Shared) (H:Hp) (vs:List V) (Q:VK) (E:XK),Room k (A.deeper (envOfC x (zA7 st) s.heap.objs.size f cdv))→sp vs H Q E →
      ∃ t,PSs (cxOf (CXe P w) P w K mg base N x (zA7 st) f cdv A outer s H E) (zBC st) t∧t { nx:=fun _ H'=>Q .non H',rt:=Q } (start N vs) H):HasX P w K mg base x (k + 1) ps sp:=by
  obtain ⟨f,fd,F,m⟩:=D
  exact ⟨f,fd,F.okX S len (fun cdv A outer s H vs Q E hr h=>hbody f cdv A outer s H vs Q E hr h),m,F.kp,F.binds hb⟩
theorem zL3 {qual:Str} {scope:Scope} {f:Addr} {cd:Value} {A:Around} {outer:List Env} {s:Shared} {H:Hp} {E:XK}:Flies (cxOf (CXe P w) P w K mg base N qual scope f cd A outer s H E) E:=fun _ _ _ _ h=>zWB (fun _ _ _ z=>z) h
end
section
variable {X:Cx} {x:Str} {j k:Nat} {ps:List Str} {sp:Sp} {e:Expr} {es:List Expr} {t:TA} {p pos:Pos} {E:XK}
theorem zU0:Flies X E0:=fun _ _ _ _ z0=>by
  obtain ⟨_,_,_,_,_,_,_,_,_,_,_,h⟩:=z0
  exact h.elim
theorem zQ2 (h:HasX X.prog X.w X.K X.mg X.base x j ps sp) (hjk:j≤k) (hr:Room k X.A) (hf:Flies X E) (hg:Gl X x) (ha:PA X (e :: es) t) (hdb:(x == ("__debug__":Str)) = false:=by decide)
    (he:starEach (e :: es) X.env = (false,eval e X.env) :: starEach es X.env:=by rfl) (hpl:(backTo pos (starEach es X.env)).any (·.1) = false:=by rfl):PE X (.Call (.Name x p) (e :: es) [] pos) (zHD sp [] E t):=by
  obtain ⟨f,fd,G,m,kp,b⟩:=h
  exact zQ4 G (hr.mono hjk) hg m kp b .nil hf.passes ha hdb he hpl
theorem zXK (h:HasX X.prog X.w X.K X.mg X.base x j ps sp) (hjk:j≤k) (hr:Room k X.A) (hg:Gl X x) (ha:PA X.nox (e :: es) t) (hdb:(x == ("__debug__":Str)) = false:=by decide)
    (he:starEach (e :: es) X.env = (false,eval e X.env) :: starEach es X.env:=by rfl) (hpl:(backTo pos (starEach es X.env)).any (·.1) = false:=by rfl):PEx X (.Call (.Name x p) (e :: es) [] pos) (fun σ H Q E=>zHD sp [] E t σ H Q):=by
  obtain ⟨f,fd,G,m,kp,b⟩:=h
  exact zSI G (hr.mono hjk) hg m kp b .nil ha hdb he hpl
theorem zQ3 {C:Addr} (hg:Gl X x) (hm:X.mg x = some (.ref C)) (hdb:(x == ("__debug__":Str)) = false:=by decide):PE X (.Name x pos) (tC (.ref C)):=fun pins s σ H Q I h=>zFI I hg hm ⟨.ref C,H,I,rfl,h⟩ hdb
end
end L2
namespace Att
open PySem PySem.W PySem.Calls PyProof.Rows
theorem zUE {ns:List Int} (h:WData.weightAll (ns.map WData.int)≤2 ^ 20):∀ i∈ns,i.natAbs.log2 < 2 ^ 20:=by
  induction ns with
  | nil=>intro i hi; cases hi
  | cons n r ih =>
    rw [qAi,WData.weightAll] at h
    intro i hi
    rcases qAb.mp hi with rfl | hi
    · rw [WData.weight] at h
      split at h
      · rename_i z
        have:i = 0:=beq_iff_eq.mp z
        subst this
        decide
      · omega
    · exact ih (by omega) i hi
theorem attach_callW {l:OpenLaw} {n:Nat} {q:Program} {loose:List Str} {XP:(Str→Option Value)→Heap→Prop} {YP:World→Heap→Prop} {d:DefRec}
    (hn:l.most = some n) (hdf:d.params.defaults = [])
    (call:∀ (w:World) (s₀ s₁:Shared) (mg mb:Str→Option Value) (fa:Addr) (o:Obj) (pm cd doc:Value) (a:Addr) (vs:List Value) (ns:List Int),
      Ground q loose [] XP w s₀ mg mb s₁.heap→YP w s₁.heap →
      s₁.heap.get? fa = some o→o.data = .func (docDef d.name d.params d.body d.scope pm cd doc)→s₁.heap.CodeRec cd d.name→mg d.name = some (.ref fa) →
      s₁.heap.get? a = some { cls:=.type "list",data:=.seq vs.toArray }→IntsAre vs ns→ns.length≤n→(∀ i∈ns,i.natAbs.log2 < 2 ^ 20)→s₁.gens = #[] →
      codeAny (model l.prog w) callerA (.call (.ref fa) ⟨[.ref a],[]⟩) (fun r s'=>r = .ok (.ret (.bool true))∧OldK s₁.heap s'.heap∧s'.os = s₁.os∧AllBare s'.gens) s₁) :
    WalkO q loose XP YP l.row.toRowW d [] (fun f vs=>qHf f vs):=by
  intro w s₀ s₁ mg mb G Y fa o pm cd doc dV kV ho hd hcd hD hmg hg args vals as hpre hlay hrd hwl hlo
  obtain rfl:dV = .none:=Dflts.none hD hdf
  obtain rfl:kV = .none:=Dflts.noKw hD
  obtain ⟨a,vs,ns,rfl,rfl,hobj,hints,hlen⟩:=zPP hn hpre hwl
  have hw:∀ i∈ns,i.natAbs.log2 < 2 ^ 20:=by
    have hl:WData.layableAll [WData.list (ns.map WData.int)] = true:=hlay
    simp only [WData.layableAll,qBz,List.all_nil,qEp,WData.layable,qBb,decide_eq_true_eq] at hl
    exact zUE (by have:=hl.2; rw [WData.weight] at this; exact this)
  refine enter_call (codeAny_mono (call w s₀ s₁ mg mb fa o pm cd doc a vs ns G Y ho (fd_plain hd) hcd hmg hobj hints hlen hw hg) fun r s' hq=>?_)
  obtain ⟨rfl,h2,h3,h4⟩:=hq
  exact ⟨.inl ⟨.bool true,.bool true,[],rfl,fun _=>rfl,.bool true,zPY l _,fun _=>⟨qFt,fun _ hm=>(nomatch hm)⟩⟩,h2,h3,h4⟩
end Att
namespace L2
open PySem PySem.Spec PyProof.Rows
theorem walk_ofW {l:qF7} {n k:Nat} {q:Program} {loose:List Str} {XP:(Str→Option Value)→Heap→Prop} {YP:World→Heap→Prop} {d:DefRec} {K:Params→qA2} {CX:World→CXT} {sp:World→Sp} {x:Str}
    (hn:l.most = some n) (hn2:n≤sizeLine) (hdf:d.params.defaults = []) (hr:Room k callerA)
    (hY:∀ (w:World) (h:Heap),YP w h→(K w.params).In h)
    (F:∀ (w:World) (mg:Str→Option Value) (fa:Addr) (h:Heap),(K w.params).In h→h.Ns mainGlobals mg→mg d.name = some (.ref fa) →
      ∃ fd:FuncData,(∀ (s:Shared) (u:Value),BindsTo s fd ⟨[u],[]⟩ [(x,u)]) ∧
        ∀ base:Heap,(K w.params).In base→base.Ns mainGlobals mg→FnOk l.prog w (K w.params) mg base (CX w) k fa fd [x] (sp w))
    (hsp:∀ (w:World) (H:Hp) (a:Addr) (ns:List Int),ns.length≤n→(∀ i∈ns,i.natAbs.log2 < 2 ^ 20)→Only H→SqL (K w.params) H a (ns.map V.int)→sp w [.ref a] H (fun v _=>v = .bl true) fun _ _ _=>False)
    (hCX:∀ (w:World) (H:Hp) (s:Shared) (e:Value) (s':Shared),CX w [] H s (fun _ _ _=>False) e s'→False) :
    qHi q loose XP YP l.row.toRowW d [] (fun f vs=>qHf f vs):=by
  refine Att.attach_callW hn hdf fun w s₀ s₁ mg mb fa o pm cd doc a vs ns G Y ho hd hcd hmg hobj hints hlen hw hg=>?_
  have KX:=hY w _ Y
  obtain ⟨fd,hb,hF⟩:=F w mg fa _ KX G.T.g hmg
  exact zSU KX G.T.g G.T.b G.T.builtins G.T.nolimit hg hobj hints (qAq hlen hn2) hr hF hb (fun H hO hS=>hsp w H a ns hlen hw hO hS) fun H e s'=>hCX w H s₁ e s'
def MulOk (i j:Int):Prop:=((-(2 ^ 64) < i∧i < 2 ^ 64)∨(-(2 ^ 64) < j∧j < 2 ^ 64))∨i.natAbs.log2 + j.natAbs.log2≤67108864
theorem zRQ (i:Int):Builtin.Int.intBits i≤i.natAbs.log2 + 1:=by
  unfold Builtin.Int.intBits
  split <;> omega
theorem MulOk.ok {i j:Int} (h:MulOk i j):IntMulOk i j:=by
  rcases h with h | h
  · exact CMul.ok h
  · unfold IntMulOk
    have h1:=zRQ i
    have h2:=zRQ j
    have h3:Builtin.Int.intTooBig ((Builtin.Int.intBits i:Int) + (Builtin.Int.intBits j:Int)) = false:=by
      unfold Builtin.Int.intTooBig
      have:(bitsLine:Int) = 134217728:=by decide
      rw [this]
      simp only [gt_iff_lt,decide_eq_false_iff_not,Int.not_lt]
      omega
    rw [h3,qCx]
    exact qAg
section
variable {X:Cx}
noncomputable def zXA:R2:=fun x y H Q=>match x,y with
  | .int i,.int j=>MulOk i j∧Q (.int (i * j)) H
  | _,_=>False
theorem zUZ:OpR X (binaryOp .Mult) (rI MulOk fun i j=>.int (i * j)):=opI fun _ _ _ _ _ _ _ hc q=>mul_int q hc.ok
theorem zCP:OpR X (binaryOp .Mult) zXA:=by
  intro pins s σ H x y v u Q I rx ry h
  cases x <;> cases y <;> first
    | exact zUZ pins s σ H _ _ v u Q I rx ry ⟨_,_,rfl,rfl,h.1,h.2⟩
    | exact qA5 h
noncomputable def zXD:R2:=fun x y H Q=>match x,y with
  | .int i,.int j=>(0 < j∧j < 1000000000000000000000000)∧Q (.int (i / j)) H
  | _,_=>False
theorem log2_lt {n:Nat} (h:n < 1000000000000000000000000):n.log2 < 9000:=by
  by_cases z:n = 0
  · subst z; decide
  · have h2:n < 2 ^ 80:=by omega
    have:=(Nat.log2_lt z).mpr h2
    omega
theorem zV0:OpR X (binaryOp .FloorDiv) (rI (fun _ j=>0 < j∧j < 1000000000000000000000000) fun i j=>.int (i / j)):=opI fun i j _ _ _ _ _ hc q=>by
  have h1:(0:Int) < j:=hc.1
  have h2:j < 1000000000000000000000000:=hc.2
  exact floordiv_int (by omega) (by rw [Int.fdiv_eq_ediv_of_nonneg i (by omega)]; exact q) (.inl (PyProof.noPylong_of_log2 (log2_lt (by omega))))
theorem zHO:OpR X (binaryOp .FloorDiv) zXD:=by
  intro pins s σ H x y v u Q I rx ry h
  cases x <;> cases y <;> first
    | exact zV0 pins s σ H _ _ v u Q I rx ry ⟨_,_,rfl,rfl,h.1,h.2⟩
    | exact qA5 h
end
end L2
namespace L3
open PySem PySem.Spec
open L2 hiding Rep RepL
open Mi (Dt Xn R okR zA3 optR zA0 zA9 zAC zA8 zAB Rh Sl Ro EM TM AM FM IM SM Tg Out zAU zAS zAZ full frz frz1 frzAt)
class Kc where
  K:qA2
variable [Kc]
noncomputable def clK (K:qA2) (c:Str):Option Addr:=match qCb K mainGlobals c with
  | some (some (.ref C))=>some C
  | _=>none
def SqR (K:qA2) (H:Hp) (a:Addr) (xs:List V):Prop:=SqL K H a xs∨SqT K H a xs
theorem zGG {K:qA2} {H H':Hp} {a:Addr} {xs:List V} (e:Same H H') (h:SqT K H a xs):SqT K H' a xs:=by
  rcases h with (h | ⟨o,h⟩) | h
  · exact .inl (.inl (e _ _ h))
  · exact .inl (.inr ⟨o,e _ _ h⟩)
  · exact .inr h
theorem zEN {K:qA2} {H H':Hp} {a:Addr} {xs:List V} (e:Same H H') (h:SqR K H a xs):SqR K H' a xs:=h.imp (fun z=>e.seq z) fun z=>zGG e z
noncomputable def svV:Mi.Sv→V
  | .i n=>.int n
  | .s x=>.str x
noncomputable def swV:Mi.Sw→V
  | .non=>.non
  | .bl b=>.bl b
  | .int i=>.int i
  | .str x=>.str x
mutual
def Rep (H:Hp):Dt→V→Prop
  | .non,v=>v = .non
  | .bl b,v=>v = .bl b
  | .int i,v=>v = .int i
  | .str x,v=>v = .str x
  | .lst ds,v=>∃ a xs,v = .ref a∧H a = some (.lst xs)∧RepL H ds xs
  | .tup ds,v=>∃ a xs,v = .ref a∧H a = some (.tup xs)∧RepL H ds xs
  | .scr ns,v=>∃ a,v = .ref a∧SqR Kc.K H a (ns.map V.int)
  | .exc c f d,v=>∃ e C da,v = .ref e∧isX H e C da∧clK Kc.K c = some C∧((da = none∧f = "")∨∃ a gs w,da = some a∧H a = some (.xd gs)∧gs.lookup f = some w∧Rep H d w)
  | .ins c fs,v=>∃ a C dx,v = .ref a∧clK Kc.K c = some C∧H a = some (.ins C dx (fs.map fun p=>(p.1,svV p.2)))
  | .dct kvs,v=>∃ a,v = .ref a∧H a = some (.dK (kvs.map fun p=>(p.1,swV p.2)))
def RepL (H:Hp):List Dt→List V→Prop
  | [],xs=>xs = []
  | d :: r,xs=>∃ x q,xs = x :: q∧Rep H d x∧RepL H r q
end
mutual
theorem Rep.mono {H H':Hp} (s:Same H H'):∀ {d:Dt} {v:V},Rep H d v→Rep H' d v
  | .non,_,h=>h
  | .bl _,_,h=>h
  | .int _,_,h=>h
  | .str _,_,h=>h
  | .lst _,_,h=>by obtain ⟨a,xs,e,e',r⟩:=h; exact ⟨a,xs,e,s _ _ e',RepL.mono s r⟩
  | .tup _,_,h=>by obtain ⟨a,xs,e,e',r⟩:=h; exact ⟨a,xs,e,s _ _ e',RepL.mono s r⟩
  | .scr _,_,h=>by obtain ⟨a,e,e'⟩:=h; exact ⟨a,e,zEN s e'⟩
  | .exc _ _ _,_,h=>by
    obtain ⟨a,C,da,e,e',hc,r⟩:=h
    refine ⟨a,C,da,e,e'.imp (fun z=>s _ _ z) fun z=>s _ _ z,hc,r.imp (fun z=>z) ?_⟩
    rintro ⟨b,gs,w,h1,h2,h3,h4⟩
    exact ⟨b,gs,w,h1,s _ _ h2,h3,Rep.mono s h4⟩
  | .ins _ _,_,h=>by obtain ⟨a,C,dx,e,hc,h1⟩:=h; exact ⟨a,C,dx,e,hc,s _ _ h1⟩
  | .dct _,_,h=>by obtain ⟨a,e,h1⟩:=h; exact ⟨a,e,s _ _ h1⟩
theorem RepL.mono {H H':Hp} (s:Same H H'):∀ {ds:List Dt} {xs:List V},RepL H ds xs→RepL H' ds xs
  | [],_,h=>h
  | _ :: _,_,h=>by obtain ⟨x,q,e,r,t⟩:=h; exact ⟨x,q,e,Rep.mono s r,RepL.mono s t⟩
end
theorem RepL.length {H:Hp}:∀ {ds:List Dt} {xs:List V},RepL H ds xs→xs.length = ds.length
  | [],_,h=>by cases h; rfl
  | _ :: _,_,h=>by obtain ⟨x,q,e,r,t⟩:=h; subst e; simp [RepL.length t]
mutual
def conv:Dt→L2.Dat
  | .non=>.non
  | .bl b=>.bl b
  | .int i=>.int i
  | .str x=>.str x
  | .lst ds=>.lst (convL ds)
  | .tup ds=>.tup (convL ds)
  | .scr _=>.non
  | .exc _ _ _=>.non
  | .ins _ _=>.non
  | .dct _=>.non
def convL:List Dt→List L2.Dat
  | []=>[]
  | d :: r=>conv d :: convL r
end
mutual
theorem zF4:∀ {d:Dt},d.dep≤40→(conv d).dep≤d.dep
  | .non,_=>qAa _
  | .bl _,_=>qAa _
  | .int _,_=>qAa _
  | .str _,_=>qAa _
  | .lst ds,h=>by rw [Dt.dep] at h ⊢; rw [conv,L2.Dat.dep]; have:=conv_depL (ds:=ds) (by omega); omega
  | .tup ds,h=>by rw [Dt.dep] at h ⊢; rw [conv,L2.Dat.dep]; have:=conv_depL (ds:=ds) (by omega); omega
  | .scr _,h=>by rw [Dt.dep] at h; omega
  | .exc _ _ _,h=>by rw [Dt.dep] at h; omega
  | .ins _ _,h=>by rw [Dt.dep] at h; omega
  | .dct _,h=>by rw [Dt.dep] at h; omega
theorem conv_depL:∀ {ds:List Dt},Dt.depL ds≤40→L2.Dat.depL (convL ds)≤Dt.depL ds
  | [],_=>qAa _
  | d :: r,h=>by
    rw [Dt.depL] at h ⊢
    rw [convL,L2.Dat.depL]
    have h1:=zF4 (d:=d) (by omega)
    have h2:=conv_depL (ds:=r) (by omega)
    omega
end
mutual
theorem zDV {H:Hp}:∀ {d:Dt} {v:V},d.dep≤40→Rep H d v→L2.Rep H (conv d) v
  | .non,_,_,h=>h
  | .bl _,_,_,h=>h
  | .int _,_,_,h=>h
  | .str _,_,_,h=>h
  | .lst ds,_,hd,h=>by obtain ⟨a,xs,e,e',r⟩:=h; exact ⟨a,xs,e,e',conv_repL (by rw [Dt.dep] at hd; omega) r⟩
  | .tup ds,_,hd,h=>by obtain ⟨a,xs,e,e',r⟩:=h; exact ⟨a,xs,e,e',conv_repL (by rw [Dt.dep] at hd; omega) r⟩
  | .scr _,_,h,_=>by rw [Dt.dep] at h; omega
  | .exc _ _ _,_,h,_=>by rw [Dt.dep] at h; omega
  | .ins _ _,_,h,_=>by rw [Dt.dep] at h; omega
  | .dct _,_,h,_=>by rw [Dt.dep] at h; omega
theorem conv_repL {H:Hp}:∀ {ds:List Dt} {xs:List V},Dt.depL ds≤40→RepL H ds xs→L2.RepL H (convL ds) xs
  | [],_,_,h=>h
  | d :: r,_,hd,h=>by
    rw [Dt.depL] at hd
    obtain ⟨x,q,e,a,b⟩:=h
    exact ⟨x,q,e,zDV (by omega) a,conv_repL (by omega) b⟩
end
mutual
theorem zMS:∀ {d e:Dt},d.dep≤40→e.dep≤40→L2.Dat.eq (conv d) (conv e) = Dt.eq d e
  | .scr _,_,h,_=>by rw [Dt.dep] at h; omega
  | .exc _ _ _,_,h,_=>by rw [Dt.dep] at h; omega
  | .ins _ _,_,h,_=>by rw [Dt.dep] at h; omega
  | .dct _,_,h,_=>by rw [Dt.dep] at h; omega
  | .lst ds,e,h,h'=>by
    rw [Dt.dep] at h
    cases e with
    | lst es=>rw [Dt.dep] at h'; rw [conv,conv,L2.Dat.eq,Dt.eq]; exact conv_eqL (by omega) (by omega)
    | scr _=>rw [Dt.dep] at h'; omega
    | exc _ _ _=>rw [Dt.dep] at h'; omega
    | ins _ _=>rw [Dt.dep] at h'; omega
    | dct _=>rw [Dt.dep] at h'; omega
    | _=>simp [conv,L2.Dat.eq,Dt.eq]
  | .tup ds,e,h,h'=>by
    rw [Dt.dep] at h
    cases e with
    | tup es=>rw [Dt.dep] at h'; rw [conv,conv,L2.Dat.eq,Dt.eq]; exact conv_eqL (by omega) (by omega)
    | scr _=>rw [Dt.dep] at h'; omega
    | exc _ _ _=>rw [Dt.dep] at h'; omega
    | ins _ _=>rw [Dt.dep] at h'; omega
    | dct _=>rw [Dt.dep] at h'; omega
    | _=>simp [conv,L2.Dat.eq,Dt.eq]
  | .non,e,_,h'=>by
    cases e with
    | scr _=>rw [Dt.dep] at h'; omega
    | exc _ _ _=>rw [Dt.dep] at h'; omega
    | ins _ _=>rw [Dt.dep] at h'; omega
    | dct _=>rw [Dt.dep] at h'; omega
    | _=>simp [conv,L2.Dat.eq,Dt.eq]
  | .bl _,e,_,h'=>by
    cases e with
    | scr _=>rw [Dt.dep] at h'; omega
    | exc _ _ _=>rw [Dt.dep] at h'; omega
    | ins _ _=>rw [Dt.dep] at h'; omega
    | dct _=>rw [Dt.dep] at h'; omega
    | _=>simp [conv,L2.Dat.eq,Dt.eq]
  | .int _,e,_,h'=>by
    cases e with
    | scr _=>rw [Dt.dep] at h'; omega
    | exc _ _ _=>rw [Dt.dep] at h'; omega
    | ins _ _=>rw [Dt.dep] at h'; omega
    | dct _=>rw [Dt.dep] at h'; omega
    | _=>simp [conv,L2.Dat.eq,Dt.eq]
  | .str _,e,_,h'=>by
    cases e with
    | scr _=>rw [Dt.dep] at h'; omega
    | exc _ _ _=>rw [Dt.dep] at h'; omega
    | ins _ _=>rw [Dt.dep] at h'; omega
    | dct _=>rw [Dt.dep] at h'; omega
    | _=>simp [conv,L2.Dat.eq,Dt.eq]
theorem conv_eqL:∀ {ds es:List Dt},Dt.depL ds≤40→Dt.depL es≤40→L2.Dat.eqL (convL ds) (convL es) = Dt.eqL ds es
  | [],[],_,_=>by simp [convL,L2.Dat.eqL,Dt.eqL]
  | [],_ :: _,_,_=>by simp [convL,L2.Dat.eqL,Dt.eqL]
  | _ :: _,[],_,_=>by simp [convL,L2.Dat.eqL,Dt.eqL]
  | d :: r,e :: t,h,h'=>by
    rw [Dt.depL] at h h'
    rw [convL,convL,L2.Dat.eqL,Dt.eqL,zMS (by omega) (by omega),conv_eqL (by omega) (by omega)]
end
theorem zSA {G:Hp} {ds:List Dt} {xs:List V} (h:RepL G ds xs):xs.length = ds.length:=RepL.length h
theorem zC3 {G:Hp}:∀ {ds:List Dt} {xs:List V} {q:Nat} {d:Dt} {x:V},RepL G ds xs→ds[q]? = some d→xs[q]? = some x→Rep G d x
  | [],_,_,_,_,_,h,_=>by simp at h
  | d :: r,xs,0,e,y,h,h1,h2=>by
    obtain ⟨x,t,rfl,a,b⟩:=h
    simp at h1 h2; subst h1; subst h2; exact a
  | d :: r,xs,q + 1,e,y,h,h1,h2=>by
    obtain ⟨x,t,rfl,a,b⟩:=h
    exact zC3 b (by simpa using h1) (by simpa using h2)
theorem zE8 {G:Hp}:∀ {ds:List Dt} {xs:List V},xs.length = ds.length→(∀ (q:Nat) (d:Dt) (x:V),ds[q]? = some d→xs[q]? = some x→Rep G d x)→RepL G ds xs
  | [],[],_,_=>rfl
  | [],_ :: _,h,_=>by simp at h
  | _ :: _,[],h,_=>by simp at h
  | d :: r,x :: t,h,k=>⟨x,t,rfl,k 0 d x rfl rfl,zE8 (by simpa using h) fun q e y h1 h2=>k (q + 1) e y (by simpa using h1) (by simpa using h2)⟩
theorem zDQ {n:Nat}:∀ {ds:List Dt},Dt.depL ds≤n→∀ {q:Nat} {d:Dt},ds[q]? = some d→d.dep≤n
  | [],_,_,_,h=>by simp at h
  | e :: r,h,0,d,h1=>by simp at h1; subst h1; rw [Dt.depL] at h; omega
  | e :: r,h,q + 1,d,h1=>by rw [Dt.depL] at h; exact zDQ (ds:=r) (by omega) (q:=q) (by simpa using h1)
theorem Rep.scalar {G G2:Hp} {d:Dt} {v:V} (h:Rep G d v) (hd:d.dep = 0):Rep G2 d v:=by
  cases d with
  | lst ds=>rw [Dt.dep] at hd; omega
  | tup ds=>rw [Dt.dep] at hd; omega
  | scr ns=>rw [Dt.dep] at hd; omega
  | exc _ _ _=>rw [Dt.dep] at hd; omega
  | ins _ _=>rw [Dt.dep] at hd; omega
  | dct _=>rw [Dt.dep] at hd; omega
  | _=>exact h
structure Kids (P:(Addr→Prop)→Dt→V→Prop) (S:Addr→Prop) (a:Addr) (ds:List Dt) (xs:List V) (T:Nat→Addr→Prop):Prop where
  len:xs.length = ds.length
  own:∀ (q:Nat) (d:Dt) (x:V),ds[q]? = some d→xs[q]? = some x→P (T q) d x
  top:S a
  out:∀ q,¬ T q a
  dis:∀ q r b,T q b→T r b→q = r
  sub:∀ q b,T q b→S b
def Own (G H:Hp):Nat→(Addr→Prop)→Dt→V→Prop
  | 0,_,d,v=>Rep G d v
  | n + 1,S,d,v=>match d with
    | .lst ds=>∃ a xs T,v = .ref a∧H a = some (.lst xs)∧Kids (Own G H n) S a ds xs T
    | .tup ds=>∃ a xs T,v = .ref a∧H a = some (.tup xs)∧Kids (Own G H n) S a ds xs T
    | .dct kvs=>∃ a,v = .ref a∧H a = some (.dK (kvs.map fun p=>(p.1,swV p.2)))∧S a
    | d=>Rep G d v
theorem Kids.imp {P P':(Addr→Prop)→Dt→V→Prop} {S S':Addr→Prop} {a:Addr} {ds:List Dt} {xs:List V} {T:Nat→Addr→Prop} (k:Kids P S a ds xs T)
    (h:∀ q d x,ds[q]? = some d→P (T q) d x→P' (T q) d x) (hs:∀ b,S b→S' b):Kids P' S' a ds xs T :=
  ⟨k.len,fun q d x h1 h2=>h q d x h1 (k.own q d x h1 h2),hs _ k.top,k.out,k.dis,fun q b t=>hs _ (k.sub q b t)⟩
theorem Own.mono {G G' H H':Hp} (sG:Same G G') (sH:Same H H'):∀ {n:Nat} {S:Addr→Prop} {d:Dt} {v:V},Own G H n S d v→Own G' H' n S d v
  | 0,S,d,v,h=>Rep.mono sG h
  | n + 1,S,d,v,h=>by
    cases d with
    | lst ds=>obtain ⟨a,xs,T,e,ha,k⟩:=h; exact ⟨a,xs,T,e,sH _ _ ha,k.imp (fun _ _ _ _ p=>Own.mono sG sH p) fun _ z=>z⟩
    | tup ds=>obtain ⟨a,xs,T,e,ha,k⟩:=h; exact ⟨a,xs,T,e,sH _ _ ha,k.imp (fun _ _ _ _ p=>Own.mono sG sH p) fun _ z=>z⟩
    | dct kvs=>obtain ⟨a,e,ha,hs⟩:=h; exact ⟨a,e,sH _ _ ha,hs⟩
    | _=>exact Rep.mono sG h
theorem Own.sub {G H:Hp} {n:Nat} {S S':Addr→Prop} {d:Dt} {v:V} (h:Own G H n S d v) (hs:∀ b,S b→S' b):Own G H n S' d v:=by
  cases n with
  | zero=>exact h
  | succ n =>
    cases d with
    | lst ds=>obtain ⟨a,xs,T,e,ha,k⟩:=h; exact ⟨a,xs,T,e,ha,k.imp (fun _ _ _ _ p=>p) hs⟩
    | tup ds=>obtain ⟨a,xs,T,e,ha,k⟩:=h; exact ⟨a,xs,T,e,ha,k.imp (fun _ _ _ _ p=>p) hs⟩
    | dct kvs=>obtain ⟨a,e,ha,h2⟩:=h; exact ⟨a,e,ha,hs _ h2⟩
    | _=>exact h
theorem Own.rep {G H J:Hp} (sG:Same G J):∀ {n:Nat} {S:Addr→Prop} {d:Dt} {v:V},Own G H n S d v→(∀ a o,S a→H a = some o→J a = some o)→Rep J d v
  | 0,S,d,v,h,_=>Rep.mono sG h
  | n + 1,S,d,v,h,hj=>by
    cases d with
    | lst ds=>obtain ⟨a,xs,T,e,ha,k⟩:=h; exact ⟨a,xs,e,hj _ _ k.top ha,zE8 k.len fun q d x h1 h2=>Own.rep sG (k.own q d x h1 h2) fun b o t hb=>hj b o (k.sub q b t) hb⟩
    | tup ds=>obtain ⟨a,xs,T,e,ha,k⟩:=h; exact ⟨a,xs,e,hj _ _ k.top ha,zE8 k.len fun q d x h1 h2=>Own.rep sG (k.own q d x h1 h2) fun b o t hb=>hj b o (k.sub q b t) hb⟩
    | dct kvs=>obtain ⟨a,e,ha,hs⟩:=h; exact ⟨a,e,hj _ _ hs ha⟩
    | _=>exact Rep.mono sG h
theorem Own.at {G G2 H:Hp}:∀ {n k:Nat} {S:Addr→Prop} {d:Dt} {v:V},Own G H n S d v→d.dep≤n→d.dep≤k→n < 1000→Own G2 H k S d v
  | n,k,S,d,v,h,hn,hk,hz=>by
    cases d with
    | lst ds =>
      rw [Dt.dep] at hn hk
      cases n with
      | zero=>omega
      | succ n =>
        cases k with
        | zero=>omega
        | succ k =>
          obtain ⟨a,xs,T,e,ha,kd⟩:=h
          refine ⟨a,xs,T,e,ha,kd.imp (fun q d x h1 p=>?_) fun _ z=>z⟩
          exact Own.at p (zDQ (by omega) h1) (zDQ (by omega) h1) (by omega)
    | tup ds =>
      rw [Dt.dep] at hn hk
      cases n with
      | zero=>omega
      | succ n =>
        cases k with
        | zero=>omega
        | succ k =>
          obtain ⟨a,xs,T,e,ha,kd⟩:=h
          refine ⟨a,xs,T,e,ha,kd.imp (fun q d x h1 p=>?_) fun _ z=>z⟩
          exact Own.at p (zDQ (by omega) h1) (zDQ (by omega) h1) (by omega)
    | non=>cases n <;> cases k <;> exact h
    | bl b=>cases n <;> cases k <;> exact h
    | int i=>cases n <;> cases k <;> exact h
    | str x=>cases n <;> cases k <;> exact h
    | scr ns=>rw [Dt.dep] at hn; omega
    | exc _ _ _=>rw [Dt.dep] at hn; omega
    | ins _ _=>rw [Dt.dep] at hn; omega
    | dct _=>rw [Dt.dep] at hn; omega
termination_by n=>n
theorem Own.scalar {G H G2 H2:Hp} {n k:Nat} {S S2:Addr→Prop} {d:Dt} {v:V} (h:Own G H n S d v) (hd:d.dep = 0):Own G2 H2 k S2 d v:=by
  cases d with
  | lst ds=>rw [Dt.dep] at hd; omega
  | tup ds=>rw [Dt.dep] at hd; omega
  | non=>cases n <;> cases k <;> exact h
  | bl b=>cases n <;> cases k <;> exact h
  | int i=>cases n <;> cases k <;> exact h
  | str x=>cases n <;> cases k <;> exact h
  | scr ns=>rw [Dt.dep] at hd; omega
  | exc _ _ _=>rw [Dt.dep] at hd; omega
  | ins _ _=>rw [Dt.dep] at hd; omega
  | dct _=>rw [Dt.dep] at hd; omega
theorem zQ6 {G H:Hp} {n:Nat} {S:Addr→Prop} {d:Dt} {v:V} (h:Rep G d v) (hd:d.dep = 0):Own G H n S d v:=Own.scalar (n:=0) (G:=G) (H:=H) (S:=S) h hd
theorem Own.upd {G H:Hp} {p:Addr} {o:HO}:∀ {n:Nat} {S:Addr→Prop} {d:Dt} {v:V},Own G H n S d v→¬ S p→Own G (upd H p o) n S d v
  | 0,S,d,v,h,_=>h
  | n + 1,S,d,v,h,hp=>by
    cases d with
    | lst ds =>
      obtain ⟨a,xs,T,e,ha,k⟩:=h
      have hap:a≠p:=fun z=>hp (z ▸ k.top)
      exact ⟨a,xs,T,e,(zAK hap).trans ha,k.imp (fun q _ _ _ w=>Own.upd w fun z=>hp (k.sub q _ z)) fun _ z=>z⟩
    | tup ds =>
      obtain ⟨a,xs,T,e,ha,k⟩:=h
      have hap:a≠p:=fun z=>hp (z ▸ k.top)
      exact ⟨a,xs,T,e,(zAK hap).trans ha,k.imp (fun q _ _ _ w=>Own.upd w fun z=>hp (k.sub q _ z)) fun _ z=>z⟩
    | dct kvs =>
      obtain ⟨a,e,ha,hs⟩:=h
      have hap:a≠p:=fun z=>hp (z ▸ hs)
      exact ⟨a,e,(zAK hap).trans ha,hs⟩
    | _=>exact h
structure Ext (G H G' H':Hp):Prop where
  g:Same G G'
  h:Same H H'
  in':Same G' H'
  old:∀ b,H b≠none→G' b = G b
theorem Ext.refl {G H:Hp} (s:Same G H):Ext G H G H:=⟨Same.refl _,Same.refl _,s,fun _ _=>rfl⟩
theorem _root_.L2.Same.some {H H':Hp} (s:Same H H') {b:Addr} (h:H b≠qFi):H' b≠qFi:=by
  cases e:H b with
  | none=>exact absurd e h
  | some o=>rw [s _ _ e]; simp
theorem Ext.trans {G H G1 H1 G2 H2:Hp} (a:Ext G H G1 H1) (b:Ext G1 H1 G2 H2):Ext G H G2 H2 :=
  ⟨a.g.trans b.g,a.h.trans b.h,b.in',fun c hc=>(b.old c (a.h.some hc)).trans (a.old c hc)⟩
structure Fr (G H G' H':Hp) (S:Addr→Prop):Prop where
  ext:Ext G H G' H'
  new:∀ a,S a→H a = none∧G' a = none∧H' a≠none
open Classical in
noncomputable def over (G H:Hp) (S:Addr→Prop):Hp:=fun b=>if S b then H b else G b
theorem zDM {G H:Hp} {S:Addr→Prop} {a:Addr} (h:S a):over G H S a = H a:=by unfold over; rw [if_pos h]
theorem zBW {G H:Hp} {S:Addr→Prop} {a:Addr} (h:¬ S a):over G H S a = G a:=by unfold over; rw [if_neg h]
theorem zCK {G H:Hp} {S:Addr→Prop} (s:Same G H):Same G (over G H S)∧Same (over G H S) H:=by
  constructor
  · intro b o e
    by_cases z:S b
    · rw [zDM z]; exact s _ _ e
    · rw [zBW z]; exact e
  · intro b o e
    by_cases z:S b
    · rw [zDM z] at e; exact e
    · rw [zBW z] at e; exact s _ _ e
theorem Fr.frz {G H G' H':Hp} {S:Addr→Prop} {n:Nat} {d:Dt} {v:V} (f:Fr G H G' H' S) (o:Own G' H' n S d v):Ext G H (over G' H' S) H'∧Rep (over G' H' S) d v:=by
  obtain ⟨s1,s2⟩:=zCK (S:=S) f.ext.in'
  refine ⟨⟨f.ext.g.trans s1,f.ext.h,s2,fun b hb=>?_⟩,o.rep s1 fun a u ha e=>by rw [zDM ha]; exact e⟩
  have z:¬ S b:=fun z=>hb (f.new b z).1
  rw [zBW z]; exact f.ext.old b hb
structure View (G:Hp) (σ:St) (ρ:Rh):Prop where
  len:ρ.length = σ.length
  «at»:∀ (i:Nat) (d:Dt),ρ[i]? = some (some d)→∃ v,σ[i]? = some (some v)∧Rep G d v
theorem View.mono {G G':Hp} {σ:St} {ρ:Rh} (s:Same G G') (h:View G σ ρ):View G' σ ρ:=⟨h.len,fun i d e=>let ⟨v,a,b⟩:=h.at i d e; ⟨v,a,Rep.mono s b⟩⟩
def XRep (mg:Str→Option Value) (x:Xn) (c:Value) (da:Option Addr) (G H:Hp):Prop :=
  ∃ e C,c = .ref e∧G e = some (xo e (.ref C) da)∧clK Kc.K x.cls = some C∧((da = none∧x.f = "")∨∃ a gs w,da = some a∧G a = some (.xd gs)∧gs.lookup x.f = some w∧Rep G x.d w)
def PostE (mg:Str→Option Value) (E:XK) (G H:Hp) (n:Nat) (r:R Dt) (Q:VK):Prop:=match r with
  | none=>False
  | some (.error x)=>∀ c da G' H',Ext G H G' H'→XRep mg x c da G' H'→E c da H'
  | some (.ok d)=>∀ v G' H' S,Fr G H G' H' S→Own G' H' n S d v→Q v H'
def PostT (mg:Str→Option Value) (E:XK) (G H:Hp) (r:R Bool) (Q:Bool→Hp→Prop):Prop:=match r with
  | none=>False
  | some (.error x)=>∀ c da G' H',Ext G H G' H'→XRep mg x c da G' H'→E c da H'
  | some (.ok b)=>∀ H',Same H H'→Q b H'
structure OwnA (G H:Hp) (n:Nat) (S:Addr→Prop) (ds:List Dt) (xs:List V) (T:Nat→Addr→Prop):Prop where
  len:xs.length = ds.length
  own:∀ (q:Nat) (d:Dt) (x:V),ds[q]? = some d→xs[q]? = some x→Own G H n (T q) d x
  dis:∀ q r b,T q b→T r b→q = r
  sub:∀ q b,T q b→S b
def zZ3 (mg:Str→Option Value) (E:XK) (G H:Hp) (n:Nat) (r:R (List Dt)) (Q:List V→Hp→Prop):Prop:=match r with
  | none=>False
  | some (.error x)=>∀ c da G' H',Ext G H G' H'→XRep mg x c da G' H'→E c da H'
  | some (.ok ds)=>∀ vs G' H' S T,Fr G H G' H' S→OwnA G' H' n S ds vs T→Q vs H'
def DE (mg:Str→Option Value) (E:XK) (t:TE) (m:EM) (n:Nat):Prop:=∀ (G H:Hp) (σ:St) (ρ:Rh) (Q:VK),Same G H→View G σ ρ→PostE mg E G H n (m ρ) Q→t σ H Q
def DT (mg:Str→Option Value) (E:XK) (t:TT) (m:TM):Prop:=∀ (G H:Hp) (σ:St) (ρ:Rh) (Q:Bool→Hp→Prop),Same G H→View G σ ρ→PostT mg E G H (m ρ) Q→t σ H Q
def DA (mg:Str→Option Value) (E:XK) (t:TA) (m:AM) (n:Nat):Prop:=∀ (G H:Hp) (σ:St) (ρ:Rh) (Q:List V→Hp→Prop),Same G H→View G σ ρ→zZ3 mg E G H n (m ρ) Q→t σ H Q
structure Err (mg:Str→Option Value) (E:XK) (G H:Hp) {β:Type} (P:R β→Prop):Prop where
  no:P none→False
  er:∀ x,P (some (.error x))→∀ c da G' H',Ext G H G' H'→XRep mg x c da G' H'→E c da H'
theorem Ext.same {G H H':Hp} (s:Same G H) (h:Same H H'):Ext G H G H':=⟨Same.refl _,h,s.trans h,fun _ _=>rfl⟩
theorem Err.from {mg:Str→Option Value} {E:XK} {G H G' H':Hp} {β:Type} {P:R β→Prop} (e:Err mg E G H P) (x:Ext G H G' H'):Err mg E G' H' P:=⟨e.no,fun y p c da G2 H2 z w=>e.er y p c da G2 H2 (x.trans z) w⟩
section
variable {mg:Str→Option Value} {E:XK} {n:Nat}
theorem errE {G H:Hp} {Q:VK}:Err mg E G H (fun r=>PostE mg E G H n r Q):=⟨fun h=>h,fun _ h=>h⟩
theorem errT {G H:Hp} {Q:Bool→Hp→Prop}:Err mg E G H (fun r=>PostT mg E G H r Q):=⟨fun h=>h,fun _ h=>h⟩
theorem errA {G H:Hp} {Q:List V→Hp→Prop}:Err mg E G H (fun r=>zZ3 mg E G H n r Q):=⟨fun h=>h,fun _ h=>h⟩
theorem DE.step {β:Type} {t:TE} {m:EM} (D:DE mg E t m n) {G H:Hp} {σ:St} {ρ:Rh} {Q:VK} {P:R β→Prop} {f:Dt→R β} (hE:Err mg E G H P) (s:Same G H) (w:View G σ ρ) (p:P (zA3 (m ρ) f))
    (h:∀ d v G' H' S,m ρ = okR d→Fr G H G' H' S→Own G' H' n S d v→P (f d)→Q v H'):t σ H Q:=by
  refine D G H σ ρ Q s w ?_
  cases e:m ρ with
  | none=>rw [e] at p; exact hE.no p
  | some r =>
    rw [e] at p
    cases r with
    | error x=>exact hE.er x p
    | ok d=>exact fun v G' H' S fr o=>h d v G' H' S e fr o p
theorem DT.step {β:Type} {t:TT} {m:TM} (D:DT mg E t m) {G H:Hp} {σ:St} {ρ:Rh} {Q:Bool→Hp→Prop} {P:R β→Prop} {f:Bool→R β} (hE:Err mg E G H P) (s:Same G H) (w:View G σ ρ) (p:P (zA3 (m ρ) f))
    (h:∀ b H',m ρ = okR b→Same H H'→P (f b)→Q b H'):t σ H Q:=by
  refine D G H σ ρ Q s w ?_
  cases e:m ρ with
  | none=>rw [e] at p; exact hE.no p
  | some r =>
    rw [e] at p
    cases r with
    | error x=>exact hE.er x p
    | ok b=>exact fun H' sH=>h b H' e sH p
theorem DA.step {β:Type} {t:TA} {m:AM} (D:DA mg E t m n) {G H:Hp} {σ:St} {ρ:Rh} {Q:List V→Hp→Prop} {P:R β→Prop} {f:List Dt→R β} (hE:Err mg E G H P) (s:Same G H) (w:View G σ ρ) (p:P (zA3 (m ρ) f))
    (h:∀ ds vs G' H' S T,m ρ = okR ds→Fr G H G' H' S→OwnA G' H' n S ds vs T→P (f ds)→Q vs H'):t σ H Q:=by
  refine D G H σ ρ Q s w ?_
  cases e:m ρ with
  | none=>rw [e] at p; exact hE.no p
  | some r =>
    rw [e] at p
    cases r with
    | error x=>exact hE.er x p
    | ok ds=>exact fun vs G' H' S T fr o=>h ds vs G' H' S T e fr o p
theorem PostE.from {G H G' H':Hp} {Q:VK} {r:R Dt} (p:PostE mg E G H n r Q) (x:Ext G H G' H'):PostE mg E G' H' n r Q:=by
  cases r with
  | none=>exact p
  | some r =>
    cases r with
    | error y=>exact fun c da G2 H2 z w=>p c da G2 H2 (x.trans z) w
    | ok d =>
      exact fun v G2 H2 S fr o=>p v G2 H2 S ⟨x.trans fr.ext,fun a ha=>⟨x.h.free (fr.new a ha).1,(fr.new a ha).2⟩⟩ o
theorem PostT.from {G H G' H':Hp} {Q:Bool→Hp→Prop} {r:R Bool} (p:PostT mg E G H r Q) (x:Ext G H G' H'):PostT mg E G' H' r Q:=by
  cases r with
  | none=>exact p
  | some r =>
    cases r with
    | error y=>exact fun c da G2 H2 z w=>p c da G2 H2 (x.trans z) w
    | ok d=>exact fun H2 s=>p H2 (x.h.trans s)
theorem Fr.from {G H G1 H1 G2 H2:Hp} {S:Addr→Prop} (x:Ext G H G1 H1) (f:Fr G1 H1 G2 H2 S):Fr G H G2 H2 S:=⟨x.trans f.ext,fun a ha=>⟨x.h.free (f.new a ha).1,(f.new a ha).2⟩⟩
theorem PostE.val {G H G' H':Hp} {d:Dt} {v:V} {Q:VK} (p:PostE mg E G H n (okR d) Q) (x:Ext G H G' H') (hd:d.dep = 0) (h:Rep G' d v):Q v H' :=
  p v G' H' (fun _=>False) ⟨x,fun _ z=>z.elim⟩ (zQ6 h hd)
theorem PostE.kept {G H G' H':Hp} {d:Dt} {v:V} {Q:VK} (p:PostE mg E G H 0 (okR d) Q) (x:Ext G H G' H') (h:Rep G' d v):Q v H' :=
  p v G' H' (fun _=>False) ⟨x,fun _ z=>z.elim⟩ h
theorem zAO {t:TE} {m:EM} {n:Nat} (D:DE mg E t m n):DE mg E t m 0:=by
  intro G H σ ρ Q s w p
  refine D G H σ ρ Q s w ?_
  cases e:m ρ with
  | none=>rw [e] at p; exact p
  | some r =>
    rw [e] at p
    cases r with
    | error x=>exact p
    | ok d =>
      intro v G' H' S fr o
      obtain ⟨x,r⟩:=fr.frz o
      exact PostE.kept p x r
end
end L3
namespace L3
open PySem PySem.Spec
open L2 hiding Rep RepL
open Mi (Dt Xn R okR zA3 optR zA0 zA9 zAC zA8 zAB Rh Sl Ro EM TM AM FM IM SM Tg Out zAU zAS zAZ full frz frz1 frzAt)
section
variable [Kc] {mg:Str→Option Value} {E:XK} {n k l:Nat} {ta tb tc:TE} {ma mb mc:EM}
theorem zAA {i:Int}:DE mg E (tC (.int i)) (Mi.eC (.int i)) n:=fun G H σ ρ Q s w p=>PostE.val p (Ext.refl s) rfl rfl
theorem zL6 {b:Bool}:DE mg E (tC (.bl b)) (Mi.eC (.bl b)) n:=fun G H σ ρ Q s w p=>PostE.val p (Ext.refl s) rfl rfl
theorem zHX {x:Str}:DE mg E (tC (.str x)) (Mi.eC (.str x)) n:=fun G H σ ρ Q s w p=>PostE.val p (Ext.refl s) rfl rfl
theorem de_v (i:Nat):DE mg E (vM i) (Mi.eV i) 0:=by
  intro G H σ ρ Q s w p
  unfold Mi.eV at p
  cases e:ρ[i]? with
  | none=>rw [e] at p; exact p.elim
  | some o =>
    rw [e] at p
    cases o with
    | none=>exact p.elim
    | some d =>
      obtain ⟨v,h1,h2⟩:=w.at i d e
      unfold vM
      rw [h1]
      exact PostE.kept p (Ext.refl s) h2
def ROp (r:R2) (f:Dt→Dt→Option Dt) (n:Nat):Prop:=∀ (mg:Str→Option Value) (E:XK) (G H:Hp) (d e:Dt) (x y:V) (Q:VK),Same G H→Rep G d x→Rep G e y→PostE mg E G H n (optR (f d e)) Q→r x y H Q
theorem zAF {r:R2} {f:Dt→Dt→Option Dt} (hr:ROp r f n) (A:DE mg E ta ma k) (B:DE mg E tb mb l):DE mg E (tOp r ta tb) (Mi.eB f ma mb) n:=by
  intro G H σ ρ Q s w p
  refine (zAO A).step errE s w p fun d v G1 H1 S _ fr o p1=>?_
  refine (zAO B).step (errE.from fr.ext) fr.ext.in' (w.mono fr.ext.g) p1 fun e u G2 H2 S2 _ fr2 o2 p2=>?_
  exact hr mg E G2 H2 d e v u Q fr2.ext.in' (Rep.mono fr2.ext.g o) o2 (PostE.from p2 (fr.ext.trans fr2.ext))
def ROp1 (r:V→Hp→VK→Prop) (f:Dt→Option Dt) (n:Nat):Prop:=∀ (mg:Str→Option Value) (E:XK) (G H:Hp) (d:Dt) (x:V) (Q:VK),Same G H→Rep G d x→PostE mg E G H n (optR (f d)) Q→r x H Q
theorem zYT {r:V→Hp→VK→Prop} {f:Dt→Option Dt} (hr:ROp1 r f n) (A:DE mg E ta ma k):DE mg E (tUn r ta) (Mi.eU f ma) n:=by
  intro G H σ ρ Q s w p
  refine (zAO A).step errE s w p fun d v G1 H1 S _ fr o p1=>?_
  exact hr mg E G1 H1 d v Q fr.ext.in' o (PostE.from p1 fr.ext)
theorem zYX (A:DE mg E ta ma k) (B:DE mg E tb mb n):DE mg E (fun σ H Q=>ta σ H fun x H1=>match x with | .bl c=>if c = true then tb σ H1 Q else Q (.bl false) H1 | _=>False) (Mi.eAnd ma mb) n:=by
  intro G H σ ρ Q s w p
  refine (zAO A).step errE s w p fun d v G1 H1 S _ fr o p1=>?_
  cases d with
  | bl b =>
    cases (show v = .bl b from o)
    cases b with
    | true=>exact B G1 H1 σ ρ Q fr.ext.in' (w.mono fr.ext.g) (PostE.from p1 fr.ext)
    | false=>exact PostE.val (PostE.from p1 fr.ext) (Ext.refl fr.ext.in') rfl rfl
  | _=>exact p1.elim
theorem zYU (A:DE mg E ta ma k):DE mg E (fun σ H Q=>ta σ H fun x H1=>match x with | .bl c=>Q (.bl (!c)) H1 | _=>False) (Mi.eNot ma) n:=by
  intro G H σ ρ Q s w p
  refine (zAO A).step errE s w p fun d v G1 H1 S _ fr o p1=>?_
  cases d with
  | bl b =>
    cases (show v = .bl b from o)
    exact PostE.val (PostE.from p1 fr.ext) (Ext.refl fr.ext.in') rfl rfl
  | _=>exact p1.elim
theorem zYW {tA:TT} {c:TM} (C:DT mg E tA c) (A:DE mg E ta ma n) (B:DE mg E tb mb n):DE mg E (tIf tA ta tb) (Mi.eIf c ma mb) n:=by
  intro G H σ ρ Q s w p
  refine C.step errE s w p fun b H' _ sH p1=>?_
  have p2:=PostE.from p1 (Ext.same s sH)
  cases b with
  | true=>exact A G H' σ ρ Q (s.trans sH) w p2
  | false=>exact B G H' σ ρ Q (s.trans sH) w p2
theorem dt_b (A:DE mg E ta ma k):DT mg E (fun σ H Q=>ta σ H fun z H3=>match z with | .bl k=>Q k H3 | _=>False) (Mi.tB ma):=by
  intro G H σ ρ Q s w p
  refine (zAO A).step errT s w p fun d v G1 H1 S _ fr o p1=>?_
  cases d with
  | bl b =>
    cases (show v = .bl b from o)
    exact p1 H1 fr.ext.h
  | _=>exact p1.elim
theorem dt_m (A:DE mg E ta ma k):DT mg E (bM ta) (Mi.tM ma):=by
  intro G H σ ρ Q s w p
  refine (zAO A).step errT s w p fun d v G1 H1 S _ fr o p1=>?_
  cases d with
  | bl b=>cases (show v = .bl b from o); exact p1 H1 fr.ext.h
  | int b=>cases (show v = .int b from o); exact p1 H1 fr.ext.h
  | non=>cases (show v = .non from o); exact p1 H1 fr.ext.h
  | _=>exact p1.elim
variable {tA tB:TT} {cA cB:TM}
theorem zVU (A:DT mg E tA cA) (B:DT mg E tB cB):DT mg E (L2.tOr tA tB) (Mi.tOr cA cB):=by
  intro G H σ ρ Q s w p
  refine A.step errT s w p fun b H' _ sH p1=>?_
  cases b with
  | false=>exact B G H' σ ρ Q (s.trans sH) w (PostT.from p1 (Ext.same s sH))
  | true=>exact p1 H' sH
theorem zO1 (A:DT mg E tA cA):DT mg E (L2.tNot tA) (Mi.tNo cA):=by
  intro G H σ ρ Q s w p
  exact A.step errT s w p fun b H' _ sH p1=>p1 H' sH
theorem zFQ:DT mg E L2.tYes Mi.tYes:=fun G H σ ρ Q s w p=>p H (Same.refl _)
variable {t:TA} {m:AM}
theorem zA5:DA mg E tNil Mi.aNil n:=fun G H σ ρ Q s w p=>p [] G H (fun _=>False) (fun _ _=>False) ⟨Ext.refl s,fun _ z=>z.elim⟩ ⟨rfl,fun q d x h=>by simp at h,fun _ _ _ z=>z.elim,fun _ _ z=>z.elim⟩
theorem zA2 (A:DE mg E ta ma n) (B:DA mg E t m n):DA mg E (zD8 ta t) (Mi.aCons ma m) n:=by
  intro G H σ ρ Q s w p
  refine A.step errA s w p fun d v G1 H1 S1 _ fr o p1=>?_
  refine B.step (errA.from fr.ext) fr.ext.in' (w.mono fr.ext.g) p1 fun ds vs G2 H2 S2 T2 _ fr2 o2 p2=>?_
  refine p2 (v :: vs) G2 H2 (fun a=>S1 a∨S2 a) (fun q=>match q with | 0=>S1 | q + 1=>T2 q) ⟨fr.ext.trans fr2.ext,fun a ha=>?_⟩ ⟨by simp [o2.len],fun q d' x h1 h2=>?_,fun q r b h1 h2=>?_,fun q b h=>?_⟩
  · rcases ha with ha | ha
    · obtain ⟨n1,n2,n3⟩:=fr.new a ha
      exact ⟨n1,(fr2.ext.old a n3).trans n2,fr2.ext.h.some n3⟩
    · obtain ⟨n1,n2,n3⟩:=fr2.new a ha
      exact ⟨fr.ext.h.free n1,n2,n3⟩
  · cases q with
    | zero=>simp at h1 h2; subst h1; subst h2; exact o.mono fr2.ext.g fr2.ext.h
    | succ q=>exact o2.own q d' x (by simpa using h1) (by simpa using h2)
  · have ap:∀ r b,S1 b→T2 r b→False:=fun r b h1 h2=>(fr.new b h1).2.2 (fr2.new b (o2.sub r b h2)).1
    cases q with
    | zero =>
      cases r with
      | zero=>rfl
      | succ r=>exact (ap r b h1 h2).elim
    | succ q =>
      cases r with
      | zero=>exact (ap q b h2 h1).elim
      | succ r=>rw [o2.dis q r b h1 h2]
  · cases q with
    | zero=>exact .inl h
    | succ q=>exact .inr (o2.sub q b h)
theorem OwnA.repL {G H:Hp} {S:Addr→Prop} {ds:List Dt} {vs:List V} {T:Nat→Addr→Prop} (o:OwnA G H 0 S ds vs T):RepL G ds vs:=zE8 o.len fun q d x h1 h2=>o.own q d x h1 h2
theorem big' {n:Nat} (h:n≤100000):n≤sizeLine:=qC9 (L2.big h)
theorem Fr.add {G H G' H':Hp} {S:Addr→Prop} (f:Fr G H G' H' S) {p:Addr} (hp:H' p = none) (o:HO):Fr G H G' (upd H' p o) (fun a=>a = p∨S a):=by
  have sn:=L2.same_new hp o
  refine ⟨⟨f.ext.g,f.ext.h.trans sn,f.ext.in'.trans sn,f.ext.old⟩,fun a ha=>?_⟩
  rcases ha with rfl | ha
  · exact ⟨f.ext.h.free hp,f.ext.in'.free hp,by rw [zAH]; simp⟩
  · obtain ⟨n1,n2,n3⟩:=f.new a ha
    exact ⟨n1,n2,sn.some n3⟩
theorem OwnA.kids {G' H':Hp} {S:Addr→Prop} {ds:List Dt} {vs:List V} {T:Nat→Addr→Prop} (o:OwnA G' H' n S ds vs T) (hn:∀ a,S a→H' a≠none) {p:Addr} (hp:H' p = none) (ob:HO) :
    Kids (Own G' (upd H' p ob) n) (fun a=>a = p∨S a) p ds vs T :=
  ⟨o.len,fun q d x h1 h2=>(o.own q d x h1 h2).mono (Same.refl _) (L2.same_new hp ob),.inl rfl,fun q z=>hn p (o.sub q p z) hp,o.dis,fun q b z=>.inr (o.sub q b z)⟩
theorem zBJ (A:DA mg E t m n):DE mg E (tLst t) (Mi.eLst m) (n + 1):=by
  intro G H σ ρ Q s w p
  refine A.step errE s w p fun ds vs G1 H1 S T _ fr o p1=>?_
  by_cases hz:ds.length≤100000
  · rw [if_pos hz] at p1
    refine ⟨by rw [o.len]; exact big' hz,fun a ha=>?_⟩
    exact p1 (.ref a) G1 _ _ (fr.add ha _) ⟨a,vs,T,rfl,zAH,o.kids (fun b hb=>(fr.new b hb).2.2) ha _⟩
  · rw [if_neg hz] at p1; exact p1.elim
theorem zU6 (A:DA mg E t m n):DE mg E (tTup t) (Mi.eTup m) (n + 1):=by
  intro G H σ ρ Q s w p
  refine A.step errE s w p fun ds vs G1 H1 S T _ fr o p1=>?_
  by_cases hz:ds.length≤100000
  · rw [if_pos hz] at p1
    refine ⟨by rw [o.len]; exact big' hz,fun a ha=>?_⟩
    exact p1 (.ref a) G1 _ _ (fr.add ha _) ⟨a,vs,T,rfl,zAH,o.kids (fun b hb=>(fr.new b hb).2.2) ha _⟩
  · rw [if_neg hz] at p1; exact p1.elim
theorem PostE.lst {G H G' H':Hp} {ds:List Dt} {xs:List V} {Q:VK} (p:PostE mg E G H 1 (okR (.lst ds)) Q) (x:Ext G H G' H') (r:RepL G' ds xs) {a:Addr} (ha:H' a = none):Q (.ref a) (upd H' a (.lst xs)):=by
  have fr:Fr G H G' H' (fun _=>False):=⟨x,fun _ z=>z.elim⟩
  refine p (.ref a) G' _ _ (fr.add ha (.lst xs)) ⟨a,xs,fun _ _=>False,rfl,zAH,⟨r.length,fun q d y h1 h2=>zC3 r h1 h2,.inl rfl,fun _ z=>z,fun _ _ _ z=>z.elim,fun _ _ z=>z.elim⟩⟩
def CBi (r:List V→Hp→VK→Prop) (f:List Dt→Option Dt) (n:Nat):Prop:=∀ (mg:Str→Option Value) (E:XK) (G H:Hp) (ds:List Dt) (vs:List V) (Q:VK),Same G H→RepL G ds vs→PostE mg E G H n (optR (f ds)) Q→r vs H Q
theorem zDR {r:List V→Hp→VK→Prop} {f:List Dt→Option Dt} (hr:CBi r f n) (A:DA mg E t m 0):DE mg E (tCB r t) (Mi.eBi f m) n:=by
  intro G H σ ρ Q s w p
  refine A.step errE s w p fun ds vs G1 H1 S T _ fr o p1=>?_
  exact hr mg E G1 H1 ds vs Q fr.ext.in' o.repL (PostE.from p1 fr.ext)
noncomputable def spM (mg:Str→Option Value) (L:Nat) (f:FM):Sp:=fun vs H Q E=>∃ G ds,Same G H∧RepL G ds vs∧PostE mg E G H L (f ds) Q
theorem zAQ {f:FM} (A:DA mg E t m 0):DE mg E (zHD (spM mg n f) [] E t) (Mi.eCall f m) n:=by
  intro G H σ ρ Q s w p
  refine A.step errE s w p fun ds vs G1 H1 S T _ fr o p1=>?_
  exact ⟨G1,ds,fr.ext.in',by rw [qD8]; exact o.repL,PostE.from p1 fr.ext⟩
theorem zPT {G H:Hp} {o:Option Dt} {Q:VK} {d:Dt} {v:V} (s:Same G H) (p:PostE mg E G H n (optR o) Q) (e:o = some d) (hd:d.dep = 0) (h:Rep G d v):Q v H:=by
  subst e; exact PostE.val p (Ext.refl s) hd h
theorem zBT:ROp zUU Mi.addD 1:=by
  intro mg E G H d e x y Q s h1 h2 p
  cases d with
  | int i =>
    cases e with
    | int j=>cases (show x = .int i from h1); cases (show y = .int j from h2); exact zPT s p rfl rfl rfl
    | _=>exact p.elim
  | str i =>
    cases e with
    | str j =>
      cases (show x = .str i from h1); cases (show y = .str j from h2)
      rw [Mi.addD] at p
      by_cases hz:i.length + j.length≤100000
      · rw [if_pos hz] at p
        exact ⟨big' hz,PostE.val p (Ext.refl s) rfl rfl⟩
      · rw [if_neg hz] at p; exact p.elim
    | _=>exact p.elim
  | lst ds =>
    cases e with
    | lst es =>
      obtain ⟨a,xs,rfl,ha,ra⟩:=h1
      obtain ⟨b,ys,rfl,hb,rb⟩:=h2
      rw [Mi.addD] at p
      by_cases hz:ds.length + es.length≤100000
      · rw [if_pos hz] at p
        refine ⟨xs,ys,s _ _ ha,s _ _ hb,by rw [ra.length,rb.length]; exact big' hz,fun q hq=>?_⟩
        refine PostE.lst p (Ext.refl s) (zE8 (by simp [ra.length,rb.length]) fun j d' x' e1 e2=>?_) hq
        by_cases hj:j < ds.length
        · rw [qA7 hj] at e1
          rw [qA7 (by rw [ra.length]; exact hj)] at e2
          exact zC3 ra e1 e2
        · rw [qA6 (by omega)] at e1
          rw [qA6 (by rw [ra.length]; omega),ra.length] at e2
          exact zC3 rb e1 e2
      · rw [if_neg hz] at p; exact p.elim
    | _=>exact p.elim
  | _=>exact p.elim
theorem zX0:ROp zX5 Mi.subD n:=by
  intro mg E G H d e x y Q s h1 h2 p
  cases d with
  | int i =>
    cases e with
    | int j=>cases (show x = .int i from h1); cases (show y = .int j from h2); exact zPT s p rfl rfl rfl
    | _=>exact p.elim
  | _=>exact p.elim
theorem zCQ:ROp zXA Mi.mulD n:=by
  intro mg E G H d e x y Q s h1 h2 p
  cases d with
  | int i =>
    cases e with
    | int j =>
      cases (show x = .int i from h1); cases (show y = .int j from h2)
      rw [Mi.mulD] at p
      split at p
      · rename_i hz; exact ⟨hz,PostE.val p (Ext.refl s) rfl rfl⟩
      · exact p.elim
    | _=>exact p.elim
  | _=>exact p.elim
theorem zHP:ROp zXD Mi.divD n:=by
  intro mg E G H d e x y Q s h1 h2 p
  cases d with
  | int i =>
    cases e with
    | int j =>
      cases (show x = .int i from h1); cases (show y = .int j from h2)
      rw [Mi.divD] at p
      split at p
      · rename_i hz; exact ⟨hz,PostE.val p (Ext.refl s) rfl rfl⟩
      · exact p.elim
    | _=>exact p.elim
  | _=>exact p.elim
theorem zDJ:ROp zXB Mi.modD n:=by
  intro mg E G H d e x y Q s h1 h2 p
  cases d with
  | int i =>
    cases e with
    | int j =>
      cases (show x = .int i from h1); cases (show y = .int j from h2)
      rw [Mi.modD] at p
      split at p
      · rename_i hz; exact ⟨hz,PostE.val p (Ext.refl s) rfl rfl⟩
      · exact p.elim
    | _=>exact p.elim
  | _=>exact p.elim
theorem zTI:ROp1 zX9 Mi.negD n:=by
  intro mg E G H d x Q s h1 p
  cases d with
  | int i=>cases (show x = .int i from h1); exact zPT s p rfl rfl rfl
  | _=>exact p.elim
theorem zN7 {q:Int→Int→Bool}:ROp (zUS q) (Mi.cmpD q) n:=by
  intro mg E G H d e x y Q s h1 h2 p
  cases d with
  | int i =>
    cases e with
    | int j=>cases (show x = .int i from h1); cases (show y = .int j from h2); exact zPT s p rfl rfl rfl
    | _=>exact p.elim
  | _=>exact p.elim
theorem zU1 {G H:Hp} {d e:Dt} {x y:V} {Q:VK} {ng:Bool} (s:Same G H) (h1:Rep G d x) (h2:Rep G e y) (hd:d.dep≤40) (he:e.dep≤40) (q:Q (.bl (if ng then !Dt.eq d e else Dt.eq d e)) H) :
    ∃ d' e',L2.Rep H d' x∧L2.Rep H e' y∧d'.dep≤40∧Q (.bl (if ng then !L2.Dat.eq d' e' else L2.Dat.eq d' e')) H :=
  ⟨conv d,conv e,zDV hd (Rep.mono s h1),zDV he (Rep.mono s h2),qAq (zF4 hd) hd,by rw [zMS hd he]; exact q⟩
theorem zFN {α:Type} [DecidableEq α] (a b:α):(a == b) = decide (a = b):=by
  by_cases h:a = b
  · subst h; simp
  · simp [h]
theorem zII {G:Hp} {d:Dt} {i:Int} (h:Rep G d (.int i)):d = .int i:=by
  cases d with
  | int k=>cases h; rfl
  | non=>cases h
  | bl _=>cases h
  | str _=>cases h
  | lst _=>obtain ⟨_,_,z,_⟩:=h; cases z
  | tup _=>obtain ⟨_,_,z,_⟩:=h; cases z
  | scr _=>obtain ⟨_,z,_⟩:=h; cases z
  | exc _ _ _=>obtain ⟨_,_,_,z,_⟩:=h; cases z
  | ins _ _=>obtain ⟨_,_,_,z,_⟩:=h; cases z
  | dct _=>obtain ⟨_,z,_⟩:=h; cases z
theorem zIH {G:Hp} {d:Dt} {i:Str} (h:Rep G d (.str i)):d = .str i:=by
  cases d with
  | str k=>cases h; rfl
  | non=>cases h
  | bl _=>cases h
  | int _=>cases h
  | lst _=>obtain ⟨_,_,z,_⟩:=h; cases z
  | tup _=>obtain ⟨_,_,z,_⟩:=h; cases z
  | scr _=>obtain ⟨_,z,_⟩:=h; cases z
  | exc _ _ _=>obtain ⟨_,_,_,z,_⟩:=h; cases z
  | ins _ _=>obtain ⟨_,_,_,z,_⟩:=h; cases z
  | dct _=>obtain ⟨_,z,_⟩:=h; cases z
theorem zN9 {G:Hp} {d:Dt} {i:Bool} (h:Rep G d (.bl i)):d = .bl i:=by
  cases d with
  | bl k=>cases h; rfl
  | non=>cases h
  | str _=>cases h
  | int _=>cases h
  | lst _=>obtain ⟨_,_,z,_⟩:=h; cases z
  | tup _=>obtain ⟨_,_,z,_⟩:=h; cases z
  | scr _=>obtain ⟨_,z,_⟩:=h; cases z
  | exc _ _ _=>obtain ⟨_,_,_,z,_⟩:=h; cases z
  | ins _ _=>obtain ⟨_,_,_,z,_⟩:=h; cases z
  | dct _=>obtain ⟨_,z,_⟩:=h; cases z
theorem zM5:ROp rEqU Mi.eqD n:=by
  intro mg E G H d e x y Q s h1 h2 p
  unfold Mi.eqD at p
  split at p
  · rename_i hz
    have q:Q (.bl (Dt.eq d e)) H:=PostE.val p (Ext.refl s) rfl rfl
    have g:=zU1 (ng:=false) (Q:=Q) s h1 h2 hz.1 hz.2 q
    unfold rEqU
    split
    · rw [zII h1,zII h2,Dt.eq,zFN] at q; exact q
    · rw [zIH h1,zIH h2,Dt.eq,zFN] at q; exact q
    · rw [zN9 h1,zN9 h2,Dt.eq,zFN] at q; exact q
    · exact g
  · exact p.elim
theorem zPR:ROp rNeU Mi.neD n:=by
  intro mg E G H d e x y Q s h1 h2 p
  unfold Mi.neD at p
  split at p
  · rename_i hz
    have q:Q (.bl (!Dt.eq d e)) H:=PostE.val p (Ext.refl s) rfl rfl
    have g:=zU1 (ng:=true) (Q:=Q) s h1 h2 hz.1 hz.2 q
    unfold rNeU
    split
    · rw [zII h1,zII h2,Dt.eq,zFN] at q; exact q
    · rw [zIH h1,zIH h2,Dt.eq,zFN] at q; exact q
    · rw [zN9 h1,zN9 h2,Dt.eq,zFN] at q; exact q
    · exact g
  · exact p.elim
theorem zTP (n:Nat) (i:Int):Mi.ixA n i = ixN n i:=rfl
theorem zTT {α:Type} (xs:List α) (i:Int):Mi.itA xs i = atI xs i:=rfl
theorem zU8 {G:Hp} {ds:List Dt} {xs:List V} {i:Int} {d:Dt} (r:RepL G ds xs) (h:Mi.itA ds i = some d):∃ x,atI xs i = some x∧Rep G d x:=by
  rw [zTT] at h
  unfold atI at h ⊢
  rw [r.length]
  cases e:ixN ds.length i with
  | none=>rw [e] at h; cases h
  | some j =>
    rw [e] at h
    have h':ds[j]? = some d:=h
    have hj:j < xs.length:=by rw [r.length]; exact (qA1.mp h').1
    exact ⟨xs[j],by simp [hj],zC3 r h' (by simp [hj])⟩
theorem zCH:ROp (rIxU Kc.K) Mi.ixD 0:=by
  intro mg E G H d e x y Q s h1 h2 p
  cases e with
  | int i =>
    cases (show y = .int i from h2)
    cases d with
    | lst ds =>
      obtain ⟨a,xs,rfl,ha,ra⟩:=h1
      cases er:Mi.itA ds i with
      | none=>rw [Mi.ixD,er] at p; exact p.elim
      | some c =>
        rw [Mi.ixD,er] at p
        obtain ⟨v,e1,r1⟩:=zU8 ra er
        exact ⟨xs,v,.inl (SqL.of (s _ _ ha)),e1,PostE.kept p (Ext.refl s) r1⟩
    | tup ds =>
      obtain ⟨a,xs,rfl,ha,ra⟩:=h1
      cases er:Mi.itA ds i with
      | none=>rw [Mi.ixD,er] at p; exact p.elim
      | some c =>
        rw [Mi.ixD,er] at p
        obtain ⟨v,e1,r1⟩:=zU8 ra er
        exact ⟨xs,v,.inr (SqT.of (s _ _ ha)),e1,PostE.kept p (Ext.refl s) r1⟩
    | scr ns =>
      obtain ⟨a,rfl,ha⟩:=h1
      cases er:Mi.itA ns i with
      | none=>rw [Mi.ixD,er] at p; exact p.elim
      | some c =>
        rw [Mi.ixD,er] at p
        refine ⟨ns.map V.int,.int c,zEN s ha,?_,PostE.kept p (Ext.refl s) rfl⟩
        rw [zTT] at er
        unfold atI at er ⊢
        rw [qAj]
        cases e:ixN ns.length i with
        | none=>rw [e] at er; cases er
        | some j =>
          rw [e] at er
          have er':ns[j]? = some c:=er
          show (ns.map V.int)[j]? = some (.int c)
          rw [qAd,er']; rfl
    | str z =>
      cases (show x = .str z from h1)
      rw [Mi.ixD] at p
      by_cases hz:z.length≤100000
      · rw [if_pos hz] at p
        cases er:Mi.itA z.cps.toList i with
        | none=>rw [er] at p; exact p.elim
        | some c=>rw [er] at p; exact ⟨c,big' hz,er,PostE.kept p (Ext.refl s) rfl⟩
      · rw [if_neg hz] at p; exact p.elim
    | _=>exact p.elim
  | _=>cases d <;> exact p.elim
theorem zD9 {G:Hp} {d:Dt} {vs:List V} (h:RepL G [d] vs):∃ x,vs = [x]∧Rep G d x:=by
  obtain ⟨x,q,rfl,a,b⟩:=h
  cases (show q = [] from b)
  exact ⟨x,rfl,a⟩
theorem zZL {G:Hp} {d e:Dt} {vs:List V} (h:RepL G [d,e] vs):∃ x y,vs = [x,y]∧Rep G d x∧Rep G e y:=by
  obtain ⟨x,q,rfl,a,b⟩:=h
  obtain ⟨y,rfl,c⟩:=zD9 b
  exact ⟨x,y,rfl,a,c⟩
theorem zCV:CBi (zUP Kc.K) Mi.lenD n:=by
  intro mg E G H ds vs Q s h p
  cases ds with
  | nil=>exact p.elim
  | cons a0 r0 =>
    cases r0 with
    | cons _ _=>cases a0 <;> exact p.elim
    | nil =>
      cases a0 with
      | lst es =>
        obtain ⟨x,rfl,a,xs,rfl,ha,ra⟩:=zD9 h
        exact ⟨xs,.inl (SqL.of (s _ _ ha)),by rw [ra.length]; exact PostE.val p (Ext.refl s) rfl rfl⟩
      | tup es =>
        obtain ⟨x,rfl,a,xs,rfl,ha,ra⟩:=zD9 h
        exact ⟨xs,.inr (SqT.of (s _ _ ha)),by rw [ra.length]; exact PostE.val p (Ext.refl s) rfl rfl⟩
      | scr ns =>
        obtain ⟨x,rfl,a,rfl,ha⟩:=zD9 h
        refine ⟨ns.map V.int,zEN s ha,?_⟩
        rw [qAj]
        exact PostE.val p (Ext.refl s) rfl rfl
      | str z =>
        obtain ⟨x,rfl,hx⟩:=zD9 h
        cases (show x = .str z from hx)
        rw [Mi.lenD] at p
        by_cases hz:z.length≤100000
        · rw [if_pos hz] at p
          exact ⟨big' hz,PostE.val p (Ext.refl s) rfl rfl⟩
        · rw [if_neg hz] at p; exact p.elim
      | _=>exact p.elim
theorem zD0 {G:Hp}:∀ (ns:List Int),RepL G (ns.map Dt.int) (ns.map V.int)
  | []=>rfl
  | _ :: r=>⟨_,_,rfl,rfl,zD0 r⟩
theorem zW5:CBi (zND Kc.K) Mi.listD 1:=by
  intro mg E G H ds vs Q s h p
  cases ds with
  | nil=>exact p.elim
  | cons a0 r0 =>
    cases r0 with
    | cons _ _=>cases a0 <;> exact p.elim
    | nil =>
      cases a0 with
      | lst es =>
        obtain ⟨x,rfl,a,xs,rfl,ha,ra⟩:=zD9 h
        exact .inl ⟨xs,.inl (SqL.of (s _ _ ha)),fun l hl=>PostE.lst p (Ext.refl s) ra hl⟩
      | tup es =>
        obtain ⟨x,rfl,a,xs,rfl,ha,ra⟩:=zD9 h
        exact .inl ⟨xs,.inr (SqT.of (s _ _ ha)),fun l hl=>PostE.lst p (Ext.refl s) ra hl⟩
      | scr ns =>
        obtain ⟨x,rfl,a,rfl,ha⟩:=zD9 h
        exact .inl ⟨ns.map V.int,zEN s ha,fun l hl=>PostE.lst p (Ext.refl s) (zD0 ns) hl⟩
      | _=>exact p.elim
theorem zZG {G H:Hp} {d:Dt} {x:V} (s:Same G H) (h:Rep G d x) (hd:Mi.tyD d≠""):zGE H x = some (Mi.tyD d):=by
  cases d with
  | non=>cases h; rfl
  | bl _=>cases h; rfl
  | int _=>cases h; rfl
  | str _=>cases h; rfl
  | lst _=>obtain ⟨a,xs,rfl,ha,_⟩:=h; unfold zGE; dsimp only; rw [s _ _ ha]; rfl
  | tup _=>obtain ⟨a,xs,rfl,ha,_⟩:=h; unfold zGE; dsimp only; rw [s _ _ ha]; rfl
  | scr _=>exact absurd rfl hd
  | exc _ _ _=>exact absurd rfl hd
  | ins _ _=>exact absurd rfl hd
  | dct _=>exact absurd rfl hd
theorem zO4 {nm:String} (hn:nm∈["int","bool","str","list","tuple","dict"]) (A:DE mg E ta ma k):DE mg E (tCB zXC (zD8 ta (zD8 (tC (.ty nm)) tNil))) (Mi.eIsi nm ma) n:=by
  intro G H σ ρ Q s w p
  refine (zAO A).step errE s w p fun d v G1 H1 S _ fr o p1=>?_
  have p2:=PostE.from p1 fr.ext
  unfold Mi.isiD at p2
  split at p2
  · exact p2.elim
  · rename_i hd
    exact ⟨Mi.tyD d,zZG fr.ext.in' o hd,hn,PostE.val p2 (Ext.refl fr.ext.in') rfl rfl⟩
theorem zLF {G:Hp}:∀ {ds:List Dt} {bs:List Bool} {xs:List V},Mi.boolsD ds = some bs→RepL G ds xs→xs = bs.map V.bl
  | [],bs,xs,h,r=>by cases h; exact r
  | .bl b :: ds,bs,xs,h,r=>by
    obtain ⟨x,q,rfl,a,c⟩:=r
    rw [Mi.boolsD] at h
    cases e:Mi.boolsD ds with
    | none=>rw [e] at h; cases h
    | some cs =>
      rw [e] at h
      cases h
      rw [zLF e c,show x = .bl b from a]
      rfl
  | .non :: _,_,_,h,_=>by simp [Mi.boolsD] at h
  | .int _ :: _,_,_,h,_=>by simp [Mi.boolsD] at h
  | .str _ :: _,_,_,h,_=>by simp [Mi.boolsD] at h
  | .lst _ :: _,_,_,h,_=>by simp [Mi.boolsD] at h
  | .tup _ :: _,_,_,h,_=>by simp [Mi.boolsD] at h
  | .scr _ :: _,_,_,h,_=>by simp [Mi.boolsD] at h
  | .exc _ _ _ :: _,_,_,h,_=>by simp [Mi.boolsD] at h
  | .ins _ _ :: _,_,_,h,_=>by simp [Mi.boolsD] at h
  | .dct _ :: _,_,_,h,_=>by simp [Mi.boolsD] at h
theorem zZ0:CBi zXE Mi.allD n:=by
  intro mg E G H ds vs Q s h p
  cases ds with
  | nil=>exact qA5 p
  | cons hd1 tl1 =>
    cases hd1 with
    | lst es =>
      cases tl1 with
      | nil =>
        obtain ⟨x,rfl,a,xs,rfl,ha,ra⟩:=zD9 h
        rw [Mi.allD] at p
        cases e:Mi.boolsD es with
        | none=>rw [e] at p; exact p.elim
        | some bs =>
          rw [e] at p
          exact ⟨bs,by rw [← zLF e ra]; exact s _ _ ha,PostE.val p (Ext.refl s) rfl rfl⟩
      | cons _ _=>exact qA5 p
    | _=>exact qA5 p
end
end L3
namespace L3
open PySem PySem.Spec
open L2 hiding Rep RepL
open Mi (Dt Xn R okR zA3 optR zA0 zA9 zAC zA8 zAB Rh Sl Ro EM TM AM FM IM SM Tg Out zAU zAS zAZ full frz frz1 frzAt)
variable [Kc]
def ItOk (J:It) (G:Hp) (ds:List Dt):Prop:=∀ (i:Nat) (G1 H1:Hp),Same G G1→Same G1 H1→(i < ds.length→J.go i H1)∧(ds.length≤i→J.stop i H1)∧∀ x H2 d,ds[i]? = some d→J.yld i H1 x H2→∃ G2,Ext G1 H1 G2 H2∧Rep G2 d x
noncomputable def zRS (ind:Bool) (G:Hp):Hp:=if ind = true then (fun _=>none) else G
def zZ2 (mg:Str→Option Value) (E:XK) (G H:Hp) (ind:Bool) (r:R (List Dt)) (Q:It→Hp→Prop):Prop:=match r with
  | none=>False
  | some (.error x)=>∀ c da G' H',Ext G H G' H'→XRep mg x c da G' H'→E c da H'
  | some (.ok ds)=>∀ J G' H',Ext G H G' H'→ItOk J (zRS ind G') ds→Q J H'
def DI (mg:Str→Option Value) (E:XK) (t:TI) (m:IM) (ind:Bool):Prop:=∀ (G H:Hp) (σ:St) (ρ:Rh) (Q:It→Hp→Prop),Same G H→View G σ ρ→zZ2 mg E G H ind (m ρ) Q→t σ H Q
section
variable {mg:Str→Option Value} {E:XK} {n k l:Nat} {ta te:TE} {ma me:EM} {t:TA} {m:AM} {ind:Bool}
theorem errI {G H:Hp} {Q:It→Hp→Prop}:Err mg E G H (fun r=>zZ2 mg E G H ind r Q):=⟨fun h=>h,fun _ h=>h⟩
theorem errB {G H:Hp} {α β:Type} {P:R β→Prop} (e:Err mg E G H P) (g:α→R β):Err mg E G H (fun r=>P (zA3 r g)):=⟨fun h=>e.no h,fun x h=>e.er x h⟩
theorem DI.step {β:Type} {t:TI} {m:IM} (D:DI mg E t m ind) {G H:Hp} {σ:St} {ρ:Rh} {Q:It→Hp→Prop} {P:R β→Prop} {f:List Dt→R β} (hE:Err mg E G H P) (s:Same G H) (w:View G σ ρ) (p:P (zA3 (m ρ) f))
    (h:∀ ds J G' H',m ρ = okR ds→Ext G H G' H'→ItOk J (zRS ind G') ds→P (f ds)→Q J H'):t σ H Q:=by
  refine D G H σ ρ Q s w ?_
  cases e:m ρ with
  | none=>rw [e] at p; exact hE.no p
  | some r =>
    rw [e] at p
    cases r with
    | error x=>exact hE.er x p
    | ok ds=>exact fun J G' H' x i=>h ds J G' H' e x i p
theorem zTR {K:qA2} {G:Hp} {a:Addr} {xs:List V} {ds:List Dt} (ha:SqL K G a xs) (r:RepL G ds xs):ItOk (Itl K a) G ds:=by
  intro i G1 H1 s1 s2
  have hS:SqL K H1 a xs:=(s1.trans s2).seq ha
  refine ⟨fun hi=>⟨xs,xs[i]'(by rw [r.length]; exact hi),hS,by simp⟩,fun hi=>⟨xs,hS,by rw [r.length]; exact hi⟩,fun x H2 d hd hy=>?_⟩
  obtain ⟨rfl,hy⟩:=hy
  exact ⟨G1,Ext.refl s2,Rep.mono s1 (zC3 r hd (hy xs hS))⟩
theorem zTQ {K:qA2} {G:Hp} {a:Addr} {xs:List V} {ds:List Dt} (ha:SqT K G a xs) (r:RepL G ds xs):ItOk (Itt K a) G ds:=by
  intro i G1 H1 s1 s2
  have hS:SqT K H1 a xs:=zGG (s1.trans s2) ha
  refine ⟨fun hi=>⟨xs,xs[i]'(by rw [r.length]; exact hi),hS,by simp⟩,fun hi=>⟨xs,hS,by rw [r.length]; exact hi⟩,fun x H2 d hd hy=>?_⟩
  obtain ⟨rfl,hy⟩:=hy
  exact ⟨G1,Ext.refl s2,Rep.mono s1 (zC3 r hd (hy xs hS))⟩
theorem zYC {G:Hp} (lo:Int) (k:Nat):ItOk (Itr lo k) G (Mi.nums lo k):=by
  intro i G1 H1 s1 s2
  have hl:(Mi.nums lo k).length = k:=by simp [Mi.nums]
  refine ⟨fun hi=>by rw [hl] at hi; exact hi,fun hi=>by rw [hl] at hi; exact hi,fun x H2 d hd hy=>?_⟩
  obtain ⟨rfl,rfl⟩:=hy
  refine ⟨G1,Ext.refl s2,?_⟩
  unfold Mi.nums at hd
  rw [qAd] at hd
  cases e:(qA9 k)[i]? with
  | none=>rw [e] at hd; cases hd
  | some j =>
    rw [e] at hd
    cases hd
    have hj:j = i:=by
      obtain ⟨h1,h2⟩:=qA1.mp e
      rw [qCp] at h2; exact h2.symm
    subst hj
    rfl
theorem zJC (A:DA mg E t m 0):DI mg E (zYH t) (Mi.iR1 m) true:=by
  intro G H σ ρ Q s w p
  refine A.step errI s w p fun ds vs G1 H1 S T _ fr o p1=>?_
  have r:=o.repL
  cases ds with
  | nil=>exact qA5 p1
  | cons hd1 tl1 =>
    cases hd1 with
    | int j =>
      cases tl1 with
      | nil =>
        obtain ⟨x,rfl,hx⟩:=zD9 r
        cases (show x = .int j from hx)
        dsimp only at p1
        split at p1
        · rename_i hz
          exact ⟨j,rfl,by omega,by omega,p1 _ G1 H1 fr.ext (zYC 0 _)⟩
        · exact p1.elim
      | cons _ _=>exact qA5 p1
    | _=>exact qA5 p1
theorem zH4:∀ (ds:List Dt) (n:Nat),(Mi.enumD n ds).length = ds.length
  | [],_=>rfl
  | _ :: r,n=>by rw [Mi.enumD,qAu,qAu,zH4 r]
theorem zH5:∀ (ds:List Dt) (n i:Nat) (d:Dt),(Mi.enumD n ds)[i]? = some d→∃ e,ds[i]? = some e∧d = .tup [.int ((n + i:Nat):Int),e]
  | [],_,_,_,h=>by simp [Mi.enumD] at h
  | x :: r,n,0,d,h=>by simp [Mi.enumD] at h; exact ⟨x,by simp,by rw [← h]; rfl⟩
  | x :: r,n,i + 1,d,h=>by
    rw [Mi.enumD] at h
    obtain ⟨e,h1,h2⟩:=zH5 r (n + 1) i d (by simpa using h)
    exact ⟨e,by simpa using h1,by rw [h2,show n + 1 + i = n + (i + 1) by omega]⟩
theorem Ext.new {G H:Hp} (s:Same G H) {T:Addr} (hT:H T = none) (o:HO):Ext G H (upd G T o) (upd H T o):=by
  refine ⟨L2.same_new (s.free hT) o,L2.same_new hT o,fun b u e=>?_,fun b hb=>zAK fun z=>hb (z ▸ hT)⟩
  by_cases z:b = T
  · subst z; rw [zAH] at e ⊢; exact e
  · rw [zAK z] at e ⊢; exact s _ _ e
theorem zTS {K:qA2} {G:Hp} {a:Addr} {xs:List V} {ds:List Dt} (ha:G a = some (.lst xs)) (r:RepL G ds xs):ItOk (Ite K a) G (Mi.enumD 0 ds):=by
  intro i G1 H1 s1 s2
  have hS:SqL K H1 a xs:=SqL.of (s2 _ _ (s1 _ _ ha))
  rw [zH4]
  refine ⟨fun hi=>⟨xs,xs[i]'(by rw [r.length]; exact hi),hS,by simp⟩,fun hi=>⟨xs,hS,by rw [r.length]; exact hi⟩,fun x H2 d hd hy=>?_⟩
  obtain ⟨T,y,rfl,hT,rfl,hy⟩:=hy
  obtain ⟨e,h1,rfl⟩:=zH5 ds 0 i d hd
  have x1:=Ext.new s2 hT (.tup [.int i,y])
  refine ⟨_,x1,T,_,rfl,zAH,_,_,rfl,?_,_,_,rfl,Rep.mono (s1.trans x1.g) (zC3 r h1 (hy xs hS)),rfl⟩
  show V.int (i:Int) = .int ((0 + i:Nat):Int)
  rw [qBt]
theorem zT5 {K:qA2} (A:DA mg E t m 0):DI mg E (zVS K t) (Mi.iEn m) false:=by
  intro G H σ ρ Q s w p
  refine A.step errI s w p fun ds vs G1 H1 S T _ fr o p1=>?_
  have r:=o.repL
  cases ds with
  | nil=>exact qA5 p1
  | cons hd1 tl1 =>
    cases hd1 with
    | lst es =>
      cases tl1 with
      | nil =>
        obtain ⟨x,rfl,a,xs,rfl,ha,ra⟩:=zD9 r
        exact ⟨⟨xs,SqL.of (fr.ext.in' _ _ ha)⟩,p1 _ G1 H1 fr.ext (zTS ha ra)⟩
      | cons _ _=>exact qA5 p1
    | _=>exact qA5 p1
noncomputable def zGF:St→List (Nat × V)→St
  | σ,[]=>σ
  | σ,(i,v) :: r=>zGF (σ.set i (some v)) r
inductive BsRep (G:Hp):List (Nat × Dt)→List (Nat × V)→Prop
  | nil:BsRep G [] []
  | cons {i d v bs ws}:Rep G d v→BsRep G bs ws→BsRep G ((i,d) :: bs) ((i,v) :: ws)
theorem View.set {G:Hp} {σ:St} {ρ:Rh} {i:Nat} {d:Dt} {v:V} (w:View G σ ρ) (r:Rep G d v):View G (σ.set i (some v)) (ρ.set i (some d)):=by
  refine ⟨by simp [w.len],fun j e h=>?_⟩
  have hj:j < ρ.length:=by
    have:=(qA1.mp h).1
    simpa using this
  by_cases z:i = j
  · subst z
    rw [qAf hj] at h
    cases h
    exact ⟨v,qAf (by rw [← w.len]; exact hj),r⟩
  · rw [qAh z] at h
    obtain ⟨u,h1,h2⟩:=w.at j e h
    exact ⟨u,by rw [qAh z]; exact h1,h2⟩
theorem View.sets {G:Hp} {bs ws} (h:BsRep G bs ws):∀ {σ:St} {ρ:Rh},View G σ ρ→View G (zGF σ ws) (zAS ρ bs):=by
  induction h with
  | nil=>exact fun w=>w
  | cons r _ ih=>exact fun w=>ih (w.set r)
def TgOk (g:TG) (tg:Tg):Prop:=∀ (G H:Hp) (σ:St) (d:Dt) (x:V) (bs:List (Nat × Dt)) (Q:St→Hp→Prop),Same G H→Rep G d x→zAU tg d = some bs→(∀ ws,BsRep G bs ws→Q (zGF σ ws) H)→g x σ H Q
def zTA (g:TGs) (is:List Nat):Prop:=∀ (G H:Hp) (σ:St) (ds:List Dt) (xs:List V) (Q:St→Hp→Prop),RepL G ds xs→ds.length = is.length→(∀ ws,BsRep G (is.zip ds) ws→Q (zGF σ ws) H)→g xs σ H Q
theorem zC2 (i:Nat):TgOk (zEE i) (.one i):=by
  intro G H σ d x bs Q s r e h
  cases e
  exact h [(i,x)] (.cons r .nil)
theorem zD7:zTA gNil []:=by
  intro G H σ ds xs Q r hl h
  cases ds with
  | nil=>cases (show xs = [] from r); exact ⟨rfl,h [] .nil⟩
  | cons _ _=>simp at hl
theorem zAX (i:Nat) {g:TGs} {is:List Nat} (hg:zTA g is):zTA (zYI (zEE i) g) (i :: is):=by
  intro G H σ ds xs Q r hl h
  cases ds with
  | nil=>simp at hl
  | cons d ds =>
    obtain ⟨x,q,rfl,a,b⟩:=r
    exact ⟨x,q,rfl,hg G H _ ds q Q b (by simpa using hl) fun ws hw=>h ((i,x) :: ws) (.cons a hw)⟩
theorem zEJ {K:qA2} {g:TGs} {is:List Nat} {k:Nat} (hg:zTA g is) (hk:is.length = k):TgOk (gTup K k g) (.tup is):=by
  intro G H σ d x bs Q s r e h
  cases d with
  | tup ds =>
    obtain ⟨a,xs,rfl,ha,ra⟩:=r
    rw [zAU] at e
    by_cases hz:ds.length = is.length
    · rw [if_pos hz] at e
      cases e
      exact ⟨a,xs,rfl,SqT.of (s _ _ ha),by rw [ra.length,hz,hk],hg G H σ ds xs Q ra hz h⟩
    · rw [if_neg hz] at e; cases e
  | _=>simp [zAU] at e
theorem zK7:∀ (ws:List (Nat × V)) (σ own:St),(∀ p∈ws,σ.length≤p.1)→∃ own':St,own'.length = own.length∧zGF (σ ++ own) ws = σ ++ own'
  | [],σ,own,_=>⟨own,rfl,rfl⟩
  | (i,v) :: r,σ,own,h=>by
    have hi:σ.length≤i:=h (i,v) (by simp)
    rw [zGF,qF8 _ _ hi]
    obtain ⟨o,h1,h2⟩:=zK7 r σ (own.set (i - σ.length) (some v)) fun p hp=>h p (by simp [hp])
    exact ⟨o,by rw [h1,qEb],h2⟩
theorem BsRep.idx {G:Hp} {bs ws} (h:BsRep G bs ws):ws.map (·.1) = bs.map (·.1):=by
  induction h with
  | nil=>rfl
  | cons _ _ ih=>simp [ih]
theorem zRR {tg:Tg} {d:Dt} {bs:List (Nat × Dt)} (h:zAU tg d = some bs):∀ i∈bs.map (·.1),i∈tg.idx:=by
  cases tg with
  | one i=>cases h; simp [Tg.idx]
  | tup is =>
    cases d with
    | tup ds =>
      rw [zAU] at h
      split at h
      · cases h
        intro i hi
        obtain ⟨p,hp,e⟩:=qAv.mp hi
        rw [← e]
        obtain ⟨a,b⟩:=p
        exact (qEa hp).1
      · cases h
    | _=>simp [zAU] at h
theorem zBS {wi:TI} {g:TG} {tif:TT} {it:IM} {tg:Tg} {c:TM} (I:DI mg E wi it ind) (hT:TgOk g tg) (C:DT mg E tif c) (B:DE mg E te me n):DE mg E (zUG wi k g tif te) (Mi.eComp it k tg c me) (n + 1):=by
  intro G H σ ρ Q s w p
  refine I.step errE s w p fun ds J G1 H1 _ x1 io p1=>?_
  by_cases hz:ds.length≤100000∧(tg.idx.all fun i=>decide (ρ.length≤i)) = true
  case neg=>rw [if_neg hz] at p1; exact p1.elim
  rw [if_pos hz] at p1
  obtain ⟨hz,hix⟩:=hz
  have hb1:Same (zRS ind G1) G1:=by
    unfold zRS
    split
    · exact fun b o e=>by cases e
    · exact Same.refl _
  refine ⟨fun i m acc H'=>m = ds.length - i∧i≤ds.length∧∃ G' as S T,Fr G H G' H' S∧Same G1 G'∧OwnA G' H' n S as acc T∧as.length≤i∧PostE mg E G H (n + 1) (zA3 (Mi.compGo ρ k tg c me (ds.drop i) as) fun es=>okR (.lst es)) Q,
    ⟨_,rfl,qAs _,G1,[],fun _=>False,fun _ _=>False,⟨x1,fun _ z=>z.elim⟩,Same.refl _,⟨rfl,fun q d x h=>by simp at h,fun _ _ _ z=>z.elim,fun _ _ z=>z.elim⟩,qAa _,by rw [qFh]; exact p1⟩,?_⟩
  rintro i m acc H' ⟨rfl,hi,G',as,S,T,fr,sg,o,hl,p⟩
  obtain ⟨j1,j2,j3⟩:=io i G' H' (hb1.trans sg) fr.ext.in'
  by_cases hlt:i < ds.length
  · refine .inr ⟨j1 hlt,by rw [o.len]; exact L2.big (by omega),fun acc' H''=>ds.length - (i + 1) = ds.length - (i + 1)∧i + 1≤ds.length∧∃ G' as S T,Fr G H G' H'' S∧Same G1 G'∧OwnA G' H'' n S as acc' T∧as.length≤i + 1∧PostE mg E G H (n + 1) (zA3 (Mi.compGo ρ k tg c me (ds.drop (i + 1)) as) fun es=>okR (.lst es)) Q,
      fun acc' H'' q=>⟨ds.length - (i + 1),by omega,q⟩,fun x H2 hy=>?_⟩
    have hd:ds[i]? = some ds[i]:=qA3 hlt
    obtain ⟨G2,x2,r2⟩:=j3 x H2 ds[i] hd hy
    rw [qAx hlt,Mi.compGo] at p
    cases eb:zAU tg ds[i] with
    | none=>rw [eb] at p; exact p.elim
    | some bs =>
      rw [eb] at p
      dsimp only at p
      refine hT G2 H2 _ _ x bs _ x2.in' r2 eb fun ws hb=>?_
      have hsl:∀ q∈ws,σ.length≤q.1:=fun q hq=>by
        have h1:q.1∈bs.map (·.1):=by rw [← hb.idx]; exact List.mem_map_of_mem hq
        have h2:=qEv.mp hix q.1 (zRR eb q.1 h1)
        rw [← w.len]; exact of_decide_eq_true h2
      obtain ⟨own,ho1,ho2⟩:=zK7 ws σ (qA8 k none) hsl
      refine ⟨own,by rw [ho1,qCa],ho2,?_⟩
      have x02:=fr.ext.trans x2
      have w2:View G2 (zGF (σ ++ qA8 k none) ws) (zAS (ρ ++ qA8 k none) bs):=by
        refine View.sets hb ⟨by simp [w.len],fun j d h=>?_⟩
        by_cases hj:j < ρ.length
        · rw [qA7 hj] at h
          obtain ⟨v,a,b⟩:=w.at j d h
          exact ⟨v,by rw [qA7 (by rw [← w.len]; exact hj)]; exact a,Rep.mono x02.g b⟩
        · rw [qA6 (by omega),qBy] at h
          split at h <;> cases h
      refine C.step ((errB errE _).from x02) x2.in' w2 p fun b H3 _ s3 p3=>?_
      have x3:Ext G2 H2 G2 H3:=Ext.same x2.in' s3
      have x03:=x02.trans x3
      have newS:∀ a,S a→H a = none∧G2 a = none∧H3 a≠none:=fun a ha=>by
        obtain ⟨n1,n2,n3⟩:=fr.new a ha
        exact ⟨n1,(x2.old a n3).trans n2,s3.some (x2.h.some n3)⟩
      have own3:OwnA G2 H3 n S as acc T:=⟨o.len,fun q d y h1 h2=>(o.own q d y h1 h2).mono x2.g (x2.h.trans s3),o.dis,o.sub⟩
      cases b with
      | false=>exact ⟨rfl,hlt,G2,as,S,T,⟨x03,newS⟩,sg.trans x2.g,own3,by omega,p3⟩
      | true =>
        refine B.step ((errB errE _).from x03) x3.in' w2 p3 fun e v G4 H4 S4 _ fr4 o4 p4=>?_
        have ap:∀ q b,T q b→S4 b→False:=fun q b h1 h2=>(newS b (o.sub q b h1)).2.2 (fr4.new b h2).1
        refine ⟨rfl,hlt,G4,as ++ [e],fun a=>S a∨S4 a,fun q b=>(q < as.length∧T q b)∨(q = as.length∧S4 b),⟨x03.trans fr4.ext,fun a ha=>?_⟩,sg.trans (x2.g.trans fr4.ext.g),⟨by simp [o.len],fun q d y h1 h2=>?_,fun q r b h1 h2=>?_,fun q b h=>?_⟩,by simp; omega,p4⟩
        · rcases ha with ha | ha
          · obtain ⟨n1,n2,n3⟩:=newS a ha
            exact ⟨n1,(fr4.ext.old a n3).trans n2,fr4.ext.h.some n3⟩
          · obtain ⟨n1,n2,n3⟩:=fr4.new a ha
            exact ⟨x03.h.free n1,n2,n3⟩
        · by_cases hq:q < as.length
          · rw [qA7 hq] at h1
            rw [qA7 (by rw [o.len]; exact hq)] at h2
            exact ((own3.own q d y h1 h2).mono fr4.ext.g fr4.ext.h).sub fun b z=>.inl ⟨hq,z⟩
          · rw [qA6 (by omega)] at h1
            rw [qA6 (by rw [o.len]; omega),o.len] at h2
            have hq0:q - as.length = 0:=by
              have:=(qA1.mp h1).1
              simp at this; omega
            rw [hq0] at h1 h2
            simp at h1 h2
            subst h1; subst h2
            exact o4.sub fun b z=>.inr ⟨by omega,z⟩
        · rcases h1 with ⟨a1,t1⟩ | ⟨a1,t1⟩ <;> rcases h2 with ⟨a2,t2⟩ | ⟨a2,t2⟩
          · exact o.dis q r b t1 t2
          · exact (ap q b t1 t2).elim
          · exact (ap r b t2 t1).elim
          · omega
        · rcases h with ⟨_,z⟩ | ⟨_,z⟩
          · exact .inl (o.sub q b z)
          · exact .inr z
  · have e:i = ds.length:=by omega
    subst e
    refine .inl ⟨j2 (qAa _),fun D hD=>?_⟩
    rw [qE2,Mi.compGo] at p
    exact p (.ref D) G' _ _ (fr.add hD _) ⟨D,acc,T,rfl,zAH,o.kids (fun b hb=>(fr.new b hb).2.2) hD _⟩
end
end L3
namespace L3
open PySem PySem.Spec
open L2 hiding Rep RepL
open Mi (Dt Xn R okR zA3 optR zA0 zA9 zAC zA8 zAB Rh Sl Ro EM TM AM FM IM SM Tg Out zAU zAS zAZ full frz frz1 frzAt)
variable [Kc]
structure Sat (G0 H0 S0:Hp) (σ:St) (ρ:Ro) (G H:Hp) (As:Nat→Addr→Prop):Prop where
  ext:Ext G0 H0 G H
  stb:Same S0 G
  len:ρ.length = σ.length
  «at»:∀ (i:Nat) (d:Dt) (n:Nat),ρ[i]? = some (some (d,n))→∃ v,σ[i]? = some (some v)∧Own G H n (As i) d v
  dis:∀ i j a,As i a→As j a→i = j
  new:∀ i a,As i a→H0 a = none∧G a = none∧H a≠none
section
variable {G0 H0 S0:Hp} {σ:St} {ρ:Ro} {G H:Hp} {As:Nat→Addr→Prop}
theorem Sat.grow (a:Sat G0 H0 S0 σ ρ G H As) {H':Hp} (s:Same H H'):Sat G0 H0 S0 σ ρ G H' As :=
  ⟨a.ext.trans (Ext.same a.ext.in' s),a.stb,a.len,fun i d n e=>let ⟨v,h1,h2⟩:=a.at i d n e; ⟨v,h1,h2.mono (Same.refl _) s⟩,a.dis,fun i b h=>let ⟨n1,n2,n3⟩:=a.new i b h; ⟨n1,n2,s.some n3⟩⟩
theorem Sat.wider (a:Sat G0 H0 S0 σ ρ G H As) {G' H':Hp} (x:Ext G H G' H'):Sat G0 H0 S0 σ ρ G' H' As :=
  ⟨a.ext.trans x,a.stb.trans x.g,a.len,fun i d n e=>let ⟨v,h1,h2⟩:=a.at i d n e; ⟨v,h1,h2.mono x.g x.h⟩,a.dis,fun i b h=>let ⟨n1,n2,n3⟩:=a.new i b h; ⟨n1,(x.old b n3).trans n2,x.h.some n3⟩⟩
theorem Sat.full (a:Sat G0 H0 S0 σ ρ G H As):∃ J,Ext G0 H0 J H∧Same G J∧View J σ (full ρ):=by
  obtain ⟨s1,s2⟩:=zCK (S:=fun b=>∃ i,As i b) a.ext.in'
  refine ⟨over G H fun b=>∃ i,As i b,⟨a.ext.g.trans s1,a.ext.h,s2,fun b hb=>?_⟩,s1,by simp [Mi.full,a.len],fun i d e=>?_⟩
  · have z:¬ ∃ i,As i b:=fun ⟨i,z⟩=>hb (a.new i b z).1
    rw [zBW z]; exact a.ext.old b hb
  · unfold Mi.full at e
    rw [qAd] at e
    cases e1:ρ[i]? with
    | none=>rw [e1] at e; cases e
    | some o =>
      rw [e1] at e
      cases o with
      | none=>cases e
      | some sl =>
        obtain ⟨d',n⟩:=sl
        cases e
        obtain ⟨v,h1,h2⟩:=a.at i _ n e1
        exact ⟨v,h1,h2.rep s1 fun b o hb e=>by rw [zDM ⟨i,hb⟩]; exact e⟩
theorem Sat.put (a:Sat G0 H0 S0 σ ρ G H As) {i n:Nat} {d:Dt} {v:V} {S:Addr→Prop} (o:Own G H n S d v) (hS:∀ b,S b→H0 b = none∧G b = none∧H b≠none) (hd:∀ j b,j≠i→As j b→S b→False) :
    Sat G0 H0 S0 (σ.set i (some v)) (ρ.set i (some (d,n))) G H (fun j=>if j = i then S else As j):=by
  refine ⟨a.ext,a.stb,by simp [a.len],fun j e k h=>?_,fun j l b h1 h2=>?_,fun j b h=>?_⟩
  · have hj:j < ρ.length:=by
      have:=(qA1.mp h).1
      simpa using this
    by_cases z:i = j
    · subst z
      rw [qAf hj] at h
      cases h
      exact ⟨v,qAf (by rw [← a.len]; exact hj),by rw [if_pos rfl]; exact o⟩
    · rw [qAh z] at h
      obtain ⟨u,h1,h2⟩:=a.at j e k h
      exact ⟨u,by rw [qAh z]; exact h1,by rw [if_neg (fun q=>z q.symm)]; exact h2⟩
  · try dsimp only at h1 h2
    by_cases z1:j = i
    · by_cases z2:l = i
      · rw [z1,z2]
      · rw [if_pos z1] at h1; rw [if_neg z2] at h2; exact (hd l b z2 h2 h1).elim
    · by_cases z2:l = i
      · rw [if_neg z1] at h1; rw [if_pos z2] at h2; exact (hd j b z1 h1 h2).elim
      · rw [if_neg z1] at h1; rw [if_neg z2] at h2; exact a.dis j l b h1 h2
  · try dsimp only at h
    by_cases z1:j = i
    · rw [if_pos z1] at h; exact hS b h
    · rw [if_neg z1] at h; exact a.new j b h
theorem Sat.set (a:Sat G0 H0 S0 σ ρ G H As) {H':Hp} {i n:Nat} {d:Dt} {v:V} {S:Addr→Prop} (s:Same H H') (o:Own G H' n S d v) (hS:∀ b,S b→H b = none∧G b = none∧H' b≠none) :
    Sat G0 H0 S0 (σ.set i (some v)) (ρ.set i (some (d,n))) G H' (fun j=>if j = i then S else As j) :=
  (a.grow s).put o (fun b hb=>⟨a.ext.h.free (hS b hb).1,(hS b hb).2⟩) fun j b _ h1 h2=>(a.new j b h1).2.2 (hS b h2).1
theorem Sat.frz1 (a:Sat G0 H0 S0 σ ρ G H As) (i:Nat):∃ G1 As1,Sat G0 H0 S0 σ (Mi.frz1 i ρ) G1 H As1:=by
  unfold Mi.frz1
  cases e1:ρ[i]? with
  | none=>exact ⟨G,As,a⟩
  | some o =>
    cases o with
    | none=>exact ⟨G,As,a⟩
    | some sl =>
      obtain ⟨d,n⟩:=sl
      dsimp only
      obtain ⟨v,h1,h2⟩:=a.at i d n e1
      obtain ⟨s1,s2⟩:=zCK (S:=As i) a.ext.in'
      have x:Ext G0 H0 (over G H (As i)) H:=⟨a.ext.g.trans s1,a.ext.h,s2,fun b hb=>by
        have z:¬ As i b:=fun z=>hb (a.new i b z).1
        rw [zBW z]; exact a.ext.old b hb⟩
      have hv:(σ.set i (some v)) = σ:=by
        have hi:i < σ.length:=(qA1.mp h1).1
        have he:=(qA1.mp h1).2
        rw [← he,qDw]
      have b:Sat G0 H0 S0 σ (ρ.set i (some (d,0))) (over G H (As i)) H (fun j b=>j≠i∧As j b):=by
        refine ⟨x,a.stb.trans s1,by simp [a.len],fun j e k h=>?_,fun j l b p q=>a.dis j l b p.2 q.2,fun j b p=>?_⟩
        · have hj:j < ρ.length:=by
            have:=(qA1.mp h).1
            simpa using this
          by_cases z:i = j
          · subst z
            rw [qAf hj] at h
            cases h
            exact ⟨v,h1,h2.rep s1 fun b o hb e=>by rw [zDM hb]; exact e⟩
          · rw [qAh z] at h
            obtain ⟨u,q1,q2⟩:=a.at j e k h
            exact ⟨u,q1,(q2.mono s1 (Same.refl _)).sub fun b hb=>⟨fun q=>z q.symm,hb⟩⟩
        · obtain ⟨n1,n2,n3⟩:=a.new j b p.2
          have z:¬ As i b:=fun z=>p.1 (a.dis j i b p.2 z)
          exact ⟨n1,by rw [zBW z]; exact n2,n3⟩
      exact ⟨_,_,b⟩
theorem Sat.frzAt:∀ (vs:List Nat) {ρ:Ro} {G:Hp} {As:Nat→Addr→Prop},Sat G0 H0 S0 σ ρ G H As→∃ G1 As1,Sat G0 H0 S0 σ (Mi.frzAt vs ρ) G1 H As1
  | [],_,_,_,a=>⟨_,_,a⟩
  | i :: r,_,_,_,a=>by
    obtain ⟨G1,As1,b⟩:=a.frz1 i
    exact Sat.frzAt r b
theorem Sat.frz (a:Sat G0 H0 S0 σ ρ G H As):View G σ (Mi.frz ρ):=by
  refine ⟨by simp [Mi.frz,a.len],fun i d e=>?_⟩
  unfold Mi.frz at e
  rw [qAd] at e
  cases e1:ρ[i]? with
  | none=>rw [e1] at e; cases e
  | some o =>
    rw [e1] at e
    cases o with
    | none=>cases e
    | some sl =>
      obtain ⟨d',n⟩:=sl
      obtain ⟨v,h1,h2⟩:=a.at i d' n e1
      simp only [qEc,qHu] at e
      split at e
      · rename_i hz
        cases e
        rcases hz with hz | hz
        · subst hz; exact ⟨v,h1,h2⟩
        · exact ⟨v,h1,Own.scalar (k:=0) (G2:=G) (H2:=H) (S2:=fun _=>False) h2 hz⟩
      · cases e
theorem Sat.store (a:Sat G0 H0 S0 σ ρ G H As) {i n:Nat} {d:Dt} {v:V} {p:Addr} {o:HO} {S:Addr→Prop} (hp:As i p) (hv:σ[i]? = some (some v)) (w:Own G (upd H p o) n S d v)
    (hS:∀ b,S b→As i b∨(H0 b = none∧G b = none∧H b≠none∧∀ j,¬ As j b)):Sat G0 H0 S0 σ (ρ.set i (some (d,n))) G (upd H p o) (fun j=>if j = i then S else As j):=by
  obtain ⟨p1,p2,p3⟩:=a.new i p hp
  have hn:∀ b,H b≠none→upd H p o b≠none:=fun b hb=>by
    by_cases z:b = p
    · subst z; rw [zAH]; simp
    · rw [zAK z]; exact hb
  refine ⟨⟨a.ext.g,L2.Same.upd a.ext.h p1 o,L2.Same.upd a.ext.in' p2 o,a.ext.old⟩,a.stb,by simp [a.len],fun j e k h=>?_,fun j l b h1 h2=>?_,fun j b h=>?_⟩
  · have hj:j < ρ.length:=by
      have:=(qA1.mp h).1
      simpa using this
    by_cases z:i = j
    · subst z
      rw [qAf hj] at h
      cases h
      exact ⟨v,hv,by rw [if_pos rfl]; exact w⟩
    · rw [qAh z] at h
      obtain ⟨u,h1,h2⟩:=a.at j e k h
      exact ⟨u,h1,by rw [if_neg (fun q=>z q.symm)]; exact h2.upd fun q=>z (a.dis i j p hp q)⟩
  · have key:∀ j b,j≠i→As j b→S b→False:=fun j b hj h1 h2=>by
      rcases hS b h2 with q | ⟨_,_,_,q⟩
      · exact hj (a.dis j i b h1 q)
      · exact q j h1
    try dsimp only at h1 h2
    by_cases z1:j = i
    · by_cases z2:l = i
      · rw [z1,z2]
      · rw [if_pos z1] at h1; rw [if_neg z2] at h2; exact (key l b z2 h2 h1).elim
    · by_cases z2:l = i
      · rw [if_neg z1] at h1; rw [if_pos z2] at h2; exact (key j b z1 h1 h2).elim
      · rw [if_neg z1] at h1; rw [if_neg z2] at h2; exact a.dis j l b h1 h2
  · try dsimp only at h
    by_cases z1:j = i
    · rw [if_pos z1] at h
      rcases hS b h with q | ⟨q1,q2,q3,_⟩
      · obtain ⟨n1,n2,n3⟩:=a.new i b q
        exact ⟨n1,n2,hn b n3⟩
      · exact ⟨q1,q2,hn b q3⟩
    · rw [if_neg z1] at h
      obtain ⟨n1,n2,n3⟩:=a.new j b h
      exact ⟨n1,n2,hn b n3⟩
end
def zDG (mg:Str→Option Value) (E:XK) (G0 H0 S0:Hp) (L:Nat) (r:R Out) (D:Ends):Prop:=match r with
  | none=>False
  | some (.error x)=>∀ c da G' H',Ext G0 H0 G' H'→XRep mg x c da G' H'→E c da H'
  | some (.ok (.nx ρ))=>∀ σ G H As,Sat G0 H0 S0 σ ρ G H As→D.nx σ H
  | some (.ok (.bk ρ))=>∀ σ G H As,Sat G0 H0 S0 σ ρ G H As→D.bk σ H
  | some (.ok (.ct ρ))=>∀ σ G H As,Sat G0 H0 S0 σ ρ G H As→D.ct σ H
  | some (.ok (.rt d))=>∀ v G H S,Fr G0 H0 G H S→Own G H L S d v→D.rt v H
def DS (mg:Str→Option Value) (E:XK) (L:Nat) (t:TS) (m:SM):Prop:=∀ (G0 H0 S0:Hp) (σ:St) (ρ:Ro) (G H:Hp) (As:Nat→Addr→Prop) (D:Ends),Sat G0 H0 S0 σ ρ G H As→zDG mg E G0 H0 S0 L (m ρ) D→t D σ H
section
variable {mg:Str→Option Value} {E:XK} {L n k l:Nat} {te ta tb:TE} {e ea eb:EM} {t u:TS} {m m':SM}
theorem errS {G0 H0 S0:Hp} {D:Ends}:Err mg E G0 H0 (fun r=>zDG mg E G0 H0 S0 L r D):=⟨fun h=>h,fun _ h=>h⟩
theorem zFR:DS mg E L zWQ Mi.sNil:=fun G0 H0 S0 σ ρ G H As D a p=>p σ G H As a
theorem zAD (A:DS mg E L t m) (B:DS mg E L u m'):DS mg E L (tSeq t u) (Mi.sSeq m m'):=by
  intro G0 H0 S0 σ ρ G H As D a p
  refine A G0 H0 S0 σ ρ G H As _ a ?_
  unfold Mi.sSeq at p
  cases e:m ρ with
  | none=>rw [e] at p; exact p
  | some r =>
    rw [e] at p
    cases r with
    | error x=>exact p
    | ok o =>
      cases o with
      | nx ρ'=>exact fun σ' G' H' As' a'=>B G0 H0 S0 σ' ρ' G' H' As' D a' p
      | rt d=>exact p
      | bk ρ'=>exact p
      | ct ρ'=>exact p
theorem zL4 {tc:TT} {c:TM} (C:DT mg E tc c) (A:DS mg E L t m) (B:DS mg E L u m'):DS mg E L (tIfS tc t u) (Mi.sIf c m m'):=by
  intro G0 H0 S0 σ ρ G H As D a p
  obtain ⟨J,x,s,w⟩:=a.full
  refine C.step (errS.from x) x.in' w p fun b H' _ sH p1=>?_
  cases b with
  | true=>exact A G0 H0 S0 σ ρ G H' As D (a.grow sH) p1
  | false=>exact B G0 H0 S0 σ ρ G H' As D (a.grow sH) p1
theorem whole {G0 H0 S0:Hp} {σ:St} {ρ:Ro} {G H J G1 H1:Hp} {As:Nat→Addr→Prop} {S:Addr→Prop} {d:Dt} {v:V} (a:Sat G0 H0 S0 σ ρ G H As) (s:Same G J) (fr:Fr J H G1 H1 S) (o:Own G1 H1 n S d v) (hn:n < 1000) (hd:d.dep≤n) (hk:d.dep≤k) :
    Own G H1 k S d v∧∀ b,S b→H b = none∧G b = none∧H1 b≠none :=
  ⟨o.at hd hk hn,fun b hb=>let ⟨n1,n2,n3⟩:=fr.new b hb; ⟨n1,a.ext.in'.free n1,n3⟩⟩
theorem zAI {i:Nat} (vs:List Nat) (A:DE mg E te e n) (hn:n < 1000:=by decide):DS mg E L (tAsg te (zEE i)) (Mi.sSet i n vs e):=by
  intro G0 H0 S0 σ ρ G H As D a p
  obtain ⟨J,x,s,w⟩:=a.full
  unfold Mi.sSet at p
  cases ee:e (full ρ) with
  | none=>rw [ee] at p; exact p.elim
  | some r =>
    cases r with
    | error y=>exact A.step (errS.from x) x.in' w p fun d v G1 H1 S e1 fr o p1=>by rw [ee] at e1; cases e1
    | ok d =>
      by_cases hd:d.dep≤n
      · refine A.step (errS.from x) x.in' w p fun d' v G1 H1 S e1 fr o p1=>?_
        rw [ee] at e1
        cases e1
        rw [if_pos hd] at p1
        obtain ⟨q1,q2⟩:=whole (k:=n) a s fr o hn hd hd
        exact p1 _ G H1 _ (a.set fr.ext.h q1 q2)
      · rw [ee] at p
        have p':zDG mg E G0 H0 S0 L (zA3 (e (frz (frzAt vs ρ))) fun d'=>okR (.nx ((frzAt vs ρ).set i (some (d',n))))) D:=by
          have p2:zDG mg E G0 H0 S0 L (if d.dep≤n then okR (.nx (ρ.set i (some (d,n)))) else zA3 (e (frz (frzAt vs ρ))) fun d'=>okR (.nx ((frzAt vs ρ).set i (some (d',n))))) D:=p
          rw [if_neg hd] at p2; exact p2
        obtain ⟨G1,As1,a1⟩:=Sat.frzAt vs a
        refine A.step (errS.from a1.ext) a1.ext.in' a1.frz p' fun d' v G2 H2 S _ fr o p1=>?_
        exact p1 _ G2 H2 _ ((a1.wider fr.ext).put o (fun b hb=>let ⟨n1,n2,n3⟩:=fr.new b hb; ⟨a1.ext.h.free n1,n2,n3⟩) fun j b _ h1 h2=>(a1.new j b h1).2.2 (fr.new b h2).1)
theorem zBI (vs:List Nat) (A:DE mg E te e n) (hn:n < 1000:=by decide):DS mg E L (tRet te) (Mi.sRet L n vs e):=by
  intro G0 H0 S0 σ ρ G H As D a p
  obtain ⟨J,x,s,w⟩:=a.full
  unfold Mi.sRet at p
  cases ee:e (full ρ) with
  | none=>rw [ee] at p; exact p.elim
  | some r =>
    cases r with
    | error y=>exact A.step (errS.from x) x.in' w p fun d v G1 H1 S e1 fr o p1=>by rw [ee] at e1; cases e1
    | ok d =>
      by_cases hd:d.dep≤n∧d.dep≤L
      · refine A.step (errS.from x) x.in' w p fun d' v G1 H1 S e1 fr o p1=>?_
        rw [ee] at e1
        cases e1
        rw [if_pos hd] at p1
        exact p1 v G1 H1 S (Fr.from x fr) (o.at hd.1 hd.2 hn)
      · rw [ee] at p
        have p2:zDG mg E G0 H0 S0 L (if d.dep≤n∧d.dep≤L then okR (.rt d) else if n = L then zA3 (e (frz (frzAt vs ρ))) fun d'=>okR (.rt d') else none) D:=p
        rw [if_neg hd] at p2
        by_cases hl:n = L
        · rw [if_pos hl] at p2
          subst hl
          obtain ⟨G1,As1,a1⟩:=Sat.frzAt vs a
          refine A.step (errS.from a1.ext) a1.ext.in' a1.frz p2 fun d' v G2 H2 S _ fr o p1=>?_
          exact p1 v G2 H2 S (Fr.from a1.ext fr) o
        · rw [if_neg hl] at p2; exact p2.elim
theorem zEG (i:Nat):DS mg E L (tRet (vM i)) (Mi.sRetV L i):=by
  intro G0 H0 S0 σ ρ G H As D a p
  unfold Mi.sRetV at p
  cases e1:ρ[i]? with
  | none=>rw [e1] at p; exact p.elim
  | some o =>
    rw [e1] at p
    cases o with
    | none=>exact p.elim
    | some sl =>
      obtain ⟨d,k⟩:=sl
      obtain ⟨v,h1,h2⟩:=a.at i d k e1
      show vM i σ H D.rt
      unfold vM
      rw [h1]
      dsimp only at p
      split at p
      · rename_i hz
        rcases hz with hz | hz | hz
        · subst hz; exact p v G H (As i) ⟨a.ext,fun b hb=>a.new i b hb⟩ h2
        · subst hz
          obtain ⟨s1,s2⟩:=zCK (S:=As i) a.ext.in'
          refine p v (over G H (As i)) H (fun _=>False) ⟨⟨a.ext.g.trans s1,a.ext.h,s2,fun b hb=>?_⟩,fun _ z=>z.elim⟩ (h2.rep s1 fun b o hb e=>by rw [zDM hb]; exact e)
          have z:¬ As i b:=fun z=>hb (a.new i b z).1
          rw [zBW z]; exact a.ext.old b hb
        · exact p v G H (As i) ⟨a.ext,fun b hb=>a.new i b hb⟩ (h2.at hz.1 hz.2.1 hz.2.2)
      · exact p.elim
theorem Sat.puts {G0 H0 S0 G H:Hp} {bs:List (Nat × Dt)} {ws:List (Nat × V)} (h:BsRep G bs ws):∀ {σ:St} {ρ:Ro} {As:Nat→Addr→Prop},Sat G0 H0 S0 σ ρ G H As→∃ As',Sat G0 H0 S0 (zGF σ ws) (zAZ ρ bs) G H As':=by
  induction h with
  | nil=>exact fun a=>⟨_,a⟩
  | cons r _ ih=>exact fun a=>ih (a.put (n:=0) (S:=fun _=>False) r (fun _ z=>z.elim) fun _ _ _ _ z=>z.elim)
theorem zYP {g:TG} {is:List Nat} (vs:List Nat) (hT:TgOk g (.tup is)) (A:DE mg E te e n):DS mg E L (tAsg te g) (Mi.sUnp is vs e):=by
  intro G0 H0 S0 σ ρ G H As D a p
  obtain ⟨G1,As1,a1⟩:=Sat.frzAt vs a
  refine (zAO A).step (errS.from a1.ext) a1.ext.in' a1.frz p fun d v G2 H2 S _ fr o p1=>?_
  cases eb:zAU (.tup is) d with
  | none=>rw [eb] at p1; exact p1.elim
  | some bs =>
    rw [eb] at p1
    refine hT G2 H2 σ d v bs _ fr.ext.in' o eb fun ws hw=>?_
    obtain ⟨As',a2⟩:=Sat.puts hw (a1.wider fr.ext)
    exact p1 _ G2 H2 As' a2
theorem zRB (i:Nat) (A:DE mg E te e n) (hn:n < 1000:=by decide):DS mg E L (zEK (tML appM (vM i) (zD8 te tNil))) (Mi.sApp i n e):=by
  intro G0 H0 S0 σ ρ G H As D a p
  obtain ⟨J,x,s,w⟩:=a.full
  unfold Mi.sApp at p
  cases e1:ρ[i]? with
  | none=>rw [e1] at p; exact p.elim
  | some o =>
    rw [e1] at p
    match o,e1,p with
    | none,_,p=>exact p.elim
    | some (.lst ds,k + 1),e1,p =>
      obtain ⟨v,h1,q,xs,T,rfl,hq,kd⟩:=a.at i _ _ e1
      unfold zEK tML vM
      rw [h1]
      refine ⟨xs,hq,?_⟩
      refine A.step (errS.from x) x.in' w p fun d y G1 H1 S _ fr o p1=>?_
      split at p1
      · rename_i hz
        obtain ⟨q1,q2⟩:=whole (k:=k) a s fr o hn hz.2.1 hz.2.2
        refine ⟨xs,fr.ext.h _ _ hq,by rw [kd.len]; exact L2.big (by omega),?_⟩
        have hp:=kd.top
        have a1:=a.grow fr.ext.h
        have nS:¬ S q:=fun z=>(a.new i q hp).2.2 (q2 q z).1
        have ap:∀ r b,T r b→S b→False:=fun r b h1 h2=>(a.new i b (kd.sub r b h1)).2.2 (q2 b h2).1
        refine p1 σ G _ _ (a1.store (S:=fun b=>As i b∨S b) hp h1 ⟨q,_,fun r b=>(r < ds.length∧T r b)∨(r = ds.length∧S b),rfl,zAH,⟨by simp [kd.len],fun r d' z g1 g2=>?_,.inl hp,fun r z=>?_,fun r r' b z1 z2=>?_,fun r b z=>?_⟩⟩ fun b z=>?_)
        · by_cases hr:r < ds.length
          · rw [qA7 hr] at g1
            rw [qA7 (by rw [kd.len]; exact hr)] at g2
            exact (((kd.own r d' z g1 g2).mono (Same.refl _) fr.ext.h).upd (kd.out r)).sub fun b z=>.inl ⟨hr,z⟩
          · rw [qA6 (by omega)] at g1
            rw [qA6 (by rw [kd.len]; omega),kd.len] at g2
            have hq0:r - ds.length = 0:=by
              have:=(qA1.mp g1).1
              simp at this; omega
            rw [hq0] at g1 g2
            simp at g1 g2
            subst g1; subst g2
            exact (q1.upd nS).sub fun b z=>.inr ⟨by omega,z⟩
        · rcases z with ⟨_,z⟩ | ⟨_,z⟩
          · exact kd.out r z
          · exact nS z
        · rcases z1 with ⟨c1,t1⟩ | ⟨c1,t1⟩ <;> rcases z2 with ⟨c2,t2⟩ | ⟨c2,t2⟩
          · exact kd.dis r r' b t1 t2
          · exact (ap r b t1 t2).elim
          · exact (ap r' b t2 t1).elim
          · omega
        · rcases z with ⟨_,z⟩ | ⟨_,z⟩
          · exact .inl (kd.sub r b z)
          · exact .inr z
        · rcases z with z | z
          · exact .inl z
          · obtain ⟨n1,n2,n3⟩:=q2 b z
            exact .inr ⟨a.ext.h.free n1,n2,n3,fun j y=>(a.new j b y).2.2 n1⟩
      · exact p1.elim
    | some (.lst ds,0),_,p=>exact p.elim
    | some (.non,_),_,p=>exact p.elim
    | some (.bl _,_),_,p=>exact p.elim
    | some (.int _,_),_,p=>exact p.elim
    | some (.str _,_),_,p=>exact p.elim
    | some (.tup _,_),_,p=>exact p.elim
    | some (.scr _,_),_,p=>exact p.elim
    | some (.exc _ _ _,_),_,p=>exact p.elim
    | some (.ins _ _,_),_,p=>exact p.elim
    | some (.dct _,_),_,p=>exact p.elim
theorem Kids.pop {P:(Addr→Prop)→Dt→V→Prop} {S:Addr→Prop} {a:Addr} {ds:List Dt} {xs:List V} {T:Nat→Addr→Prop} (k:Kids P S a ds xs T) (q:Nat) :
    Kids P (fun b=>S b∧¬ T q b) a (ds.eraseIdx q) (xs.eraseIdx q) (fun r=>if r < q then T r else T (r + 1)):=by
  refine ⟨by rw [qE7,qE7,k.len],fun r d x h1 h2=>?_,⟨k.top,k.out q⟩,fun r=>?_,fun r r' b z1 z2=>?_,fun r b z=>?_⟩
  · rw [List.getElem?_eraseIdx] at h1 h2
    try dsimp only
    by_cases hr:r < q
    · rw [if_pos hr] at h1 h2 ⊢; exact k.own r d x h1 h2
    · rw [if_neg hr] at h1 h2 ⊢; exact k.own (r + 1) d x h1 h2
  · try dsimp only
    split
    · exact k.out _
    · exact k.out _
  · try dsimp only at z1 z2
    by_cases h1:r < q <;> by_cases h2:r' < q
    · rw [if_pos h1] at z1; rw [if_pos h2] at z2; exact k.dis _ _ b z1 z2
    · rw [if_pos h1] at z1; rw [if_neg h2] at z2; have:=k.dis _ _ b z1 z2; omega
    · rw [if_neg h1] at z1; rw [if_pos h2] at z2; have:=k.dis _ _ b z1 z2; omega
    · rw [if_neg h1] at z1; rw [if_neg h2] at z2; have:=k.dis _ _ b z1 z2; omega
  · try dsimp only at z
    by_cases h1:r < q
    · rw [if_pos h1] at z; exact ⟨k.sub _ b z,fun w=>by have:=k.dis _ _ b z w; omega⟩
    · rw [if_neg h1] at z; exact ⟨k.sub _ b z,fun w=>by have:=k.dis _ _ b z w; omega⟩
theorem zXP {G H:Hp} {p:Addr} {o:HO} {S:Addr→Prop} {a:Addr} {ds:List Dt} {xs:List V} {T:Nat→Addr→Prop} (k:Kids (Own G H n) S a ds xs T) (hp:∀ q,¬ T q p):Kids (Own G (upd H p o) n) S a ds xs T :=
  ⟨k.len,fun q d x h1 h2=>(k.own q d x h1 h2).upd (hp q),k.top,k.out,k.dis,k.sub⟩
end
end L3
namespace L3
open PySem PySem.Spec
open L2 hiding Rep RepL
open Mi (Dt Xn R okR zA3 optR zA0 zA9 zAC zA8 zAB Rh Sl Ro EM TM AM FM IM SM Tg Out zAU zAS zAZ full frz frz1 frzAt)
section
variable [Kc] {mg:Str→Option Value} {E:XK} {L n k l:Nat} {te ta tb:TE} {e ea eb:EM} {t u:TS} {m m':SM}
theorem Kids.set {G H:Hp} {S:Addr→Prop} {a p:Addr} {ds:List Dt} {xs:List V} {T:Nat→Addr→Prop} {S':Addr→Prop} {d:Dt} {v:V} {o:HO} (k:Kids (Own G H n) S a ds xs T) (q:Nat) (w:Own G (upd H p o) n S' d v) (hp:∀ r,r≠q→¬ T r p) (ha:¬ S' a)
    (hd:∀ r b,r≠q→T r b→S' b→False):Kids (Own G (upd H p o) n) (fun b=>S b∨S' b) a (ds.set q d) (xs.set q v) (fun r b=>if r = q then S' b else T r b):=by
  refine ⟨by simp [k.len],fun r d' x h1 h2=>?_,.inl k.top,fun r=>?_,fun r r' b z1 z2=>?_,fun r b z=>?_⟩
  · by_cases z:q = r
    · subst z
      have h:q < ds.length:=by
        have:=(qA1.mp h1).1
        simpa using this
      rw [qAf h] at h1
      rw [qAf (by rw [k.len]; exact h)] at h2
      cases h1; cases h2
      exact w.sub fun b hb=>by rw [if_pos rfl]; exact hb
    · rw [qAh z] at h1 h2
      exact ((k.own r d' x h1 h2).upd (hp r fun y=>z y.symm)).sub fun b hb=>by rw [if_neg (fun y=>z y.symm)]; exact hb
  · try dsimp only
    split
    · exact ha
    · exact k.out _
  · try dsimp only at z1 z2
    by_cases h1:r = q <;> by_cases h2:r' = q
    · rw [h1,h2]
    · rw [if_pos h1] at z1; rw [if_neg h2] at z2; exact (hd r' b h2 z2 z1).elim
    · rw [if_neg h1] at z1; rw [if_pos h2] at z2; exact (hd r b h1 z1 z2).elim
    · rw [if_neg h1] at z1; rw [if_neg h2] at z2; exact k.dis _ _ b z1 z2
  · try dsimp only at z
    by_cases h1:r = q
    · rw [if_pos h1] at z; exact .inr z
    · rw [if_neg h1] at z; exact .inl (k.sub _ b z)
theorem zR7 (i:Nat) {n1:Nat} {t1 t2:TE} {e1 e2:EM} (A:DE mg E t1 e1 n1) (B:DE mg E t2 e2 n) (hn:n < 1000:=by decide):DS mg E L (tAsg t2 (gSub (vM i) t1 setM)) (Mi.sItem i n e1 e2):=by
  intro G0 H0 S0 σ ρ G H As D a p
  obtain ⟨J,x,s,w⟩:=a.full
  refine B.step (errS.from x) x.in' w p fun d y G1 H1 S _ fr o p1=>?_
  cases er:ρ[i]? with
  | none=>rw [er] at p1; exact p1.elim
  | some sl =>
    rw [er] at p1
    match sl,er,p1 with
    | none,_,p=>exact p.elim
    | some (.lst ds,k + 1),er,p1 =>
      obtain ⟨v,h1,q,xs,T,rfl,hq,kd⟩:=a.at i _ _ er
      unfold gSub vM
      rw [h1]
      have x1:Ext J H J H1:=Ext.same x.in' fr.ext.h
      refine (zAO A).step (errS.from (x.trans x1)) x1.in' w p1 fun z u G2 H2 S2 _ fr2 o2 p2=>?_
      cases z with
      | int z =>
        cases (show u = .int z from o2)
        try dsimp only at p2
        cases ei:Mi.ixA ds.length z with
        | none=>rw [ei] at p2; exact p2.elim
        | some c =>
          rw [ei] at p2
          try dsimp only at p2
          split at p2
          · rename_i hz
            rw [zTP] at ei
            obtain ⟨q1,q2⟩:=whole (k:=k) a s fr o hn hz.1 hz.2
            have sH:=fr.ext.h.trans fr2.ext.h
            refine ⟨xs,c,sH _ _ hq,by rw [kd.len]; exact ei,?_⟩
            have a1:=a.grow sH
            have nS:¬ S q:=fun z=>(a.new i q kd.top).2.2 (q2 q z).1
            have kd1:Kids (Own G H2 k) (As i) q ds xs T:=kd.imp (fun _ _ _ _ w=>w.mono (Same.refl _) sH) fun _ z=>z
            refine p2 σ G _ _ (a1.store (S:=fun b=>As i b∨S b) kd.top h1 ⟨q,_,_,rfl,zAH,kd1.set c ((q1.mono (Same.refl _) fr2.ext.h).upd nS) (fun r _=>kd.out r) nS fun r b _ z1 z2=>(a.new i b (kd.sub r b z1)).2.2 (q2 b z2).1⟩ fun b z=>?_)
            rcases z with z | z
            · exact .inl z
            · obtain ⟨n1,n2,n3⟩:=q2 b z
              exact .inr ⟨a.ext.h.free n1,n2,fr2.ext.h.some n3,fun j y=>(a.new j b y).2.2 n1⟩
          · exact p2.elim
      | _=>exact p2.elim
    | some (.lst ds,0),_,p=>exact p.elim
    | some (.non,_),_,p=>exact p.elim
    | some (.bl _,_),_,p=>exact p.elim
    | some (.int _,_),_,p=>exact p.elim
    | some (.str _,_),_,p=>exact p.elim
    | some (.tup _,_),_,p=>exact p.elim
    | some (.scr _,_),_,p=>exact p.elim
    | some (.exc _ _ _,_),_,p=>exact p.elim
    | some (.ins _ _,_),_,p=>exact p.elim
    | some (.dct _,_),_,p=>exact p.elim
theorem zTZ {G0 H0 S0:Hp} {D:Ends} {g:TG} {tg:Tg} {J:It} {ds:List Dt} {GJ:Hp} (hT:TgOk g tg) (B:DS mg E L t m) (io:ItOk J GJ ds) {σ:St} {ρ:Ro} {G H:Hp} {As:Nat→Addr→Prop} (a:Sat G0 H0 S0 σ ρ G H As) (sJ:Same GJ G)
    (p:zDG mg E G0 H0 S0 L (Mi.forGo tg m ds ρ) D):zPH g t D σ J H:=by
  refine ⟨fun i c σ H=>c = ds.length - i∧i≤ds.length∧∃ ρ G As,Sat G0 H0 S0 σ ρ G H As∧Same GJ G∧zDG mg E G0 H0 S0 L (Mi.forGo tg m (ds.drop i) ρ) D,
    ⟨_,rfl,qAs _,ρ,G,As,a,sJ,by rw [qFh]; exact p⟩,?_⟩
  rintro i c σ H ⟨rfl,hi,ρ,G,As,a,sJ,p⟩
  obtain ⟨j1,j2,j3⟩:=io i G H sJ a.ext.in'
  by_cases hlt:i < ds.length
  · refine .inr ⟨j1 hlt,fun σ' H'=>i + 1≤ds.length∧∃ ρ G As,Sat G0 H0 S0 σ' ρ G H' As∧Same GJ G∧zDG mg E G0 H0 S0 L (Mi.forGo tg m (ds.drop (i + 1)) ρ) D,fun σ' H' q=>⟨ds.length - (i + 1),by omega,rfl,q⟩,fun x H2 hy=>?_⟩
    have hd:ds[i]? = some ds[i]:=qA3 hlt
    obtain ⟨G2,x2,r2⟩:=j3 x H2 ds[i] hd hy
    rw [qAx hlt,Mi.forGo] at p
    cases eb:zAU tg ds[i] with
    | none=>rw [eb] at p; exact p.elim
    | some bs =>
      rw [eb] at p
      try dsimp only at p
      refine hT G2 H2 _ _ x bs _ x2.in' r2 eb fun ws hb=>?_
      obtain ⟨As2,a2⟩:=Sat.puts hb (a.wider x2)
      have a3:Sat G0 H0 GJ (zGF σ ws) (zAZ ρ bs) G2 H2 As2:=⟨a2.ext,sJ.trans x2.g,a2.len,a2.at,a2.dis,a2.new⟩
      have key:∀ (S1:Hp),Same S0 S1→Same GJ S1→Sat G0 H0 S1 (zGF σ ws) (zAZ ρ bs) G2 H2 As2→t { D with nx:=fun σ' H'=>i + 1≤ds.length∧∃ ρ G As,Sat G0 H0 S0 σ' ρ G H' As∧Same GJ G∧zDG mg E G0 H0 S0 L (Mi.forGo tg m (ds.drop (i + 1)) ρ) D,ct:=fun σ' H'=>i + 1≤ds.length∧∃ ρ G As,Sat G0 H0 S0 σ' ρ G H' As∧Same GJ G∧zDG mg E G0 H0 S0 L (Mi.forGo tg m (ds.drop (i + 1)) ρ) D,bk:=D.nx } (zGF σ ws) H2:=by
        intro S1 s1 s2 a4
        refine B G0 H0 S1 _ _ G2 H2 As2 _ a4 ?_
        have back:∀ {σ':St} {ρ':Ro} {G' H':Hp} {As':Nat→Addr→Prop},Sat G0 H0 S1 σ' ρ' G' H' As'→Sat G0 H0 S0 σ' ρ' G' H' As'∧Same GJ G':=fun a5=>⟨⟨a5.ext,s1.trans a5.stb,a5.len,a5.at,a5.dis,a5.new⟩,s2.trans a5.stb⟩
        cases em:m (zAZ ρ bs) with
        | none=>rw [em] at p; exact p
        | some r =>
          rw [em] at p
          cases r with
          | error y=>exact p
          | ok o =>
            cases o with
            | nx ρ'=>exact fun σ' G' H' As' a5=>⟨hlt,ρ',G',As',(back a5).1,(back a5).2,p⟩
            | ct ρ'=>exact fun σ' G' H' As' a5=>⟨hlt,ρ',G',As',(back a5).1,(back a5).2,p⟩
            | bk ρ'=>exact fun σ' G' H' As' a5=>p σ' G' H' As' (back a5).1
            | rt d=>exact p
      exact key G2 a2.stb (sJ.trans x2.g) ⟨a2.ext,Same.refl _,a2.len,a2.at,a2.dis,a2.new⟩
  · have e:i = ds.length:=by omega
    subst e
    rw [qE2,Mi.forGo] at p
    exact .inl ⟨j2 (qAa _),p σ G H As a⟩
theorem zL5 {wi:TI} {it:IM} {g:TG} {tg:Tg} (vs:List Nat) {ind:Bool} (I:DI mg E wi it ind) (hT:TgOk g tg) (B:DS mg E L t m):DS mg E L (fun D σ H=>wi σ H (zPH g t D σ)) (Mi.sFor vs it tg m):=by
  intro G0 H0 S0 σ ρ G H As D a p
  obtain ⟨G1,As1,a1⟩:=Sat.frzAt vs a
  refine I.step (errS.from a1.ext) a1.ext.in' a1.frz p fun ds J G2 H2 _ x2 io p1=>?_
  refine zTZ hT B io (a1.wider x2) ?_ p1
  unfold zRS
  split
  · exact fun b o e=>by cases e
  · exact Same.refl _
theorem zFM {wi:TI} {it:IM} {i:Nat} (I:DI mg E wi it true) (B:DS mg E L t m):DS mg E L (fun D σ H=>wi σ H (zPH (zEE i) t D σ)) (Mi.sForR it i m):=by
  intro G0 H0 S0 σ ρ G H As D a p
  obtain ⟨J,x,s,w⟩:=a.full
  refine I.step (errS.from x) x.in' w p fun ds J G2 H2 _ x2 io p1=>?_
  exact zTZ (zC2 i) B io (a.grow x2.h) (fun b o e=>by cases e) p1
theorem zZ8 {G0 H0 S0:Hp} {D:Ends} {tc:TT} {c:TM} (C:DT mg E tc c) (B:DS mg E L t m) (N:Nat) {σ:St} {ρ:Ro} {G H:Hp} {As:Nat→Addr→Prop} (a:Sat G0 H0 S0 σ ρ G H As) (p:zDG mg E G0 H0 S0 L (Mi.whGo c m N ρ) D):zPG tc t D σ H:=by
  refine ⟨fun i σ H=>∃ ρ G As,Sat G0 H0 S0 σ ρ G H As∧zDG mg E G0 H0 S0 L (Mi.whGo c m i ρ) D,⟨N,ρ,G,As,a,p⟩,?_⟩
  rintro i σ H ⟨ρ,G,As,a,p⟩
  cases i with
  | zero=>exact p.elim
  | succ i =>
    obtain ⟨J,x,s,w⟩:=a.full
    rw [Mi.whGo] at p
    refine C.step (errS.from x) x.in' w p fun b H' _ sH p1=>?_
    cases b with
    | false=>exact p1 σ G H' As (a.grow sH)
    | true =>
      rw [if_pos rfl]
      refine ⟨fun σ' H'=>∃ ρ G As,Sat G0 H0 S0 σ' ρ G H' As∧zDG mg E G0 H0 S0 L (Mi.whGo c m i ρ) D,fun σ' H' q=>⟨i,qBw i,q⟩,?_⟩
      refine B G0 H0 S0 σ ρ G H' As _ (a.grow sH) ?_
      rw [if_pos rfl] at p1
      cases em:m ρ with
      | none=>rw [em] at p1; exact p1
      | some r =>
        rw [em] at p1
        cases r with
        | error y=>exact p1
        | ok o =>
          cases o with
          | nx ρ'=>exact fun σ' G' H' As' a5=>⟨ρ',G',As',a5,p1⟩
          | ct ρ'=>exact fun σ' G' H' As' a5=>⟨ρ',G',As',a5,p1⟩
          | bk ρ'=>exact fun σ' G' H' As' a5=>p1 σ' G' H' As' a5
          | rt d=>exact p1
theorem zO2 {tc:TT} {c:TM} (C:DT mg E tc c) (B:DS mg E L t m):DS mg E L (zPG tc t) (Mi.sWhile c m):=fun G0 H0 S0 σ ρ G H As D a p=>zZ8 C B _ a p
theorem dz (A:DE mg E te e 0):DE mg E te e 0:=A
theorem zLX {P N:Nat} {vs:List V} {H:Hp} {Q:VK} {E:XK} (h:spM mg L (Mi.runF P N m) vs H Q E):vs.length = P:=by
  obtain ⟨G,ds,s,r,p⟩:=h
  rw [r.length]
  unfold Mi.runF at p
  split at p
  · rename_i h; exact h
  · exact p.elim
theorem zBA {P:Nat} {N:List Str} {vs:List V} {H:Hp} {Q:VK} (B:DS mg E L t m) (h:spM mg L (Mi.runF P N.length m) vs H Q E):t { nx:=fun _ H'=>Q .non H',rt:=Q } (L2.start N vs) H:=by
  obtain ⟨G,ds,s,r,p⟩:=h
  unfold Mi.runF at p
  split at p
  · refine B G H G _ (Mi.startO N.length ds) G H (fun _ _=>False) _ ⟨Ext.refl s,Same.refl _,?_,fun i d n e=>?_,fun _ _ _ z=>z.elim,fun _ _ z=>z.elim⟩ ?_
    · unfold Mi.startO L2.start
      simp [r.length]
    · unfold Mi.startO at e
      by_cases hi:i < ds.length
      · rw [qA7 (by simpa using hi),qAd] at e
        cases e1:ds[i]? with
        | none=>rw [e1] at e; cases e
        | some d' =>
          rw [e1] at e
          cases e
          have hv:vs[i]? = some (vs[i]'(by rw [r.length]; exact hi)):=by simp
          refine ⟨vs[i]'(by rw [r.length]; exact hi),?_,zC3 r e1 hv⟩
          unfold L2.start
          rw [qA7 (by simpa [r.length] using hi),qAd,hv]
          rfl
      · rw [qA6 (by simpa using hi),qBy] at e
        split at e <;> cases e
    · cases em:m (Mi.startO N.length ds) with
      | none=>rw [em] at p; exact p
      | some r =>
        rw [em] at p
        cases r with
        | error y=>exact p
        | ok o =>
          cases o with
          | nx ρ'=>exact fun σ' G' H' As' a=>PostE.val (d:=.non) p a.ext rfl rfl
          | rt d=>exact p
          | bk ρ'=>exact p.elim
          | ct ρ'=>exact p.elim
  · exact p.elim
end
end L3
namespace L3
open PySem PySem.Spec
open L2 hiding Rep RepL
open Mi (Dt FM okR)
def sp0 (K:qA2) (mg:Str→Option Value) (L:Nat) (f:FM):Sp:=fun vs H Q _=>@spM ⟨K⟩ mg L f vs H Q E0
end L3
namespace L3
open PySem PySem.Spec
open L2 hiding Rep RepL
open Mi (Dt Xn R okR zA3 optR zA0 zA9 zAC zA8 zAB Rh Sl Ro EM TM AM FM IM SM OM Tg Out zAU zAS zAZ full frz frz1 frzAt)
section
variable [Kc] {mg:Str→Option Value} {E:XK} {L n k l:Nat} {te ta tb:TE} {e ea eb:EM} {t u:TS} {m m':SM}
theorem zYZ:CBi (fun xs H Q=>(∃ i,xs = [.int i]∧Q (.int i) H)∨∃ k,xs = [.bl k]∧Q (.int (if k then 1 else 0)) H) Mi.intD n:=by
  intro mg E G H ds vs Q s h p
  cases ds with
  | nil=>exact qA5 p
  | cons hd1 tl1 =>
    cases hd1 with
    | int i =>
      cases tl1 with
      | nil =>
        obtain ⟨x,rfl,hx⟩:=zD9 h
        cases (show x = .int i from hx)
        exact .inl ⟨i,rfl,PostE.val p (Ext.refl s) rfl rfl⟩
      | cons _ _=>exact qA5 p
    | bl b =>
      cases tl1 with
      | nil =>
        obtain ⟨x,rfl,hx⟩:=zD9 h
        cases (show x = .bl b from hx)
        exact .inr ⟨b,rfl,PostE.val p (Ext.refl s) rfl rfl⟩
      | cons _ _=>exact qA5 p
    | _=>exact qA5 p
theorem zEF {G:Hp} {d:Dt} {v:V} (h:Rep G d v) (hd:d.dep = 0):zCZ v = true:=(zDV (by omega) h).flat (qFk.mp (qAq (zF4 (by omega)) (qF4 hd)))
theorem zH1 {G:Hp} {d e:Dt} {v u:V} (h:Rep G d v) (h':Rep G e u) (hd:d.dep = 0) (he:e.dep = 0):eqV v u = Dt.eq d e:=by
  rw [← zMS (by omega) (by omega)]
  exact (zDV (by omega) h).flatEq (zDV (by omega) h') (qFk.mp (qAq (zF4 (by omega)) (qF4 hd))) (qFk.mp (qAq (zF4 (by omega)) (qF4 he)))
theorem zVQ {G:Hp} {d:Dt} {v:V} (h:Rep G d v) (hd:d.dep = 0):∀ {ds:List Dt} {vs:List V},RepL G ds vs→Dt.depL ds = 0→vs.all zCZ = true∧inV v vs = ds.any fun y=>Dt.eq y d
  | [],vs,r,_=>by cases (show vs = [] from r); exact ⟨rfl,rfl⟩
  | e :: ds,vs,r,hz=>by
    obtain ⟨x,q,rfl,a,b⟩:=r
    rw [Dt.depL] at hz
    obtain ⟨h1,h2⟩:=zVQ h hd b (by omega)
    have he:e.dep = 0:=by omega
    refine ⟨by simp [zEF a he,h1],?_⟩
    unfold inV at h2 ⊢
    rw [qCj,qCj,h2,zH1 a h he hd]
theorem zX2 {ng:Bool}:ROp (rInU Kc.K ng) (Mi.inD ng) n:=by
  intro mg E G H d e x y Q s h1 h2 p
  cases e with
  | lst ys =>
    obtain ⟨a,vs,rfl,ha,r⟩:=h2
    unfold Mi.inD Mi.hasD at p
    dsimp only at p
    by_cases hz:d.dep = 0∧Dt.depL ys = 0
    · rw [if_pos hz] at p
      obtain ⟨g1,g2⟩:=zVQ h1 hz.1 r hz.2
      refine ⟨vs,.inl (SqL.of (s _ _ ha)),zEF h1 hz.1,g1,?_⟩
      rw [g2]
      exact PostE.val p (Ext.refl s) rfl rfl
    · rw [if_neg hz] at p; exact p.elim
  | tup ys =>
    obtain ⟨a,vs,rfl,ha,r⟩:=h2
    unfold Mi.inD Mi.hasD at p
    dsimp only at p
    by_cases hz:d.dep = 0∧Dt.depL ys = 0
    · rw [if_pos hz] at p
      obtain ⟨g1,g2⟩:=zVQ h1 hz.1 r hz.2
      refine ⟨vs,.inr (SqT.of (s _ _ ha)),zEF h1 hz.1,g1,?_⟩
      rw [g2]
      exact PostE.val p (Ext.refl s) rfl rfl
    · rw [if_neg hz] at p; exact p.elim
  | str z =>
    cases (show y = .str z from h2)
    cases d with
    | str w =>
      cases (show x = .str w from h1)
      obtain ⟨⟨wl⟩⟩:=w
      cases wl with
      | nil=>exact qA5 p
      | cons c tl1 =>
        cases tl1 with
        | nil =>
          have p':PostE mg E G H n (okR (.bl (if ng = true then !decide (c∈z.cps.toList) else decide (c∈z.cps.toList)))) Q:=p
          have q:=PostE.val (v:=.bl (if ng = true then !decide (c∈z.cps.toList) else decide (c∈z.cps.toList))) p' (Ext.refl s) rfl rfl
          rw [← StrLaws.found_one z c] at q
          exact q
        | cons _ _=>exact qA5 p
    | _=>exact p.elim
  | _=>exact p.elim
end
end L3
namespace L3
open PySem PySem.Spec
open L2 hiding Rep RepL
open Mi (Dt Xn R okR zA3 optR zA0 zA9 zAC zA8 zAB Rh Sl Ro EM TM AM FM IM SM OM Tg Out zAU zAS zAZ full frz frz1 frzAt)
section
variable [Kc] {mg:Str→Option Value} {E:XK} {L n k l:Nat} {te ta tb:TE} {e ea eb ma:EM} {t:TA} {m:AM}
theorem zYB {G:Hp} (z:Str):ItOk (Its z) G (Mi.signsD z):=by
  intro i G1 H1 s1 s2
  have hl:(Mi.signsD z).length = z.cps.size:=by simp [Mi.signsD]
  refine ⟨fun hi=>by rw [hl] at hi; exact hi,fun hi=>by rw [hl] at hi; exact hi,fun x H2 d hd hy=>?_⟩
  obtain ⟨rfl,c,hc,rfl⟩:=hy
  refine ⟨G1,Ext.refl s2,?_⟩
  unfold Mi.signsD at hd
  rw [qAd] at hd
  have hc':z.cps.toList[i]? = some c:=by simpa using hc
  rw [hc'] at hd
  cases hd
  rfl
theorem zFS (A:DE mg E ta ma k):DI mg E (iAny Kc.K ta) (Mi.iSq ma) false:=by
  intro G H σ ρ Q s w p
  refine (zAO A).step errI s w p fun d v G1 H1 S _ fr o p1=>?_
  cases d with
  | lst ds =>
    obtain ⟨a,xs,rfl,ha,r⟩:=o
    exact .inl ⟨⟨xs,SqL.of (fr.ext.in' _ _ ha)⟩,p1 _ G1 H1 fr.ext (zTR (SqL.of ha) r)⟩
  | tup ds =>
    obtain ⟨a,xs,rfl,ha,r⟩:=o
    exact .inr ⟨⟨xs,SqT.of (fr.ext.in' _ _ ha)⟩,p1 _ G1 H1 fr.ext (zTQ (SqT.of ha) r)⟩
  | scr ns =>
    obtain ⟨a,rfl,ha⟩:=o
    rcases ha with ha | ha
    · exact .inl ⟨⟨_,fr.ext.in'.seq ha⟩,p1 _ G1 H1 fr.ext (zTR ha (zD0 ns))⟩
    · exact .inr ⟨⟨_,zGG fr.ext.in' ha⟩,p1 _ G1 H1 fr.ext (zTQ ha (zD0 ns))⟩
  | str z =>
    cases (show v = .str z from o)
    exact p1 _ G1 H1 fr.ext (zYB z)
  | _=>exact p1.elim
def RMt (r:V→List V→Hp→VK→Prop) (f:Dt→List Dt→Option Dt) (n:Nat):Prop:=∀ (mg:Str→Option Value) (E:XK) (G H:Hp) (z:Str) (ds:List Dt) (vs:List V) (Q:VK),Same G H→RepL G ds vs→PostE mg E G H n (optR (f (.str z) ds)) Q→r (.str z) vs H Q
theorem zHJ {r:V→List V→Hp→VK→Prop} {f:Dt→List Dt→Option Dt} (hr:RMt r f n) (A:DE mg E te e k) (B:DA mg E t m 0):DE mg E (tBM Kc.K "str" r te t) (Mi.eMt f e m) n:=by
  intro G H σ ρ Q s w p
  refine (zAO A).step errE s w p fun d v G1 H1 S _ fr o p1=>?_
  cases d with
  | str z =>
    cases (show v = .str z from o)
    refine ⟨rfl,?_⟩
    have p2:PostE mg E G H n (zA3 (m ρ) fun xs=>optR (f (.str z) xs)) Q:=p1
    refine B.step (errE.from fr.ext) fr.ext.in' (w.mono fr.ext.g) p2 fun ds vs G2 H2 S2 T2 _ fr2 o2 p3=>?_
    exact hr mg E G2 H2 z ds vs Q fr2.ext.in' o2.repL (PostE.from p3 (fr.ext.trans fr2.ext))
  | _=>exact p1.elim
theorem zTJ {r:V→List V→Hp→VK→Prop} {f:Dt→List Dt→Option Dt} (hf:∀ z ds,(∀ c,ds≠[.str ⟨#[c]⟩])→f (.str z) ds = none)
    (hr:∀ (mg:Str→Option Value) (E:XK) (G H:Hp) (z:Str) (c:Nat) (Q:VK),Same G H→PostE mg E G H n (optR (f (.str z) [.str ⟨#[c]⟩])) Q→r (.str z) [.str ⟨#[c]⟩] H Q):RMt r f n:=by
  intro mg E G H z ds vs Q s h p
  by_cases hd:∃ c,ds = [.str ⟨#[c]⟩]
  · obtain ⟨c,rfl⟩:=hd
    obtain ⟨x,rfl,hx⟩:=zD9 h
    cases (show x = .str ⟨#[c]⟩ from hx)
    exact hr mg E G H z c Q s p
  · rw [hf z ds fun c e=>hd ⟨c,e⟩] at p
    exact p.elim
theorem zNI {f:Dt→List Dt→Option Dt} {z:Str} (h1:f (.str z) [] = none) (h2:∀ d,(∀ y,d≠.str y)→f (.str z) [d] = none) (h3:∀ d e r,f (.str z) (d :: e :: r) = none) (h4:f (.str z) [.str ⟨#[]⟩] = none) (h5:∀ a b r,f (.str z) [.str ⟨⟨a :: b :: r⟩⟩] = none) :
    ∀ ds,(∀ c,ds≠[.str ⟨#[c]⟩])→f (.str z) ds = none:=by
  intro ds h
  match ds,h with
  | [],_=>exact h1
  | [.str ⟨⟨[]⟩⟩],_=>exact h4
  | [.str ⟨⟨[c]⟩⟩],h=>exact absurd rfl (h c)
  | [.str ⟨⟨a :: b :: r⟩⟩],_=>exact h5 a b r
  | [.non],_=>exact h2 _ fun _ e=>by cases e
  | [.bl _],_=>exact h2 _ fun _ e=>by cases e
  | [.int _],_=>exact h2 _ fun _ e=>by cases e
  | [.lst _],_=>exact h2 _ fun _ e=>by cases e
  | [.tup _],_=>exact h2 _ fun _ e=>by cases e
  | [.scr _],_=>exact h2 _ fun _ e=>by cases e
  | [.exc _ _ _],_=>exact h2 _ fun _ e=>by cases e
  | [.ins _ _],_=>exact h2 _ fun _ e=>by cases e
  | [.dct _],_=>exact h2 _ fun _ e=>by cases e
  | d :: e :: r,_=>exact h3 d e r
theorem zIG:RMt zYL Mi.findD n:=zTJ (fun z=>zNI rfl (fun d h=>by cases d <;> first | rfl | exact absurd rfl (h _)) (fun d e r=>by cases d <;> rfl) rfl fun a b r=>rfl) fun mg E G H z c Q s p=>by
  show Q (.int (Txt.find z ⟨#[c]⟩)) H
  rw [zT2]
  exact PostE.val p (Ext.refl s) rfl rfl
theorem zIF:RMt zTV Mi.indexD n:=zTJ (fun z=>zNI rfl (fun d h=>by cases d <;> first | rfl | exact absurd rfl (h _)) (fun d e r=>by cases d <;> rfl) rfl fun a b r=>rfl) fun mg E G H z c Q s p=>by
  have p':PostE mg E G H n (optR ((Mi.posC c z.cps.toList).map fun i=>Dt.int (i:Int))) Q:=p
  show ∃ (i:Nat) (rest:List Nat),Builtin.Str.occurrences z ⟨#[c]⟩ 0 z.length 1 = i :: rest∧Q (.int i) H
  rw [zQB]
  cases e:Mi.posC c z.cps.toList with
  | none=>rw [e] at p'; exact p'.elim
  | some i=>rw [e] at p'; exact ⟨i,[],rfl,PostE.val p' (Ext.refl s) rfl rfl⟩
theorem zN4 {G:Hp}:∀ {ds:List Dt} {zs:List Str} {xs:List V},Mi.strsD ds = some zs→RepL G ds xs→xs = zs.map V.str
  | [],zs,xs,h,r=>by cases h; exact r
  | .str b :: ds,zs,xs,h,r=>by
    obtain ⟨x,q,rfl,a,c⟩:=r
    rw [Mi.strsD] at h
    cases e:Mi.strsD ds with
    | none=>rw [e] at h; cases h
    | some cs =>
      rw [e] at h
      cases h
      rw [zN4 e c,show x = .str b from a]
      rfl
  | .non :: _,_,_,h,_=>by simp [Mi.strsD] at h
  | .int _ :: _,_,_,h,_=>by simp [Mi.strsD] at h
  | .bl _ :: _,_,_,h,_=>by simp [Mi.strsD] at h
  | .lst _ :: _,_,_,h,_=>by simp [Mi.strsD] at h
  | .tup _ :: _,_,_,h,_=>by simp [Mi.strsD] at h
  | .scr _ :: _,_,_,h,_=>by simp [Mi.strsD] at h
  | .exc _ _ _ :: _,_,_,h,_=>by simp [Mi.strsD] at h
  | .ins _ _ :: _,_,_,h,_=>by simp [Mi.strsD] at h
  | .dct _ :: _,_,_,h,_=>by simp [Mi.strsD] at h
theorem zM6:RMt zY7 Mi.joinD n:=by
  intro mg E G H z ds vs Q s h p
  cases ds with
  | nil=>exact qA5 p
  | cons hd1 tl1 =>
    cases hd1 with
    | lst es =>
      cases tl1 with
      | nil =>
        obtain ⟨x,rfl,a,xs,rfl,ha,ra⟩:=zD9 h
        have p':PostE mg E G H n (optR (match Mi.strsD es with
          | some zs=>@ite _ ((zs.map (·.length)).sum + zs.length * z.length≤100000) (qA4 _) (some (.str (Str.join z zs))) none
          | none=>none)) Q:=p
        cases e:Mi.strsD es with
        | none=>rw [e] at p'; exact p'.elim
        | some zs =>
          rw [e] at p'
          dsimp only at p'
          split at p'
          · rename_i hz
            exact ⟨zs,by rw [← zN4 e ra]; exact s _ _ ha,by omega,PostE.val p' (Ext.refl s) rfl rfl⟩
          · exact p'.elim
      | cons _ _=>exact qA5 p
    | _=>exact qA5 p
end
end L3
namespace Mi
open PySem
noncomputable section
def noE {α:Type} (r:R α):R α:=match r with
  | some (.ok a)=>okR a
  | _=>none
def eCallN (f:FM) (am:AM):EM:=fun ρ=>zA3 (am ρ) fun ds=>noE (f ds)
def eMkX (c f:Str) (am:AM):EM:=fun ρ=>zA3 (am ρ) fun ds=>match ds with
  | [d]=>okR (.exc c f d)
  | _=>none
def eMkX0 (c:Str) (am:AM):EM:=fun ρ=>zA3 (am ρ) fun ds=>@ite _ (ds.length≤1000) (qA4 _) (okR (.exc c "" .non)) none
def zWU (c f:Str) (am:AM):SM:=fun r=>zA3 (am (full r)) fun ds=>match ds with
  | [d]=>some (.error ⟨c,f,d⟩)
  | _=>none
def sRaise0 (c:Str) (am:AM):SM:=fun r=>zA3 (am (full r)) fun ds=>@ite _ (ds.length≤1000) (qA4 _) (some (.error ⟨c,"",.non⟩)) none
def eAtX (hs:List Str) (f:Str) (a:EM):EM:=fun ρ=>zA3 (a ρ) fun d=>match d with
  | .exc c g x=>if c∈hs∧g = f then okR x else none
  | _=>none
def eIsX (ys ns:List Str) (a:EM):EM:=fun ρ=>zA3 (a ρ) fun d=>match d with
  | .exc c _ _=>if c∈ys then okR (.bl true) else if c∈ns then okR (.bl false) else none
  | _=>none
noncomputable def goneO (i:Nat):Out→Out
  | .nx r=>.nx (r.set i none)
  | .rt d=>.rt d
  | .bk r=>.bk (r.set i none)
  | .ct r=>.ct (r.set i none)
def sTry (vs:List Nat) (j:Option Nat) (e:EM) (hs:List Str) (i:Nat) (s:SM):SM:=fun r=>match e (frz (frzAt vs r)) with
  | none=>none
  | some (.ok d)=>okR (.nx (match j with | none=>frzAt vs r | some j=>(frzAt vs r).set j (some (d,0))))
  | some (.error x)=>if x.cls∈hs then zA3 (s ((frzAt vs r).set i (some (.exc x.cls x.f x.d,0)))) fun o=>okR (goneO i o) else none
end
end Mi
namespace L3
open PySem PySem.Spec
open L2 hiding Rep RepL
open Mi (Dt Xn R okR zA3 optR zA0 zA9 zAC zA8 zAB Rh Sl Ro EM TM AM FM IM SM OM Tg Out zAU zAS zAZ full frz frz1 frzAt)
section
variable [Kc] {mg:Str→Option Value} {E:XK} {L n k l:Nat} {te ta tb:TE} {e ea eb ma:EM} {t:TA} {m:AM}
theorem zT7 {f:FM} (A:DA mg E t m 0):DE mg E (zHD (spM mg n f) [] E0 t) (Mi.eCallN f m) n:=by
  intro G H σ ρ Q s w p
  refine A.step errE s w p fun ds vs G1 H1 S T _ fr o p1=>?_
  refine ⟨G1,ds,fr.ext.in',by rw [qD8]; exact o.repL,?_⟩
  have p2:=PostE.from p1 fr.ext
  cases e:f ds with
  | none=>rw [e] at p2; exact p2
  | some r =>
    rw [e] at p2
    cases r with
    | error x=>exact p2.elim
    | ok d=>exact p2
def zWS (K:qA2) (f:Str):Sp:=fun vs H Q _=>∃ e C y,vs = [.ref e,y]∧H e = some (xn e (.ref C) none)∧PySem.W.xcIn K C = true∧XSet K C f∧∀ d,H d = none→d≠e→Q .non (upd (upd H d (.xd [(f,y)])) e (xn e (.ref C) (some d)))
theorem Sat.del {G0 H0 S0:Hp} {σ:St} {ρ:Ro} {G H:Hp} {As:Nat→Addr→Prop} (a:Sat G0 H0 S0 σ ρ G H As) (i:Nat):Sat G0 H0 S0 (σ.set i none) (ρ.set i none) G H As:=by
  refine ⟨a.ext,a.stb,by simp [a.len],fun j d n e=>?_,a.dis,a.new⟩
  by_cases z:i = j
  · subst z
    have hj:i < ρ.length:=by
      have:=(qA1.mp e).1
      simpa using this
    rw [qAf hj] at e
    cases e
  · rw [qAh z] at e
    rw [qAh z]
    exact a.at j d n e
theorem zQY {G0 H0 S0:Hp} {i:Nat} {r:R Out} {D:Ends} (p:zDG mg E G0 H0 S0 L (zA3 r fun o=>okR (Mi.goneO i o)) D):zDG mg E G0 H0 S0 L r (zSZ i D):=by
  cases r with
  | none=>exact p
  | some r =>
    cases r with
    | error x=>exact p
    | ok o =>
      cases o with
      | nx ρ=>exact fun σ G H As a=>p _ G H As (a.del i)
      | rt d=>exact p
      | bk ρ=>exact fun σ G H As a=>p _ G H As (a.del i)
      | ct ρ=>exact fun σ G H As a=>p _ G H As (a.del i)
theorem zYQ {te:XK→TE} {hs:List Str} {c:Value} {i:Nat} {ts:TS} {sm:SM} (j:Option Nat) (vs:List Nat) (hh:∀ c'∈hs,∃ C,clK Kc.K c' = some C∧qCy Kc.K (.ref C) c = some true) (A:∀ E',DE mg E' (te E') e 0) (B:DS mg E L ts sm) :
    DS mg E L (zTE Kc.K c i (fun D E' σ H=>te (E' σ) σ H (fun v H1=>match j with | none=>D.nx σ H1 | some j=>D.nx (σ.set j (some v)) H1)) ts) (Mi.sTry vs j e hs i sm):=by
  intro G0 H0 S0 σ ρ G H As D a p
  obtain ⟨G1,As1,a1⟩:=Sat.frzAt vs a
  unfold Mi.sTry at p
  refine (A _) G1 H σ (frz (frzAt vs ρ)) _ a1.ext.in' a1.frz ?_
  cases ee:e (frz (frzAt vs ρ)) with
  | none=>rw [ee] at p; exact p
  | some r =>
    rw [ee] at p
    cases r with
    | ok d =>
      intro v G2 H2 S fr o
      cases j with
      | none=>exact p σ G1 H2 As1 (a1.grow fr.ext.h)
      | some j=>exact p _ G2 H2 _ ((a1.wider fr.ext).put (i:=j) (S:=fun _=>False) (n:=0) (d:=d) (v:=v) o (fun _ z=>z.elim) (fun _ _ _ _ z=>z.elim))
    | error x =>
      by_cases hm:x.cls∈hs
      · have p':zDG mg E G0 H0 S0 L (zA3 (sm ((frzAt vs ρ).set i (some (.exc x.cls x.f x.d,0)))) fun o=>okR (Mi.goneO i o)) D:=by
          have p2:zDG mg E G0 H0 S0 L (if x.cls∈hs then zA3 (sm ((frzAt vs ρ).set i (some (.exc x.cls x.f x.d,0)))) fun o=>okR (Mi.goneO i o) else none) D:=p
          rw [if_pos hm] at p2; exact p2
        intro c' da G2 H2 x2 hX
        obtain ⟨e',C,rfl,h1,h2,h3⟩:=hX
        obtain ⟨C',hc1,hc2⟩:=hh _ hm
        rw [h2] at hc1
        cases hc1
        refine ⟨e',.ref C,rfl,x2.in' _ _ h1,hc2,?_⟩
        exact B G0 H0 S0 _ _ G2 H2 _ (zSZ i D) ((a1.wider x2).put (i:=i) (S:=fun _=>False) (n:=0) (d:=.exc x.cls x.f x.d) (v:=.ref e') ⟨e',C,da,rfl,.inr h1,h2,h3⟩ (fun _ z=>z.elim) (fun _ _ _ _ z=>z.elim)) (zQY p')
      · have p2:zDG mg E G0 H0 S0 L (if x.cls∈hs then zA3 (sm ((frzAt vs ρ).set i (some (.exc x.cls x.f x.d,0)))) fun o=>okR (Mi.goneO i o) else none) D:=p
        rw [if_neg hm] at p2
        exact p2.elim
noncomputable def kitV (K:qA2) (C:Addr):V→Option Bool
  | .ref c=>qBf K (.ref C) (.ref c)
  | .ty n=>qBf K (.ref C) (.type n)
  | _=>none
theorem zYE {ys ns:List Str} {ρ:Rh} {P:V→Hp→(V→Hp→Prop)→Prop} {b0:Addr→Bool→Prop} {G H:Hp} {σ:St} {Q:VK} (hy:∀ c∈ys,∃ C,clK Kc.K c = some C∧Xc.XIs Kc.K C∧b0 C true) (hn:∀ c∈ns,∃ C,clK Kc.K c = some C∧Xc.XIs Kc.K C∧b0 C false) (A:DE mg E ta ma k) (s:Same G H) (w:View G σ ρ)
    (p:PostE mg E G H 0 (Mi.eIsX ys ns ma ρ) Q) (h:∀ e C d G1 H1 b,Ext G H G1 H1→isX H1 e C d→(∀ a,d = some a→∃ fs,H1 a = some (.xd fs))→Xc.XIs Kc.K C→b0 C b→(∀ G2 H2,Ext G1 H1 G2 H2→Q (.bl b) H2)→P (.ref e) H1 Q):ta σ H fun x H1=>P x H1 Q:=by
  refine (zAO A).step errE s w p fun d v G1 H1 S _ fr o p1=>?_
  cases d with
  | exc c g x =>
    obtain ⟨e,C,da,rfl,hx,hc,r⟩:=o
    have hx':isX H1 e C da:=hx.imp (fun z=>fr.ext.in' _ _ z) fun z=>fr.ext.in' _ _ z
    have hd:∀ a,da = some a→∃ fs,H1 a = some (.xd fs):=fun a ea=>by
      rcases r with ⟨z,_⟩ | ⟨a',gs,y,z,h1,_⟩
      · rw [z] at ea; cases ea
      · rw [z] at ea; cases ea; exact ⟨gs,fr.ext.in' _ _ h1⟩
    dsimp only at p1
    split at p1
    · rename_i hm
      obtain ⟨C',hc',c1,c2⟩:=hy c hm
      rw [hc] at hc'
      cases hc'
      exact h e C da G1 H1 true fr.ext hx' hd c1 c2 fun G2 H2 x2=>PostE.val p1 (fr.ext.trans x2) rfl rfl
    · split at p1
      · rename_i hm
        obtain ⟨C',hc',c1,c2⟩:=hn c hm
        rw [hc] at hc'
        cases hc'
        exact h e C da G1 H1 false fr.ext hx' hd c1 c2 fun G2 H2 x2=>PostE.val p1 (fr.ext.trans x2) rfl rfl
      · exact p1.elim
  | _=>exact p1.elim
theorem zO5 {ys ns:List Str} {y:V} (hy:∀ c∈ys,∃ C,clK Kc.K c = some C∧Xc.XIs Kc.K C∧kitV Kc.K C y = some true) (hn:∀ c∈ns,∃ C,clK Kc.K c = some C∧Xc.XIs Kc.K C∧kitV Kc.K C y = some false) (A:DE mg E ta ma k) :
    DE mg E (tCB (zUQ Kc.K) (zD8 ta (zD8 (tC y) tNil))) (Mi.eIsX ys ns ma) 0:=by
  intro G H σ ρ Q s w p
  refine zYE (P:=fun x H1 Q=>zUQ Kc.K [x,y] H1 Q) (b0:=fun C b=>kitV Kc.K C y = some b) hy hn A s w p fun e C d G1 H1 b x1 hx hd c1 c2 q=>?_
  refine ⟨e,C,d,y,b,rfl,hx,hd,c1,q G1 H1 (Ext.refl x1.in'),?_⟩
  cases y with
  | ref c=>exact .inl ⟨c,rfl,c2⟩
  | ty n=>exact .inr (.inl ⟨n,rfl,c2⟩)
  | _=>cases c2
end
end L3
namespace L3
open PySem PySem.Spec
open L2 hiding Rep RepL
open Mi (Dt Xn R okR zA3 optR zA0 zA9 zAC zA8 zAB Rh Sl Ro EM TM AM FM IM SM OM Tg Out zAU zAS zAZ full frz frz1 frzAt)
section
variable {K:qA2} {C D:Addr} {dd:Option Addr} {cd:ClassData} {sl:Array (Option Value)} {b:Bool}
def xcD (C:Addr) (cd:ClassData) (sl:Array (Option Value)):Bool:=match cd.mro,sl.toList with
  | .ref C' :: bm,[_,_,_,_,some (.builtin n),_]=>C' == C && !cd.hasDel && PySem.W.excTail bm && n == "ValueError.__new__" && cd.hasDict
  | _,_=>false
theorem zI3 (h:K.lookup C = some ⟨.type "type",dd,.cls cd,sl⟩) (h':xcD C cd sl = true):PySem.W.xcIn K C = true:=by
  unfold PySem.W.xcIn
  rw [h]
  exact h'
theorem zGT (h1:qC1 K D = some cd) (h2:qC2 K (.ref D) = some (.type "type")) (h3:qAl K (.ref C) (.ref D) = some b):PySem.W.kitCls K (.ref C) (.ref D) = some b:=by
  show (if ((qC1 K D).isSome && qC2 K (.ref D) == some (.type "type")) = true then qAl K (.ref C) (.ref D) else none) = some b
  rw [h1,h2,if_pos (by rw [qEg,Bool.true_and]; exact beq_self_eq_true _)]
  exact h3
theorem zJ2 (h1:qC1 K D = some cd) (h2:qC2 K (.ref D) = some (.type "type")) (h3:qAl K (.ref C) (.ref D) = some true):qBf K (.ref C) (.ref D) = some true:=by
  unfold qBf
  split
  · rfl
  · exact zGT h1 h2 h3
theorem zCA (h1:qC1 K D = some cd) (h2:qC2 K (.ref D) = some (.type "type")) (h3:qAl K (.ref C) (.ref D) = some false) (ne:(C == D) = false):qBf K (.ref C) (.ref D) = some false:=by
  unfold qBf
  split
  · rename_i z
    have:C = D:=Value.ref.inj (beq_iff_eq.mp z)
    rw [this,beq_self_eq_true] at ne
    cases ne
  · exact zGT h1 h2 h3
theorem zEY (h3:qAl K (.ref C) (.type "ValueError") = some true):qBf K (.ref C) (.type "ValueError") = some true:=by
  unfold qBf
  split
  · rfl
  · show (if PySem.W.kitMeta "ValueError" = true then qAl K (.ref C) (.type "ValueError") else none) = some true
    rw [if_pos (by decide +kernel)]
    exact h3
theorem zF0 (h0:qAl K (.ref D) (.type "BaseException") = some true) (h1:qC1 K D = some cd) (h2:qC2 K (.ref D) = some (.type "type")) (h3:qAl K (.ref C) (.ref D) = some true):qCy K (.ref C) (.ref D) = some true:=by
  unfold qCy
  rw [h0,if_pos (beq_self_eq_true _)]
  exact zGT h1 h2 h3
end
structure XCls (K:qA2) (mg:Str→Option Value) (c:Str) (C:Addr):Prop where
  cl:clK K c = some C
  gm:mg c = some (.ref C)
  is:Xc.XIs K C
structure XIni (P:Program) (w:World) (K:qA2) (mg:Str→Option Value) (base:Heap) (c f:Str) (C:Addr):Prop extends XCls K mg c C where
  kp:qB9 K (.ref C) = true
  st:XSet K C f
  fa:qAm K (.ref C) f = some none
  ini:∃ fI fd ps,qAm K (.ref C) "__init__" = some (some (.ref fI))∧qG1 K (.ref fI) = true∧FnOk P w K mg base (CXe P w) 1 fI fd ps (zWS K f)∧Binds K fd ps []
theorem zCC {K:qA2} {c:Str} {C:Addr} (h:qCb K mainGlobals c = some (some (.ref C))):clK K c = some C:=by unfold clK; rw [h]
theorem zHB:bootBuiltins "ValueError" = some (.type "ValueError"):=by decide +kernel
theorem zUY {P:Program} {w:World} {K:qA2} {mg:Str→Option Value} {base:Heap} {N:List Str} {qual:Str} {scope:Scope} {f:Addr} {cd:Value} {A:Around} {outer:List Env} {s:Shared} {H:Hp} {E:XK} :
    PassesOwn (model P w) (A.deeper (qFl qual scope s.heap.objs.size f cd)) (qFl qual scope s.heap.objs.size f cd) (cxOf (CXe P w) P w K mg base N qual scope f cd A outer s H E).xe:=PassesOwn.leaving
def spE (K:qA2) (mg:Str→Option Value) (L:Nat) (f:Mi.FM):Sp:=fun vs H Q E=>@spM ⟨K⟩ mg L f vs H Q E
section
variable [Kc] {mg:Str→Option Value} {E:XK} {L n k l:Nat} {te ta tb:TE} {e ea eb ma:EM} {t:TA} {m:AM}
theorem zF3 {f:FM} {E':XK} (A:DA mg E t m 0):DE mg E (zHD (sp0 Kc.K mg n f) [] E' t) (Mi.eCallN f m) n:=zT7 A
theorem zG8 {f:FM} (A:DA mg E t m 0):DE mg E (zHD (spE Kc.K mg n f) [] E t) (Mi.eCall f m) n:=zAQ A
end
noncomputable def zK2 (K:qA2):Sp:=fun vs H Q _=>∃ (a:Addr) (ns:List Int),vs = [.ref a]∧SqL K H a (ns.map V.int)∧ns.length≤63∧(∀ i∈ns,i.natAbs.log2 < 2 ^ 20)∧∀ H',Q (.bl true) H'
theorem zST {K:qA2} {mg:Str→Option Value} {L:Nat} {f:FM} (hf:∀ ns:List Int,ns.length≤63→(∀ i∈ns,i.natAbs.log2 < 2 ^ 20)→f [.scr ns] = okR (.bl true)):∀ vs H Q E,zK2 K vs H Q E→sp0 K mg L f vs H Q E:=by
  letI:Kc:=⟨K⟩
  rintro vs H Q E ⟨a,ns,rfl,hS,hl,hw,q⟩
  refine ⟨H,[.scr ns],Same.refl _,⟨_,_,rfl,⟨a,rfl,.inl hS⟩,rfl⟩,?_⟩
  rw [hf ns hl hw]
  intro v G' H' S fr o
  cases (show v = .bl true by cases L <;> exact o)
  exact q H'
end L3
namespace Mi
open PySem
section
variable (ρ:Rh) (r:Ro) (a b c:EM) (s t:SM) (q q':TM) (am:AM)
@[simp] theorem x_eC (d:Dt):eC d ρ = okR d:=rfl
@[simp] theorem x_eV (i:Nat):eV i ρ = match ρ[i]? with | some (some d)=>okR d | _=>none:=rfl
@[simp] theorem x_eB (f:Dt→Dt→Option Dt):eB f a b ρ = zA3 (a ρ) fun x=>zA3 (b ρ) fun y=>optR (f x y):=rfl
@[simp] theorem x_eU (f:Dt→Option Dt):eU f a ρ = zA3 (a ρ) fun x=>optR (f x):=rfl
@[simp] theorem zCO:aNil ρ = okR []:=rfl
@[simp] theorem zB7:aCons a am ρ = zA3 (a ρ) fun x=>zA3 (am ρ) fun xs=>okR (x :: xs):=rfl
@[simp] theorem zGA (f:FM):eCall f am ρ = zA3 (am ρ) f:=rfl
@[simp] theorem zUD (f:List Dt→Option Dt):eBi f am ρ = zA3 (am ρ) fun xs=>optR (f xs):=rfl
@[simp] theorem zWE:eLst am ρ = zA3 (am ρ) fun xs=>@ite _ (xs.length≤100000) (qA4 _) (okR (.lst xs)) none:=rfl
@[simp] theorem x_eTup:eTup am ρ = zA3 (am ρ) fun xs=>@ite _ (xs.length≤100000) (qA4 _) (okR (.tup xs)) none:=rfl
@[simp] theorem x_eIsi (n:String):eIsi n a ρ = zA3 (a ρ) fun x=>optR (isiD n x):=rfl
@[simp] theorem x_eAnd:eAnd a b ρ = zA3 (a ρ) fun x=>match x with | .bl k=>if k = true then b ρ else okR (.bl false) | _=>none:=rfl
@[simp] theorem x_eOr:eOr a b ρ = zA3 (a ρ) fun x=>match x with | .bl k=>if k = true then okR (.bl true) else b ρ | _=>none:=rfl
@[simp] theorem x_eNot:eNot a ρ = zA3 (a ρ) fun x=>match x with | .bl k=>okR (.bl (!k)) | _=>none:=rfl
@[simp] theorem x_eChain (f g:Dt→Dt→Option Dt):zYO f g a b c ρ = zA3 (a ρ) fun x=>zA3 (b ρ) fun y=>zA3 (optR (f x y)) fun z=>match z with | .bl k=>if k = true then zA3 (c ρ) fun w=>optR (g y w) else okR (.bl false) | _=>none:=rfl
@[simp] theorem zZ7:eIf q a b ρ = zA3 (q ρ) fun k=>if k = true then a ρ else b ρ:=rfl
@[simp] theorem x_tB:tB a ρ = zA3 (a ρ) fun x=>match x with | .bl k=>okR k | _=>none:=rfl
@[simp] theorem x_tM:tM a ρ = zA3 (a ρ) fun x=>match x with | .bl k=>okR k | .int i=>okR (i != 0) | .non=>okR false | _=>none:=rfl
@[simp] theorem x_tAn:tAn q q' ρ = zA3 (q ρ) fun k=>if k = true then q' ρ else okR false:=rfl
@[simp] theorem zZ5:tOr q q' ρ = zA3 (q ρ) fun k=>if k = true then okR true else q' ρ:=rfl
@[simp] theorem zZ6:tNo q ρ = zA3 (q ρ) fun k=>okR (!k):=rfl
@[simp] theorem zWD:tYes ρ = okR true:=rfl
@[simp] theorem zTC:sNil r = okR (.nx r):=rfl
@[simp] theorem zHM:sSeq s t r = zA3 (s r) fun o=>match o with | .nx ρ'=>t ρ' | o=>okR o:=rfl
@[simp] theorem zP9:sIf q s t r = zA3 (q (full r)) fun k=>if k = true then s r else t r:=rfl
@[simp] theorem x_sDrop:zZJ a r = zA3 (a (full r)) fun _=>okR (.nx r):=rfl
@[simp] theorem x_sBreak:zWX r = okR (.bk r):=rfl
@[simp] theorem x_sCont:zZK r = okR (.ct r):=rfl
@[simp] theorem x_sNever:zWV r = none:=rfl
@[simp] theorem x_sRetN:zZI r = okR (.rt .non):=rfl
@[simp] theorem zJS (i n:Nat) (vs:List Nat):sSet i n vs a r = zA3 (a (full r)) fun d=>if d.dep≤n then okR (.nx (r.set i (some (d,n)))) else zA3 (a (frz (frzAt vs r))) fun d'=>okR (.nx ((frzAt vs r).set i (some (d',n)))):=rfl
@[simp] theorem zP8 (L n:Nat) (vs:List Nat):sRet L n vs a r = zA3 (a (full r)) fun d=>if d.dep≤n∧d.dep≤L then okR (.rt d) else if n = L then zA3 (a (frz (frzAt vs r))) fun d'=>okR (.rt d') else none:=rfl
@[simp] theorem x_sRetV (L i:Nat):sRetV L i r = match r[i]? with | some (some (d,k))=>if k = L∨L = 0∨(d.dep≤k∧d.dep≤L∧k < 1000) then okR (.rt d) else none | _=>none:=rfl
@[simp] theorem zFB:full [] = []:=rfl
@[simp] theorem zE6 (o:Option Sl) (r:Ro):full (o :: r) = o.map qHs :: full r:=rfl
@[simp] theorem x_frz_nil:frz [] = []:=rfl
@[simp] theorem x_frz_none (r:Ro):frz (none :: r) = none :: frz r:=rfl
@[simp] theorem x_frz_some (d:Dt) (n:Nat) (r:Ro):frz (some (d,n) :: r) = (if n = 0∨d.dep = 0 then some d else none) :: frz r:=rfl
@[simp] theorem x_frzAt_nil (r:Ro):frzAt [] r = r:=rfl
@[simp] theorem x_frzAt_cons (i:Nat) (v:List Nat) (r:Ro):frzAt (i :: v) r = frzAt v (frz1 i r):=rfl
@[simp] theorem x_frz1 (i:Nat) (r:Ro):frz1 i r = match r[i]? with | some (some (d,_))=>r.set i (some (d,0)) | _=>r:=rfl
@[simp] theorem x_startO (n:Nat) (ds:List Dt):startO n ds = ds.map (fun d=>some (d,0)) ++ qA8 (n - ds.length) none:=rfl
@[simp] theorem x_runF (P n:Nat) (ds:List Dt):runF P n s ds = if ds.length = P then zA3 (s (startO n ds)) endF else none:=rfl
@[simp] theorem x_end1 (r:Ro):endF (.nx r) = okR .non:=rfl
@[simp] theorem x_end2 (d:Dt):endF (.rt d) = okR d:=rfl
end
@[simp] theorem zZB (i j:Int):addD (.int i) (.int j) = some (.int (i + j)):=rfl
@[simp] theorem zWI (i j:Str):addD (.str i) (.str j) = @ite _ (i.length + j.length≤100000) (qA4 _) (some (.str (i ++ j))) none:=rfl
@[simp] theorem v_addL (i j:List Dt):addD (.lst i) (.lst j) = @ite _ (i.length + j.length≤100000) (qA4 _) (some (.lst (i ++ j))) none:=rfl
@[simp] theorem v_sub (i j:Int):subD (.int i) (.int j) = some (.int (i - j)):=rfl
@[simp] theorem zOE (i j:Int):mulD (.int i) (.int j) = @ite _ (((-18446744073709551616 < i∧i < 18446744073709551616)∨(-18446744073709551616 < j∧j < 18446744073709551616))∨i.natAbs.log2 + j.natAbs.log2≤67108864) (qA4 _) (some (.int (i * j))) none:=rfl
@[simp] theorem v_div (i j:Int):divD (.int i) (.int j) = @ite _ (0 < j∧j < 1000000000000000000000000) (qA4 _) (some (.int (i / j))) none:=rfl
@[simp] theorem zS0 (i j:Int):modD (.int i) (.int j) = if 0 < j then some (.int (i % j)) else none:=rfl
@[simp] theorem v_pow (i j:Int):powD (.int i) (.int j) = @ite _ (0≤j∧j≤1000000∧i.natAbs < 18446744073709551616) (qA4 _) (some (.int (i ^ j.toNat))) none:=rfl
@[simp] theorem v_neg (i:Int):negD (.int i) = some (.int (-i)):=rfl
@[simp] theorem v_cmp (p:Int→Int→Bool) (i j:Int):cmpD p (.int i) (.int j) = some (.bl (p i j)):=rfl
@[simp] theorem v_eq (x y:Dt):eqD x y = if x.dep≤40∧y.dep≤40 then some (.bl (Dt.eq x y)) else none:=rfl
@[simp] theorem v_ne (x y:Dt):neD x y = if x.dep≤40∧y.dep≤40 then some (.bl (!Dt.eq x y)) else none:=rfl
@[simp] theorem v_is (x:Dt):isD x .non = some (.bl (zE3 x)):=rfl
@[simp] theorem v_isnt (x:Dt):za5 x .non = some (.bl (!zE3 x)):=rfl
@[simp] theorem v_isN1:zE3 .non = true:=rfl
@[simp] theorem v_isN2 (i:Int):zE3 (.int i) = false:=rfl
@[simp] theorem v_isN3 (i:List Dt):zE3 (.lst i) = false:=rfl
@[simp] theorem v_isN4 (i:List Dt):zE3 (.tup i) = false:=rfl
@[simp] theorem v_isN5 (i:Str):zE3 (.str i) = false:=rfl
@[simp] theorem v_isN6 (i:Bool):zE3 (.bl i) = false:=rfl
@[simp] theorem zFC (xs:List Dt) (i:Int):ixD (.lst xs) (.int i) = itA xs i:=rfl
@[simp] theorem v_ixT (xs:List Dt) (i:Int):ixD (.tup xs) (.int i) = itA xs i:=rfl
@[simp] theorem v_ixS (ns:List Int) (i:Int):ixD (.scr ns) (.int i) = (itA ns i).map .int:=rfl
@[simp] theorem v_lenL (xs:List Dt):lenD [.lst xs] = some (.int xs.length):=rfl
@[simp] theorem v_lenT (xs:List Dt):lenD [.tup xs] = some (.int xs.length):=rfl
@[simp] theorem v_lenS (ns:List Int):lenD [.scr ns] = some (.int ns.length):=rfl
@[simp] theorem v_listL (xs:List Dt):listD [.lst xs] = some (.lst xs):=rfl
@[simp] theorem v_listT (xs:List Dt):listD [.tup xs] = some (.lst xs):=rfl
@[simp] theorem v_listS (ns:List Int):listD [.scr ns] = some (.lst (ns.map .int)):=rfl
@[simp] theorem v_dn:Dt.non.dep = 0:=rfl
@[simp] theorem v_db (b:Bool):(Dt.bl b).dep = 0:=rfl
@[simp] theorem v_di (b:Int):(Dt.int b).dep = 0:=rfl
@[simp] theorem v_ds (b:Str):(Dt.str b).dep = 0:=rfl
@[simp] theorem v_dS (b:List Int):(Dt.scr b).dep = 1000:=by rw [Dt.dep]
@[simp] theorem v_dl (xs:List Dt):(Dt.lst xs).dep = Dt.depL xs + 1:=by rw [Dt.dep]
@[simp] theorem v_dt (xs:List Dt):(Dt.tup xs).dep = Dt.depL xs + 1:=by rw [Dt.dep]
@[simp] theorem v_dnil:Dt.depL [] = 0:=by rw [Dt.depL]
@[simp] theorem zI8 (x:Dt) (r:List Dt):Dt.depL (x :: r) = max x.dep (Dt.depL r):=by rw [Dt.depL]
@[simp] theorem v_e1 (i j:Int):Dt.eq (.int i) (.int j) = decide (i = j):=by rw [Dt.eq]; by_cases h:i = j <;> simp [h]
@[simp] theorem v_e2 (i j:Str):Dt.eq (.str i) (.str j) = decide (i = j):=by rw [Dt.eq]; by_cases h:i = j <;> simp [h]
@[simp] theorem v_e3 (i j:Bool):Dt.eq (.bl i) (.bl j) = decide (i = j):=by rw [Dt.eq]; by_cases h:i = j <;> simp [h]
@[simp] theorem v_e4 (i j:List Dt):Dt.eq (.lst i) (.lst j) = Dt.eqL i j:=by rw [Dt.eq]
@[simp] theorem v_e5 (i j:List Dt):Dt.eq (.tup i) (.tup j) = Dt.eqL i j:=by rw [Dt.eq]
@[simp] theorem v_e6:Dt.eq .non .non = true:=by rw [Dt.eq]
@[simp] theorem zD3:∀ (ns:List Int),Dt.depL (ns.map Dt.int) = 0
  | []=>by simp
  | n :: r=>by rw [qAi,zI8,zD3 r]; rfl
@[simp] theorem zT6:∀ (xs ys:List Dt),Dt.depL (xs ++ ys) = max (Dt.depL xs) (Dt.depL ys)
  | [],ys=>by simp
  | x :: r,ys=>by rw [qGc,zI8,zI8,zT6 r ys]; exact (Nat.max_assoc _ _ _).symm
@[simp] theorem zF2:∀ (ns ms:List Int),Dt.eqL (ns.map Dt.int) (ms.map Dt.int) = decide (ns = ms)
  | [],[]=>by simp [Dt.eqL]
  | [],_ :: _=>by simp [Dt.eqL]
  | _ :: _,[]=>by simp [Dt.eqL]
  | n :: r,m :: q=>by rw [qAi,qAi,Dt.eqL,zF2 r q,v_e1]; simp
theorem zC7 {α:Type} {xs:List α} {i:Int} {j:Nat} {v:α} (e:i = (j:Int)) (h:xs[j]? = some v):itA xs i = some v:=by
  have hj:j < xs.length:=(qA1.mp h).1
  subst e
  unfold itA ixA
  rw [if_pos (by omega),if_pos (by omega)]
  simpa using h
theorem zTO {n:Nat} {i:Int} (h0:0≤i) (h1:i < n):ixA n i = some i.toNat:=by
  unfold ixA; rw [if_pos h0,if_pos h1]
theorem zSW {ns:List Int} {i:Int} (h0:0≤i) (h1:i < ns.length):itA (ns.map Dt.int) i = some (.int (ns.getD i.toNat 0)):=by
  refine zC7 (j:=i.toNat) (by omega) ?_
  rw [qAd,qA0,qA3 (by omega)]
  rfl
theorem zVM {ns:List Int} {i:Int} (h0:0≤i) (h1:i < ns.length):itA ns i = some (ns.getD i.toNat 0):=by
  refine zC7 (j:=i.toNat) (by omega) ?_
  rw [qA0,qA3 (by omega)]
  rfl
@[simp] theorem set_int (ns:List Int) (i:Nat) (x:Int):(ns.map Dt.int).set i (.int x) = (ns.set i x).map Dt.int:=by rw [qHm]
theorem zO9 {ρ:Rh} {k:Nat} {tg:Tg} {c:TM} {e:EM} (f:Dt→Dt):∀ (ds acc:List Dt),(∀ d∈ds,∃ bs,zAU tg d = some bs∧c (zAS (ρ ++ qA8 k none) bs) = okR true∧e (zAS (ρ ++ qA8 k none) bs) = okR (f d))→compGo ρ k tg c e ds acc = okR (acc ++ ds.map f)
  | [],acc,_=>by simp [compGo]
  | d :: ds,acc,h=>by
    obtain ⟨bs,h1,h2,h3⟩:=h d (by simp)
    rw [compGo,h1]
    simp only
    rw [h2,zA0,if_pos rfl,h3,zA0,zO9 f ds (acc ++ [f d]) fun d hd=>h d (by simp [hd])]
    simp
theorem zDD {ρ:Rh} {k:Nat} {tg:Tg} {c:TM} {e:EM} (p:Dt→Bool) (f:Dt→Dt):∀ (ds acc:List Dt),(∀ d∈ds,∃ bs,zAU tg d = some bs∧c (zAS (ρ ++ qA8 k none) bs) = okR (p d)∧(p d = true→e (zAS (ρ ++ qA8 k none) bs) = okR (f d)))→compGo ρ k tg c e ds acc = okR (acc ++ (ds.filter p).map f)
  | [],acc,_=>by simp [compGo]
  | d :: ds,acc,h=>by
    obtain ⟨bs,h1,h2,h3⟩:=h d (by simp)
    rw [compGo,h1]
    simp only
    rw [h2,zA0]
    cases hp:p d with
    | true =>
      rw [if_pos rfl,h3 hp,zA0,zDD p f ds (acc ++ [f d]) fun d hd=>h d (by simp [hd])]
      simp [hp]
    | false =>
      rw [if_neg (by decide),zDD p f ds acc fun d hd=>h d (by simp [hd])]
      simp [hp]
theorem zJ7 {tg:Tg} {b:SM} (Pv:Nat→Ro→Prop):∀ (ds:List Dt) (i:Nat) (r:Ro),Pv i r→(∀ (j:Nat) (d:Dt) (r:Ro),ds[j]? = some d→Pv (i + j) r→∃ bs r',zAU tg d = some bs∧b (zAZ r bs) = okR (.nx r')∧Pv (i + j + 1) r') →
    ∃ r',forGo tg b ds r = okR (.nx r')∧Pv (i + ds.length) r'
  | [],i,r,h,_=>⟨r,by simp [forGo],by simpa using h⟩
  | d :: ds,i,r,h,hs=>by
    obtain ⟨bs,r1,h1,h2,h3⟩:=hs 0 d r (by simp) (by simpa using h)
    obtain ⟨r2,h4,h5⟩:=zJ7 Pv ds (i + 1) r1 (by simpa using h3) fun j e r he hp=>by
      have:=hs (j + 1) e r (by simpa using he) (by rw [show i + (j + 1) = i + 1 + j by omega]; exact hp)
      rw [show i + 1 + j + 1 = i + (j + 1) + 1 by omega]
      exact this
    refine ⟨r2,?_,by rw [qAu,show i + (ds.length + 1) = i + 1 + ds.length by omega]; exact h5⟩
    rw [forGo,h1]
    simp only
    rw [h2,zA0]
    exact h4
theorem zJT {c:TM} {b:SM} (Pv:Ro→Prop) (μ:Ro→Nat) (Rv:Ro→Prop) (hc:∀ r,Pv r→(c (full r) = okR false∧Rv r)∨(c (full r) = okR true∧∃ r',b r = okR (.nx r')∧Pv r'∧μ r' < μ r)) :
    ∀ (m:Nat) (r:Ro),Pv r→μ r < m→∃ r',whGo c b m r = okR (.nx r')∧Rv r'
  | 0,r,_,h=>by omega
  | m + 1,r,h,hm=>by
    rw [whGo]
    rcases hc r h with ⟨h1,h2⟩ | ⟨h1,r1,h2,h3,h4⟩
    · rw [h1,zA0,if_neg (by decide)]; exact ⟨r,rfl,h2⟩
    · rw [h1,zA0,if_pos rfl,h2,zA0]
      exact zJT Pv μ Rv hc m r1 h3 (by omega)
theorem zOL {c:TM} {b:SM} (Pv:Ro→Prop) (μ:Ro→Nat) (Rv:Ro→Prop) {r:Ro} (h0:Pv r) (hm:μ r < 1000000) (hc:∀ r,Pv r→(c (full r) = okR false∧Rv r)∨(c (full r) = okR true∧∃ r',b r = okR (.nx r')∧Pv r'∧μ r' < μ r)):∃ r',sWhile c b r = okR (.nx r')∧Rv r' :=
  zJT Pv μ Rv hc WN r h0 (by rw [za9]; exact hm)
end Mi
namespace Mi
open PySem
section
variable (ρ:Rh) (r:Ro) (a:EM) (am:AM) (s:SM)
@[simp] theorem x_noE_ok {α:Type} (x:α):noE (okR x) = okR x:=rfl
@[simp] theorem x_noE_none {α:Type}:noE (none:R α) = none:=rfl
@[simp] theorem x_noE_err {α:Type} (e:Xn):noE (some (.error e):R α) = none:=rfl
@[simp] theorem x_eCallN (f:FM):eCallN f am ρ = zA3 (am ρ) fun ds=>noE (f ds):=rfl
@[simp] theorem x_eMkX (c f:Str):eMkX c f am ρ = zA3 (am ρ) fun ds=>match ds with | [d]=>okR (.exc c f d) | _=>none:=rfl
@[simp] theorem x_sRaise (c f:Str):zWU c f am r = zA3 (am (full r)) fun ds=>match ds with | [d]=>some (.error ⟨c,f,d⟩) | _=>none:=rfl
@[simp] theorem x_eAtX (hs:List Str) (f:Str):eAtX hs f a ρ = zA3 (a ρ) fun d=>match d with | .exc c g x=>if c∈hs∧g = f then okR x else none | _=>none:=rfl
@[simp] theorem x_eIsX (ys ns:List Str):eIsX ys ns a ρ = zA3 (a ρ) fun d=>match d with | .exc c _ _=>if c∈ys then okR (.bl true) else if c∈ns then okR (.bl false) else none | _=>none:=rfl
@[simp] theorem x_gone_nx (i:Nat):goneO i (.nx r) = .nx (r.set i none):=rfl
@[simp] theorem x_gone_rt (i:Nat) (d:Dt):goneO i (.rt d) = .rt d:=rfl
theorem zUM {vs:List Nat} {j:Option Nat} {hs:List Str} {i:Nat} {x:Xn} (h:a (frz (frzAt vs r)) = some (.error x)) (hm:x.cls∈hs):sTry vs j a hs i s r = zA3 (s ((frzAt vs r).set i (some (.exc x.cls x.f x.d,0)))) fun o=>okR (goneO i o):=by
  unfold sTry
  rw [h]
  exact if_pos hm
end
example (d:Dt):True:=trivial
end Mi
namespace L2
open PySem PySem.Spec PyProof.Rows
section
variable {X:Cx}
noncomputable def zX4:R2:=fun x y H Q=>match x,y with
  | .int i,.int j=>Q (.int (Builtin.bitXor i j)) H
  | _,_=>False
theorem zZD:OpR X (binaryOp .BitXor) zX4:=by
  intro pins s σ H x y v u Q I rx ry h
  cases x <;> cases y <;> first
    | exact zXQ pins s σ H _ _ v u Q I rx ry ⟨_,_,rfl,rfl,h⟩
    | exact qA5 h
def zX7:R2:=fun x y H Q=>match x,y with
  | .ref l,.int k=>∃ xs,H l = some (.lst xs)∧(-(2 ^ 63)≤k∧k < 2 ^ 63)∧xs.length * k.toNat≤sizeLine∧∀ p,H p = none→Q (.ref p) (upd H p (.lst (qA8 k.toNat xs).flatten))
  | _,_=>False
theorem zZF:OpR X (binaryOp .Mult) zX7:=by
  intro pins s σ H x y v u Q I rx ry h
  cases x <;> cases y <;> first
    | (obtain ⟨xs,h1,h2,h3,h4⟩:=h; exact zXS pins s σ H _ _ v u Q I rx ry ⟨_,_,xs,rfl,rfl,h1,h2.1,h2.2,h3,h4⟩)
    | exact qA5 h
def extM:V→List V→Hp→VK→Prop:=fun x vs H Q=>match x,vs with
  | .ref l,[.ref b]=>∃ xs zs,H l = some (.lst xs)∧H b = some (.lst zs)∧xs.length + zs.length≤sizeLine∧Q .non (upd H l (.lst (xs ++ zs)))
  | _,_=>False
theorem zIV:MtR X "list.extend" extM:=by
  intro pins s σ H x vs v us Q I rx rv h
  cases x with
  | ref l =>
    cases vs with
    | nil=>exact qA5 h
    | cons hd1 tl1 =>
      cases hd1 with
      | ref b =>
        cases tl1 with
        | nil =>
          obtain ⟨xs,zs,h1,h2,h3,h4⟩:=h
          exact zQF pins s σ H _ _ v us Q I rx rv ⟨l,b,xs,zs,rfl,rfl,h1,h2,h3,h4⟩
        | cons _ _=>exact qA5 h
      | _=>exact qA5 h
  | _=>exact qA5 h
theorem zHY {x:V}:∀ {xs:List V} {us:List Value},Vals xs us→xs.all zCZ = true→us.countP (eqU x) = xs.countP fun y=>eqV y x
  | _,_,.nil,_=>rfl
  | y :: xs,u :: us,.cons r t,f=>by
    rw [qBz,qBb] at f
    rw [qE3,qE3,zNX r f.1,zHY t f.2]
def lcoM:V→List V→Hp→VK→Prop:=fun x vs H Q=>match x,vs with
  | .ref l,[y]=>∃ xs,H l = some (.lst xs)∧zCZ y = true∧xs.all zCZ = true∧Q (.int (xs.countP fun z=>eqV z y:Nat)) H
  | _,_=>False
theorem zQE:MtR X "list.count" lcoM:=by
  intro pins s σ H x vs v us Q I rx rv h
  cases x with
  | ref l =>
    cases vs with
    | nil=>exact qA5 h
    | cons y tl1 =>
      cases tl1 with
      | nil =>
        obtain ⟨xs,h1,h2,h3,h4⟩:=h
        cases rx
        obtain ⟨u,rfl,ru⟩:=zDF rv
        obtain ⟨z,its,n,r,hl,e⟩:=I.lstM h1
        refine call_meets qDa ⟨_,e,rfl⟩ PySem.F.entry_list_count (PySem.F.args_list_count_2 _ _)
          (SeqAt.list_countAt l its.toArray n none #[] u (eqU y)) ⟨e,fun w hw=>zEX ru h2 r h3 w (by simpa using hw),?_⟩
        refine ⟨.int _,H,I.tok _,⟨_,rfl⟩,?_⟩
        rw [show its.toArray.toList = its from rfl,zHY r h3]
        exact h4
      | cons _ _=>exact qA5 h
  | _=>exact qA5 h
end
section
variable {X:Cx} {K:qA2}
end
end L2
namespace Mi
open PySem
noncomputable section
noncomputable def xorD:Dt→Dt→Option Dt
  | .int i,.int j=>some (.int (Builtin.bitXor i j))
  | _,_=>none
noncomputable def repD:Dt→Dt→Option Dt
  | .lst xs,.int k=>@ite _ ((-4611686018427387904≤k∧k < 4611686018427387904)∧xs.length * k.toNat≤100000) (qA4 _) (some (.lst (qA8 k.toNat xs).flatten)) none
  | _,_=>none
def tL (a:EM):TM:=fun ρ=>zA3 (a ρ) fun x=>match x with
  | .bl k=>okR k
  | .int i=>okR (i != 0)
  | .non=>okR false
  | .lst xs=>okR (!xs.isEmpty)
  | .tup xs=>okR (!xs.isEmpty)
  | _=>none
def iRv (e:AM):IM:=fun ρ=>zA3 (e ρ) fun vs=>match vs with
  | [.lst xs]=>okR xs.reverse
  | _=>none
noncomputable def zVO:List Dt→Option (List Int)
  | []=>some []
  | .int i :: r=>(zVO r).map (i :: ·)
  | _ :: _=>none
def eMl (f:List Dt→List Dt→Option Dt) (a:EM) (am:AM):EM:=fun ρ=>zA3 (a ρ) fun x=>match x with
  | .lst xs=>zA3 (am ρ) fun ds=>optR (f xs ds)
  | _=>none
noncomputable def lcoD (xs ds:List Dt):Option Dt:=match ds with
  | [d]=>if d.dep = 0∧Dt.depL xs = 0 then some (.int (xs.countP fun y=>Dt.eq y d:Nat)) else none
  | _=>none
def sExt (i n:Nat) (e:EM):SM:=fun ρ=>match ρ[i]? with
  | some (some (.lst ds,k + 1))=>zA3 (e (full ρ)) fun d=>match d with
    | .lst es=>@ite _ (ds.length + es.length≤100000∧Dt.depL es≤n∧Dt.depL es≤k) (qA4 _) (okR (.nx (ρ.set i (some (.lst (ds ++ es),k + 1))))) none
    | _=>none
  | _=>none
noncomputable def low (i:Nat) (ρ:Ro):Ro:=match ρ[i]? with
  | some (some (.lst ds,_ + 1))=>ρ.set i (some (.lst ds,1))
  | _=>ρ
def sAppF (i:Nat) (vs:List Nat) (e:EM):SM:=fun ρ=>match (frzAt vs (low i ρ))[i]? with
  | some (some (.lst ds,1))=>zA3 (e (frz (frzAt vs (low i ρ)))) fun d=>@ite _ (ds.length≤100000) (qA4 _) (okR (.nx ((frzAt vs (low i ρ)).set i (some (.lst (ds ++ [d]),1))))) none
  | _=>none
end
end Mi
namespace L3
open PySem PySem.Spec
open L2 hiding Rep RepL
open Mi (Dt Xn R okR zA3 optR zA0 zA9 zAC zA8 zAB Rh Sl Ro EM TM AM FM IM SM Tg Out zAU zAS zAZ full frz frz1 frzAt)
section
variable [Kc] {mg:Str→Option Value} {E:XK} {L n k l:Nat} {te ta tb:TE} {e ea eb ma:EM} {t:TA} {m:AM}
theorem zWZ:ROp zX4 Mi.xorD n:=by
  intro mg E G H d e x y Q s h1 h2 p
  cases d with
  | int i =>
    cases e with
    | int j=>cases (show x = .int i from h1); cases (show y = .int j from h2); exact zPT s p rfl rfl rfl
    | _=>exact p.elim
  | _=>exact p.elim
theorem zSB {G:Hp} {ds es:List Dt} {xs ys:List V} (ra:RepL G ds xs) (rb:RepL G es ys):RepL G (ds ++ es) (xs ++ ys):=by
  refine zE8 (by simp [ra.length,rb.length]) fun j d' x' e1 e2=>?_
  by_cases hj:j < ds.length
  · rw [qA7 hj] at e1
    rw [qA7 (by rw [ra.length]; exact hj)] at e2
    exact zC3 ra e1 e2
  · rw [qA6 (by omega)] at e1
    rw [qA6 (by rw [ra.length]; omega),ra.length] at e2
    exact zC3 rb e1 e2
theorem zNB {G:Hp} {ds:List Dt} {xs:List V} (r:RepL G ds xs):∀ k:Nat,RepL G (qA8 k ds).flatten (qA8 k xs).flatten
  | 0=>rfl
  | k + 1=>by rw [qBg,qBg,qAy,qAy]; exact zSB r (zNB r k)
theorem zX1:ROp zX7 Mi.repD 1:=by
  intro mg E G H d e x y Q s h1 h2 p
  cases d with
  | lst ds =>
    cases e with
    | int j =>
      obtain ⟨a,xs,rfl,ha,ra⟩:=h1
      cases (show y = .int j from h2)
      rw [Mi.repD] at p
      split at p
      · rename_i hz
        exact ⟨xs,s _ _ ha,⟨by omega,by omega⟩,by rw [ra.length]; exact big' hz.2,fun q hq=>PostE.lst p (Ext.refl s) (zNB ra _) hq⟩
      · exact p.elim
    | _=>exact p.elim
  | _=>exact p.elim
def RMl (r:V→List V→Hp→VK→Prop) (f:List Dt→List Dt→Option Dt) (n:Nat):Prop:=∀ (mg:Str→Option Value) (E:XK) (G H:Hp) (a:Addr) (es ds:List Dt) (xs vs:List V) (Q:VK),Same G H→G a = some (.lst xs)→RepL G es xs→RepL G ds vs→PostE mg E G H n (optR (f es ds)) Q→r (.ref a) vs H Q
theorem zVZ {r:V→List V→Hp→VK→Prop} {f:List Dt→List Dt→Option Dt} (hr:RMl r f n) (A:DE mg E te e k) (B:DA mg E t m 0):DE mg E (tML r te t) (Mi.eMl f e m) n:=by
  intro G H σ ρ Q s w p
  refine (zAO A).step errE s w p fun d v G1 H1 S _ fr o p1=>?_
  cases d with
  | lst es =>
    obtain ⟨a,xs,rfl,ha,ra⟩:=o
    refine ⟨xs,fr.ext.in' _ _ ha,?_⟩
    have p2:PostE mg E G H n (zA3 (m ρ) fun ds=>optR (f es ds)) Q:=p1
    refine B.step (errE.from fr.ext) fr.ext.in' (w.mono fr.ext.g) p2 fun ds vs G2 H2 S2 T2 _ fr2 o2 p3=>?_
    exact hr mg E G2 H2 a es ds xs vs Q fr2.ext.in' (fr2.ext.g _ _ ha) (RepL.mono fr2.ext.g ra) o2.repL (PostE.from p3 (fr.ext.trans fr2.ext))
  | _=>exact p1.elim
theorem zO6 {G:Hp} {d:Dt} {v:V} (h:Rep G d v) (hd:d.dep = 0):∀ {ds:List Dt} {vs:List V},RepL G ds vs→Dt.depL ds = 0→vs.all zCZ = true∧(vs.countP fun z=>eqV z v) = ds.countP fun y=>Dt.eq y d
  | [],_,r,_=>by cases r; exact ⟨rfl,rfl⟩
  | e :: q,_,r,hz=>by
    obtain ⟨x,t,rfl,a,b⟩:=r
    rw [Dt.depL] at hz
    obtain ⟨g1,g2⟩:=zO6 h hd b (by omega)
    refine ⟨by rw [qBz,zEF a (by omega),g1]; rfl,?_⟩
    rw [qE3,qE3,g2,zH1 a h (by omega) hd]
theorem zN8:RMl lcoM Mi.lcoD n:=by
  intro mg E G H a es ds xs vs Q s ha ra rv p
  cases ds with
  | nil=>exact qA5 p
  | cons d tl1 =>
    cases tl1 with
    | nil =>
      obtain ⟨x,rfl,hx⟩:=zD9 rv
      unfold Mi.lcoD at p
      dsimp only at p
      split at p
      · rename_i hz
        obtain ⟨g1,g2⟩:=zO6 hx hz.1 ra hz.2
        refine ⟨xs,s _ _ ha,zEF hx hz.1,g1,?_⟩
        rw [g2]
        exact PostE.val p (Ext.refl s) rfl rfl
      · exact p.elim
    | cons _ _=>exact qA5 p
end
end L3
namespace L3
open PySem PySem.Spec
open L2 hiding Rep RepL
open Mi (Dt Xn R okR zA3 optR zA0 zA9 zAC zA8 zAB Rh Sl Ro EM TM AM FM IM SM Tg Out zAU zAS zAZ full frz frz1 frzAt)
section
variable [Kc] {G0 H0 S0:Hp} {σ:St} {ρ:Ro} {G H:Hp} {As:Nat→Addr→Prop}
theorem Sat.low (a:Sat G0 H0 S0 σ ρ G H As) (i:Nat):∃ G1 As1,Sat G0 H0 S0 σ (Mi.low i ρ) G1 H As1:=by
  unfold Mi.low
  split
  · rename_i ds k e1
    obtain ⟨v,h1,q,xs,T,rfl,hq,kd⟩:=a.at i _ _ e1
    obtain ⟨s1,s2⟩:=zCK (S:=fun b=>∃ r,T r b) a.ext.in'
    have ui:∀ b,(∃ r,T r b)→As i b:=fun b ⟨r,z⟩=>kd.sub r b z
    have x:Ext G0 H0 (over G H fun b=>∃ r,T r b) H:=⟨a.ext.g.trans s1,a.ext.h,s2,fun b hb=>by
      have z:¬ ∃ r,T r b:=fun z=>hb (a.new i b (ui b z)).1
      rw [zBW z]; exact a.ext.old b hb⟩
    refine ⟨over G H fun b=>∃ r,T r b,fun j b=>As j b∧¬ ∃ r,T r b,x,a.stb.trans s1,by simp [a.len],fun j e n h=>?_,fun j l b p q=>a.dis j l b p.1 q.1,fun j b p=>?_⟩
    · have hj:j < ρ.length:=by
        have:=(qA1.mp h).1
        simpa using this
      by_cases z:i = j
      · subst z
        rw [qAf hj] at h
        cases h
        exact ⟨.ref q,h1,q,xs,fun _ _=>False,rfl,hq,⟨kd.len,fun r d x g1 g2=>(kd.own r d x g1 g2).rep s1 fun b o hb e=>by rw [zDM ⟨r,hb⟩]; exact e,⟨kd.top,fun ⟨r,z⟩=>kd.out r z⟩,fun _ z=>z,fun _ _ _ z=>z.elim,fun _ _ z=>z.elim⟩⟩
      · rw [qAh z] at h
        obtain ⟨u,q1,q2⟩:=a.at j e n h
        exact ⟨u,q1,(q2.mono s1 (Same.refl _)).sub fun b hb=>⟨hb,fun w=>z (a.dis i j b (ui b w) hb)⟩⟩
    · obtain ⟨n1,n2,n3⟩:=a.new j b p.1
      exact ⟨n1,by rw [zBW p.2]; exact n2,n3⟩
  · exact ⟨G,As,a⟩
end
section
variable [Kc] {mg:Str→Option Value} {E:XK} {L n k l:Nat} {te ta tb:TE} {e ea eb ma:EM} {t:TA} {m:AM}
theorem zRA (i:Nat) (vs:List Nat) (A:DE mg E te e n):DS mg E L (zEK (tML appM (vM i) (zD8 te tNil))) (Mi.sAppF i vs e):=by
  intro G0 H0 S0 σ ρ G H As D a p
  obtain ⟨G1,As1,a1⟩:=a.low i
  obtain ⟨G2,As2,a2⟩:=Sat.frzAt vs a1
  unfold Mi.sAppF at p
  generalize hρ:frzAt vs (Mi.low i ρ) = ρ2 at p a2
  split at p
  · rename_i ds e1
    obtain ⟨v,h1,q,xs,T,rfl,hq,kd⟩:=a2.at i _ _ e1
    unfold zEK tML vM
    rw [h1]
    refine ⟨xs,hq,?_⟩
    refine (zAO A).step (errS.from a2.ext) a2.ext.in' a2.frz p fun d y G3 H3 S _ fr o p1=>?_
    split at p1
    · rename_i hz
      refine ⟨xs,fr.ext.h _ _ hq,by rw [kd.len]; exact L2.big (by omega),?_⟩
      have a3:=a2.wider fr.ext
      have kd1:Kids (Own G3 H3 0) (As2 i) q ds xs T:=kd.imp (fun _ _ _ _ w=>w.mono fr.ext.g fr.ext.h) fun _ z=>z
      refine p1 σ G3 _ _ (a3.store (S:=As2 i) kd.top h1 ⟨q,_,fun _ _=>False,rfl,zAH,⟨by simp [kd.len],fun r d' z g1 g2=>?_,kd.top,fun _ z=>z,fun _ _ _ z=>z.elim,fun _ _ z=>z.elim⟩⟩ fun b z=>.inl z)
      by_cases hr:r < ds.length
      · rw [qA7 hr] at g1
        rw [qA7 (by rw [kd.len]; exact hr)] at g2
        exact kd1.own r d' z g1 g2
      · rw [qA6 (by omega)] at g1
        rw [qA6 (by rw [kd.len]; omega),kd.len] at g2
        have hq0:r - ds.length = 0:=by
          have:=(qA1.mp g1).1
          simp at this; omega
        rw [hq0] at g1 g2
        simp at g1 g2
        subst g1; subst g2
        exact o
    · exact p1.elim
  · exact p.elim
theorem zR9 (i:Nat) (A:DE mg E te e (n + 1)) (hn:n < 1000:=by decide):DS mg E L (zEK (tML extM (vM i) (zD8 te tNil))) (Mi.sExt i n e):=by
  intro G0 H0 S0 σ ρ G H As D a p
  obtain ⟨J,x,s,w⟩:=a.full
  unfold Mi.sExt at p
  split at p
  · rename_i ds k e1
    obtain ⟨v,h1,q,xs,T,rfl,hq,kd⟩:=a.at i _ _ e1
    unfold zEK tML vM
    rw [h1]
    refine ⟨xs,hq,?_⟩
    refine A.step (errS.from x) x.in' w p fun d y G1 H1 S _ fr o p1=>?_
    split at p1
    · rename_i es
      obtain ⟨b0,zs,T2,rfl,hb0,kd2⟩:=o
      split at p1
      · rename_i hz
        refine ⟨xs,zs,fr.ext.h _ _ hq,hb0,by rw [kd.len,kd2.len]; exact big' (by omega),?_⟩
        have hp:=kd.top
        have a1:=a.grow fr.ext.h
        have q2:∀ b,S b→H b = none∧G b = none∧H1 b≠none:=fun b hb=>let ⟨n1,n2,n3⟩:=fr.new b hb; ⟨n1,a.ext.in'.free n1,n3⟩
        have nS:∀ r,¬ T2 r q:=fun r z=>(a.new i q hp).2.2 (q2 q (kd2.sub r q z)).1
        have ap:∀ r r' b,T r b→T2 r' b→False:=fun r r' b h1 h2=>(a.new i b (kd.sub r b h1)).2.2 (q2 b (kd2.sub r' b h2)).1
        refine p1 σ G _ _ (a1.store (S:=fun b=>As i b∨∃ r,T2 r b) hp h1 ⟨q,_,fun r b=>(r < ds.length∧T r b)∨(ds.length≤r∧T2 (r - ds.length) b),rfl,zAH,⟨by simp [kd.len,kd2.len],fun r d' z g1 g2=>?_,.inl hp,fun r z=>?_,fun r r' b z1 z2=>?_,fun r b z=>?_⟩⟩ fun b z=>?_)
        · by_cases hr:r < ds.length
          · rw [qA7 hr] at g1
            rw [qA7 (by rw [kd.len]; exact hr)] at g2
            exact (((kd.own r d' z g1 g2).mono (Same.refl _) fr.ext.h).upd (kd.out r)).sub fun b z=>.inl ⟨hr,z⟩
          · rw [qA6 (by omega)] at g1
            rw [qA6 (by rw [kd.len]; omega),kd.len] at g2
            exact (((kd2.own _ d' z g1 g2).at (zDQ hz.2.1 g1) (zDQ hz.2.2 g1) hn).upd (nS _)).sub fun b z=>.inr ⟨by omega,z⟩
        · rcases z with ⟨_,z⟩ | ⟨_,z⟩
          · exact kd.out r z
          · exact nS _ z
        · rcases z1 with ⟨c1,t1⟩ | ⟨c1,t1⟩ <;> rcases z2 with ⟨c2,t2⟩ | ⟨c2,t2⟩
          · exact kd.dis r r' b t1 t2
          · exact (ap _ _ b t1 t2).elim
          · exact (ap _ _ b t2 t1).elim
          · have:=kd2.dis _ _ b t1 t2; omega
        · rcases z with ⟨_,z⟩ | ⟨_,z⟩
          · exact .inl (kd.sub r b z)
          · exact .inr ⟨_,z⟩
        · rcases z with z | ⟨r,z⟩
          · exact .inl z
          · obtain ⟨n1,n2,n3⟩:=q2 b (kd2.sub r b z)
            exact .inr ⟨a.ext.h.free n1,n2,n3,fun j y=>(a.new j b y).2.2 n1⟩
      · exact p1.elim
    · exact p1.elim
  · exact p.elim
end
end L3
namespace L3
open PySem PySem.Spec
open L2 hiding Rep RepL
open Mi (Dt Xn R okR zA3 optR zA0 zA9 zAC zA8 zAB Rh Sl Ro EM TM AM FM IM SM Tg Out zAU zAS zAZ full frz frz1 frzAt)
structure XNo (K:qA2) (mg:Str→Option Value) (c:Str) (C:Addr):Prop extends XCls K mg c C where
  kp:qB9 K (.ref C) = true
  ini:qAm K (.ref C) "__init__" = some (some (.builtin "ValueError.__init__"))
theorem zXO {X:Cx} {c:Str} {C:Addr} {e:Expr} {es:List Expr} {t:TA} {p pos:Pos} (h:XNo X.K X.mg c C) (hg:Gl X c) (ha:PA X (e :: es) t) (hdb:(c == ("__debug__":Str)) = false:=by decide)
    (he:starEach (e :: es) X.env = (false,eval e X.env) :: starEach es X.env:=by rfl) (hpl:(backTo pos (starEach es X.env)).any (·.1) = false:=by rfl):PE X (.Call (.Name c p) (e :: es) [] pos) (zI9 C t) :=
  zQ1 h.is.xc h.ini hg h.gm h.kp ha hdb he hpl
section
variable [Kc] {mg:Str→Option Value} {E:XK} {L n k l:Nat} {te ta tb:TE} {e ea eb ma:EM} {t:TA} {m:AM}
theorem de_mk0 {c:Str} {C:Addr} (h:XNo Kc.K mg c C) (A:DA mg E t m 0):DE mg E (zI9 C t) (Mi.eMkX0 c m) 0:=by
  intro G H σ ρ Q s w p
  refine A.step errE s w p fun ds vs G1 H1 S T _ fr o p1=>?_
  split at p1
  · rename_i hz
    refine ⟨by rw [o.len]; exact big' (by omega),fun e he=>?_⟩
    exact PostE.kept p1 (fr.ext.trans (Ext.new fr.ext.in' he _)) ⟨e,C,none,rfl,.inl zAH,h.cl,.inl ⟨rfl,rfl⟩⟩
  · exact p1.elim
theorem zR6 {c:Str} {C:Addr} (h:XNo Kc.K mg c C) (A:DA mg E t m 0):DS mg E L (zTF Kc.K E (zI9 C t)) (Mi.sRaise0 c m):=by
  intro G0 H0 S0 σ ρ G H As D a p
  obtain ⟨J,x,s,w⟩:=a.full
  refine A.step (errS.from x) x.in' w p fun ds vs G1 H1 S T _ fr o p1=>?_
  split at p1
  · rename_i hz
    refine ⟨by rw [o.len]; exact big' (by omega),fun e he=>⟨e,C,none,rfl,zAH,h.is.xc,?_⟩⟩
    have hu:upd (upd H1 e (xn e (.ref C) none)) e (xo e (.ref C) none) = upd H1 e (xo e (.ref C) none):=by
      funext z
      by_cases h1:z = e
      · rw [h1,zAH,zAH]
      · rw [zAK h1,zAK h1,zAK h1]
    rw [hu]
    exact p1 (.ref e) none _ _ ((x.trans fr.ext).trans (Ext.new fr.ext.in' he _)) ⟨e,C,rfl,zAH,h.cl,.inl ⟨rfl,rfl⟩⟩
  · exact p1.elim
end
end L3
namespace L2
open PySem PySem.Spec PyProof.Rows
section
variable {X:Cx}
noncomputable def zWT (z:Str):List V:=z.cps.toList.map fun c=>.str ⟨#[c]⟩
def rListX (K:qA2):List V→Hp→VK→Prop:=fun vs H Q=>match vs with
  | [.str z]=>z.length≤sizeLine∧∀ l,H l = none→Q (.ref l) (upd H l (.lst (zWT z)))
  | _=>zND K vs H Q
theorem zJZ:∀ {ns:List Str} {vs:List Value},StrsAre vs ns→Vals (ns.map V.str) vs
  | _,_,.nil=>.nil
  | _,_,.cons n t h=>.cons ⟨t,rfl⟩ (zJZ h)
end
def Itw (z:Str):It :=
  ⟨fun i H=>i < z.cps.size,fun i H x H'=>∃ T c,x = .ref T∧H T = none∧H' = upd H T (.tup [.int i,.str ⟨#[c]⟩])∧z.cps[i]? = some c,fun i H=>z.cps.size≤i⟩
theorem zU4 {prog:Program} {w:World} {A:Around} (hh:A.handled = none) (it:Addr) (x:Str) (t:Tok) :
    Draws prog w A it [it] x.cps.size (fun i v=>∃ c u,x.cps[i]? = some c∧v = .str ⟨#[c]⟩ u) (fun i h=>h.IsStrIter it (strIterType x) x t i):=by
  unfold strIterType
  cases ha:x.cps.all (· < 128)
  · exact Draws.strWide hh it x t
  · exact Draws.strAscii hh it x t
theorem zOI {P:Program} {w:World} {K:qA2} {ts:List Expr} {kk:Nat} {tp:Pos} (z:Str) (t:Tok) (e it:Addr) (hei:e≠it) :
    Turn P w K (.Tuple ts kk tp) (Itw z) [e,it] e (fun i h=>i≤z.cps.size∧(∃ old,IsEnum h e it i old)∧h.IsStrIter it (strIterType z) z t i) where
  mem:=by simp
  obj:=fun i h st b hb=>by
    rcases qAb.mp hb with y | y
    · subst y
      obtain ⟨_,⟨old,he⟩,_⟩:=st
      exact ⟨_,he,fun v z=>by cases z⟩
    · have z':b = it:=by simpa using y
      subst z'
      obtain ⟨_,_,o,e,c,d⟩:=st
      exact ⟨o,e,fun v z=>by rw [d] at z; cases z⟩
  keep:=fun i h h' st k=>⟨st.1,by obtain ⟨_,⟨old,he⟩,_⟩:=st; exact ⟨old,k e (by simp) _ he⟩,by obtain ⟨_,_,o,ho,r⟩:=st; exact ⟨o,k it (by simp) o ho,r⟩⟩
  item:=by
    intro X hP hw hK hc i pins s σ H E I hf st hg
    subst hP hw hK
    have hi:i < z.cps.size:=hg
    obtain ⟨_,⟨old,he⟩,hit⟩:=st
    have hhd:X.A.in1.handled = none:=I.ok.hd hc
    refine wpAny_pyNext_enum_itemD (zU4 hhd it z t) he hit hi hei (by simpa using hei) fun x h' tk hP ho hit' hT hsz hk=>?_
    obtain ⟨c,u,hcx,rfl⟩:=hP
    refine ⟨_,rfl,wpAny_letOwnedTupleGo_enum ho fun h'' he'' hs''=>?_⟩
    have hTe:s.heap.objs.size≠e:=qBp (Heap.lt_size he)
    have hTi:s.heap.objs.size≠it:=by obtain ⟨o,ho',_⟩:=hit; exact qBp (Heap.lt_size ho')
    have kk:∀ b u,b ∉ [e,it]→s.heap.get? b = some u→h''.get? b = some u:=fun b u hb q=>by
      have b1:b≠e:=fun z=>hb (by simp [z])
      have b2:b≠it:=fun z=>hb (by simp [z])
      exact (hs''.2 b b1).trans (hk b u b1 b2 q)
    have hT'':=(hs''.2 _ hTe).trans hT
    refine ⟨.ref s.heap.objs.size,_,I.turnedNew (t':=tk + 1) (o:=.tup [.int i,.str ⟨#[c]⟩]) hf kk (qAa _) ⟨by show 2≤sizeLine; decide,[.int i tk,.str ⟨#[c]⟩ u],.cons ⟨_,rfl⟩ (.cons ⟨_,rfl⟩ .nil),⟨_,hT'',rfl,_,rfl⟩⟩,rfl,
      ⟨_,c,rfl,I.fresh,rfl,hcx⟩,⟨hi,⟨_,by simpa using he''⟩,by obtain ⟨o,ho,r⟩:=hit'; exact ⟨o,(hs''.2 it hei.symm).trans ho,r⟩⟩,fun b hb=>?_⟩
    have hbs:b < s.heap.objs.size:=by
      rcases qAb.mp hb with z | z
      · rw [z]; exact Heap.lt_size he
      · have z':b = it:=by simpa using z
        rw [z']
        obtain ⟨o,ho',_⟩:=hit
        exact Heap.lt_size ho'
    rw [zAK (qAk hbs)]
    exact (hf b hb).1
  done:=by
    intro X hP hw hK hc i pins s σ H E I hf st hg
    subst hP hw hK
    obtain ⟨hle,⟨old,he⟩,hit⟩:=st
    have hi:i = z.cps.size:=qF9 hle hg
    subst hi
    have hhd:X.A.in1.handled = none:=I.ok.hd hc
    exact wpAny_pyNext_enum_endD (zU4 hhd it z t) he hit fun h' eb=>⟨rfl,I.turnedL (t':=s.toks) hf fun b u hb q=>eb b u (fun z=>hb (by simp [z])) q⟩
  self:=fun _ _ _ _ _ st h=>by obtain ⟨_,⟨old,he⟩,_⟩:=st; exact wpAny_pyIter_enum he h
section
variable {X:Cx} {K:qA2}
def zTX (K:qA2) (tl:TA):TI:=fun σ H R=>tl σ H fun vs H1=>match vs with
  | [.ref a]=>(∃ xs,SqL K H1 a xs)∧R (Ite K a) H1
  | [.str z]=>R (Itw z) H1
  | _=>False
theorem zG0 {ts:List Expr} {kk:Nat} {tp p pos:Pos} {a:Expr} {ta:TA} (hg:Gl X "enumerate") (hm:X.mg "enumerate" = none) (ha:PA X [a] ta) (hs:starEach [a] X.env = [(false,eval a X.env)]:=by rfl) (hK:X.K = K:=by rfl) :
    PI X (.Tuple ts kk tp) (.Call (.Name "enumerate" p) [a] [] pos) (zTX K ta):=by
  subst hK
  intro pins s σ H R I h
  refine Call_ (zGS I hg hm boot_enumerate (qC6 (thn (ha pos pins s σ H _ I h) fun us s1 z0=>?_) hs rfl))
  obtain ⟨vs,H1,I1,r1,q1⟩:=z0
  have hne:s1.heap.objs.size + 1≠s1.heap.objs.size:=by omega
  have hb':∀ b∈[s1.heap.objs.size + 1,s1.heap.objs.size],s1.heap.objs.size≤b:=fun b hb=>by
    rcases qAb.mp hb with z | z
    · rw [z]; exact qBv _
    · have z':b = s1.heap.objs.size:=by simpa using z
      rw [z']; exact qAa _
  cases vs with
  | nil=>exact qA5 q1
  | cons hd1 tl1 =>
    cases hd1 with
    | ref l =>
      cases tl1 with
      | nil =>
        obtain ⟨⟨xs,hq⟩,q⟩:=q1
        obtain ⟨u,rfl,rx⟩:=zDF r1
        cases rx
        obtain ⟨its,rv,pl,hz⟩:=I1.list hq
        refine call_enumerate_list pl.isList fun h' he hit hsz hk=>?_
        refine wpAny_pyIter_enum he ?_
        exact ⟨s1.heap.objs.size + 1,[s1.heap.objs.size + 1,s1.heap.objs.size],_,_,H1,rfl,I1.kept (t':=s1.toks) hk,zJW l _ _ hne,⟨⟨_,he⟩,hit⟩,fun b hb=>I1.fpOk (hb' b hb) (I1.hok.fresh (hb' b hb)),q⟩
      | cons _ _=>exact qA5 q1
    | str z =>
      cases tl1 with
      | nil =>
        obtain ⟨u,rfl,rx⟩:=zDF r1
        obtain ⟨t,rfl⟩:=rx
        refine call_enumerate_str fun h' he hit hsz hk=>?_
        refine wpAny_pyIter_enum he ?_
        exact ⟨s1.heap.objs.size + 1,[s1.heap.objs.size + 1,s1.heap.objs.size],_,_,H1,rfl,I1.kept (t':=s1.toks) hk,zOI z t _ _ hne,⟨qAs _,⟨_,he⟩,hit⟩,fun b hb=>I1.fpOk (hb' b hb) (I1.hok.fresh (hb' b hb)),q1⟩
      | cons _ _=>exact qA5 q1
    | _=>exact qA5 q1
end
end L2
namespace Mi
open PySem
noncomputable section
def listXD (ds:List Dt):Option Dt:=match ds with
  | [.str z]=>@ite _ (z.length≤100000) (qA4 _) (some (.lst (signsD z))) none
  | ds=>listD ds
def iEnX (e:AM):IM:=fun ρ=>zA3 (e ρ) fun vs=>match vs with
  | [.lst xs]=>okR (enumD 0 xs)
  | [.str z]=>okR (enumD 0 (signsD z))
  | _=>none
def sumD:List Dt→Option Dt
  | [.lst ds]=>match zVO ds with
    | some ns=>@ite _ (ns.length≤100000∧∀ n∈ns,-1000000≤n∧n≤1000000) (qA4 _) (some (.int ns.sum)) none
    | none=>none
  | _=>none
noncomputable def topI:List Int→Int
  | []=>0
  | [x]=>x
  | x :: y :: r=>max x (topI (y :: r))
def maxL:List Dt→Option Dt
  | [.int i,.int j]=>some (.int (if j > i then j else i))
  | [.lst ds]=>match zVO ds with
    | some (n :: ns)=>some (.int (topI (n :: ns)))
    | _=>none
  | _=>none
def sPopD (i:Nat) (e:EM):SM:=fun ρ=>match ρ[i]? with
  | some (some (.lst ds,k + 1))=>zA3 (e (full ρ)) fun d=>match d with
    | .int z=>match ixA ds.length z with
      | some q=>@ite _ (ds.length≤1000000) (qA4 _) (okR (.nx (ρ.set i (some (.lst (ds.eraseIdx q),k + 1))))) none
      | none=>none
    | _=>none
  | _=>none
def sApp2 (i n:Nat) (e0 e:EM):SM:=fun ρ=>match ρ[i]? with
  | some (some (.lst rs,k + 2))=>zA3 (e0 (full ρ)) fun y=>match y with
    | .int y=>match ixA rs.length y with
      | some p=>match rs[p]? with
        | some (.lst ds)=>zA3 (e (full ρ)) fun d=>@ite _ (ds.length≤100000∧d.dep≤n∧d.dep≤k) (qA4 _) (okR (.nx (ρ.set i (some (.lst (rs.set p (.lst (ds ++ [d]))),k + 2))))) none
        | _=>none
      | none=>none
    | _=>none
  | _=>none
noncomputable def addAll (c:Int):List Dt→Option (List Dt)
  | []=>some []
  | .lst ds :: r=>@ite _ (ds.length≤100000) (qA4 _) ((addAll c r).map (.lst (ds ++ [.int c]) :: ·)) none
  | _ :: _=>none
def sForApp (i r:Nat) (c:Int):SM:=fun ρ=>match ρ[i]? with
  | some (some (.lst rs,k + 2))=>match addAll c rs with
    | some rs'=>if i≠r∧r < ρ.length then okR (.nx ((ρ.set i (some (.lst rs',k + 2))).set r none)) else none
    | none=>none
  | _=>none
end
end Mi
namespace L3
open PySem PySem.Spec
open L2 hiding Rep RepL
open Mi (Dt Xn R okR zA3 optR zA0 zA9 zAC zA8 zAB Rh Sl Ro EM TM AM FM IM SM Tg Out zAU zAS zAZ full frz frz1 frzAt)
section
variable [Kc] {mg:Str→Option Value} {E:XK} {L n k l:Nat} {te ta tb:TE} {e ea eb ma:EM} {t:TA} {m:AM}
theorem zYA {G:Hp} (z:Str):ItOk (Itw z) G (Mi.enumD 0 (Mi.signsD z)):=by
  intro i G1 H1 s1 s2
  rw [zH4]
  have hl:(Mi.signsD z).length = z.cps.size:=by simp [Mi.signsD]
  rw [hl]
  refine ⟨fun hi=>hi,fun hi=>hi,fun x H2 d hd hy=>?_⟩
  obtain ⟨T,c,rfl,hT,rfl,hc⟩:=hy
  obtain ⟨e,h1,rfl⟩:=zH5 _ 0 i d hd
  have x1:=Ext.new s2 hT (.tup [.int i,.str ⟨#[c]⟩])
  have he:e = .str ⟨#[c]⟩:=by
    unfold Mi.signsD at h1
    rw [qAd,qBi,hc] at h1
    cases h1
    rfl
  subst he
  refine ⟨_,x1,T,_,rfl,zAH,_,_,rfl,?_,_,_,rfl,rfl,rfl⟩
  show V.int (i:Int) = .int ((0 + i:Nat):Int)
  rw [qBt]
theorem zO3 (A:DA mg E t m 0):DI mg E (zTX Kc.K t) (Mi.iEnX m) false:=by
  intro G H σ ρ Q s w p
  refine A.step errI s w p fun ds vs G1 H1 S T _ fr o p1=>?_
  have r:=o.repL
  cases ds with
  | nil=>exact qA5 p1
  | cons hd1 tl1 =>
    cases hd1 with
    | lst es =>
      cases tl1 with
      | nil =>
        obtain ⟨x,rfl,a,xs,rfl,ha,ra⟩:=zD9 r
        exact ⟨⟨xs,SqL.of (fr.ext.in' _ _ ha)⟩,p1 _ G1 H1 fr.ext (zTS ha ra)⟩
      | cons _ _=>exact qA5 p1
    | str z =>
      cases tl1 with
      | nil =>
        obtain ⟨x,rfl,hx⟩:=zD9 r
        cases (show x = .str z from hx)
        exact p1 _ G1 H1 fr.ext (zYA z)
      | cons _ _=>exact qA5 p1
    | _=>exact qA5 p1
end
end L3
namespace L3
open PySem PySem.Spec
open L2 hiding Rep RepL
open Mi (Dt Xn R okR zA3 optR zA0 zA9 zAC zA8 zAB Rh Sl Ro EM TM AM FM IM SM Tg Out zAU zAS zAZ full frz frz1 frzAt)
section
variable [Kc] {G0 H0 S0:Hp} {σ:St} {ρ:Ro} {G H:Hp} {As:Nat→Addr→Prop}
theorem Sat.forget (a:Sat G0 H0 S0 σ ρ G H As) (r:Nat) (v:V):Sat G0 H0 S0 (σ.set r (some v)) (ρ.set r none) G H As:=by
  refine ⟨a.ext,a.stb,by simp [a.len],fun j e k h=>?_,a.dis,a.new⟩
  by_cases z:r = j
  · subst z
    have hj:r < ρ.length:=by
      have:=(qA1.mp h).1
      simpa using this
    rw [qAf hj] at h
    cases h
  · rw [qAh z] at h
    obtain ⟨u,h1,h2⟩:=a.at j e k h
    exact ⟨u,by rw [qAh z]; exact h1,h2⟩
theorem Sat.row (a:Sat G0 H0 S0 σ ρ G H As) {i k c:Nat} {rs ds:List Dt} {q:Addr} (er:ρ[i]? = some (some (.lst rs,k + 2))) (hv:σ[i]? = some (some (.ref q))) (ec:rs[c]? = some (.lst ds)) :
    ∃ (xs:List V) (qr:Addr) (ys:List V),H q = some (.lst xs)∧xs.length = rs.length∧xs[c]? = some (.ref qr)∧H qr = some (.lst ys)∧ys.length = ds.length ∧
      ∀ (ds':List Dt) (ys':List V),ys'.length = ds'.length→(∀ (r:Nat) (d:Dt) (z:V),ds'[r]? = some d→ys'[r]? = some z→(ds[r]? = some d∧ys[r]? = some z)∨(d.dep = 0∧Rep G d z)) →
        Sat G0 H0 S0 σ (ρ.set i (some (.lst (rs.set c (.lst ds')),k + 2))) G (upd H qr (.lst ys')) As:=by
  obtain ⟨v,h1,q',xs,T,rfl,hq,kd⟩:=a.at i _ _ er
  rw [hv] at h1
  cases h1
  have hc:c < xs.length:=by rw [kd.len]; exact (qA1.mp ec).1
  have hxc:xs[c]? = some xs[c]:=qA3 hc
  obtain ⟨qr,ys,U,er2,hqr,kr⟩:=kd.own c _ _ ec hxc
  refine ⟨xs,qr,ys,hq,kd.len,by rw [hxc,er2],hqr,kr.len,fun ds' ys' hl hs=>?_⟩
  have tqr:T c qr:=kr.top
  have iqr:As i qr:=kd.sub c qr tqr
  have qne:q≠qr:=fun z=>kd.out c (z ▸ tqr)
  have b:=a.store (S:=As i) (p:=qr) (o:=.lst ys') (d:=.lst (rs.set c (.lst ds'))) (n:=k + 2) (v:=.ref q) iqr hv ⟨q,xs,T,rfl,(zAK qne).trans hq,⟨by simp [kd.len],fun r d' xr g1 g2=>?_,kd.top,kd.out,kd.dis,kd.sub⟩⟩ fun b z=>.inl z
  · refine ⟨b.ext,b.stb,b.len,fun j d n h=>?_,a.dis,fun j b' h=>?_⟩
    · obtain ⟨v,g1,g2⟩:=b.at j d n h
      refine ⟨v,g1,?_⟩
      by_cases z:j = i
      · subst z; rw [if_pos rfl] at g2; exact g2
      · rw [if_neg z] at g2; exact g2
    · have:=b.new j b' (by
        by_cases z:j = i
        · subst z; rw [if_pos rfl]; exact h
        · rw [if_neg z]; exact h)
      exact this
  · by_cases hr:c = r
    · subst hr
      rw [qAf (by rw [← kd.len]; exact hc)] at g1
      cases g1
      rw [hxc] at g2
      cases g2
      refine ⟨qr,ys',U,er2,zAH,⟨hl,fun r d z e1 e2=>?_,tqr,kr.out,kr.dis,kr.sub⟩⟩
      rcases hs r d z e1 e2 with ⟨g3,g4⟩ | ⟨g3,g4⟩
      · exact (kr.own r d z g3 g4).upd (kr.out r)
      · exact zQ6 g4 g3
    · rw [qAh hr] at g1
      exact (kd.own r d' xr g1 g2).upd fun z=>hr (kd.dis c r qr tqr z)
end
section
variable [Kc] {mg:Str→Option Value} {E:XK} {L n k l:Nat} {te ta tb:TE} {e ea eb ma:EM} {t:TA} {m:AM}
theorem addAll_len {c:Int}:∀ {rs rs':List Dt},Mi.addAll c rs = some rs'→rs'.length = rs.length
  | [],rs',h=>by cases h; rfl
  | d :: r,rs',h=>by
    cases d with
    | lst ds =>
      rw [Mi.addAll] at h
      split at h
      · cases e:Mi.addAll c r with
        | none=>rw [e] at h; cases h
        | some q=>rw [e] at h; cases h; simp [addAll_len e]
      · cases h
    | _=>cases h
theorem zLO {c:Int}:∀ {rs rs':List Dt} {p:Nat},Mi.addAll c rs = some rs'→p < rs.length→∃ ds,rs[p]? = some (.lst ds)∧rs'[p]? = some (.lst (ds ++ [.int c]))∧ds.length≤100000
  | [],rs',p,h,hp=>by simp at hp
  | d :: r,rs',p,h,hp=>by
    cases d with
    | lst ds =>
      rw [Mi.addAll] at h
      split at h
      · rename_i hz
        cases e:Mi.addAll c r with
        | none=>rw [e] at h; cases h
        | some q =>
          rw [e] at h
          cases h
          cases p with
          | zero=>exact ⟨ds,rfl,rfl,hz⟩
          | succ p=>exact zLO (p:=p) e (by simpa using hp)
      · cases h
    | _=>cases h
theorem zR8 (i r:Nat) (c:Int):DS mg E L (fun D σ H=>iAny Kc.K (vM i) σ H (zPH (zEE r) (zEK (tML appM (vM r) (zD8 (tC (.int c)) tNil))) D σ)) (Mi.sForApp i r c):=by
  intro G0 H0 S0 σ ρ G H As D a p
  unfold Mi.sForApp at p
  split at p
  · rename_i rs k e1
    split at p
    · rename_i rs' ea
      split at p
      · rename_i hir
        obtain ⟨v,h1,q,xs0,T0,rfl,hq0,kd0⟩:=a.at i _ _ e1
        unfold iAny vM
        rw [h1]
        refine .inl ⟨⟨xs0,SqL.of hq0⟩,?_⟩
        have hil:i < ρ.length:=(qA1.mp e1).1
        have hal:=addAll_len ea
        refine ⟨fun j cc σ H=>cc = rs.length - j∧j≤rs.length∧σ[i]? = some (some (.ref q))∧(j = 0→σ.length = ρ.length)∧∃ As,Sat G0 H0 S0 σ (if j = 0 then ρ else (ρ.set i (some (.lst (rs'.take j ++ rs.drop j),k + 2))).set r none) G H As,
          ⟨_,rfl,qAs _,h1,fun _=>a.len.symm,As,by rw [if_pos rfl]; exact a⟩,?_⟩
        rintro j cc σ H ⟨rfl,hj,hv,hsl,As,a⟩
        have er:(if j = 0 then ρ else (ρ.set i (some (.lst (rs'.take j ++ rs.drop j),k + 2))).set r none)[i]? = some (some (.lst (rs'.take j ++ rs.drop j),k + 2)):=by
          by_cases z:j = 0
          · subst z; rw [if_pos rfl]; simpa using e1
          · rw [if_neg z,qAh (fun y=>hir.1 y.symm),qAf hil]
        obtain ⟨v,h2,q',xs,T,e',hq,kd⟩:=a.at i _ _ er
        rw [hv] at h2
        cases h2
        cases e'
        have hlen:(rs'.take j ++ rs.drop j).length = rs.length:=by simp [hal]; omega
        by_cases hlt:j < rs.length
        · obtain ⟨ds,g1,g2,g3⟩:=zLO ea hlt
          have ec:(rs'.take j ++ rs.drop j)[j]? = some (.lst ds):=by
            rw [qA6 (by simp; omega)]
            simp [hal,qGk (qC9 hlt),g1]
          refine .inr ⟨⟨xs,xs[j]'(by rw [kd.len,hlen]; exact hlt),SqL.of hq,by simp⟩,fun σ' H'=>j + 1≤rs.length∧σ'[i]? = some (some (.ref q))∧(j + 1 = 0→σ'.length = ρ.length)∧∃ As,Sat G0 H0 S0 σ' (if j + 1 = 0 then ρ else (ρ.set i (some (.lst (rs'.take (j + 1) ++ rs.drop (j + 1)),k + 2))).set r none) G H' As,fun σ' H' y=>⟨rs.length - (j + 1),by omega,rfl,y⟩,fun x H2 hy=>?_⟩
          obtain ⟨rfl,hy⟩:=hy
          obtain ⟨xs2,qr,ys,w1,w2,w3,w4,w5,w6⟩:=a.row er hv ec
          have hx:=hy xs2 (SqL.of w1)
          rw [w3] at hx
          cases hx
          have hrl:r < σ.length:=by rw [← a.len]; by_cases z:j = 0 <;> simp [z,hir.2]
          show zEK (tML appM (vM r) (zD8 (tC (.int c)) tNil)) _ (σ.set r (some (.ref qr))) _
          unfold zEK tML vM
          rw [qAf hrl]
          refine ⟨ys,w4,?_⟩
          unfold zD8 tC tNil
          dsimp only
          refine ⟨ys,w4,by rw [w5]; exact L2.big (by omega),?_⟩
          have a2:=(w6 (ds ++ [.int c]) (ys ++ [.int c]) (by simp [w5]) fun u d z e3 e4=>by
            by_cases hu:u < ds.length
            · rw [qA7 hu] at e3
              rw [qA7 (by rw [w5]; exact hu)] at e4
              exact .inl ⟨e3,e4⟩
            · rw [qA6 (by omega)] at e3
              rw [qA6 (by rw [w5]; omega),w5] at e4
              have hq0:u - ds.length = 0:=by
                have:=(qA1.mp e3).1
                simp at this; omega
              rw [hq0] at e3 e4
              simp at e3 e4
              subst e3; subst e4
              exact .inr ⟨rfl,rfl⟩).forget r (.ref qr)
          refine ⟨hlt,by rw [qAh (fun y=>hir.1 y.symm)]; exact hv,fun z=>by omega,As,?_⟩
          rw [if_neg (by omega)]
          have eset:(rs'.take j ++ rs.drop j).set j (.lst (ds ++ [.int c])) = rs'.take (j + 1) ++ rs.drop (j + 1):=by
            have hj2:j < rs'.length:=by omega
            have gj:rs'[j] = .lst (ds ++ [.int c]):=by
              have:=qA3 hj2
              rw [g2] at this
              exact (qB7 this).symm
            rw [qF8 _ _ (by simp; omega),qDj hj2,gj]
            simp only [qE1,qGk (qC9 hj2),Nat.sub_self]
            rw [qBh]
            congr 1
            rw [qAx hlt]
            rfl
          rw [eset] at a2
          by_cases z:j = 0
          · subst z
            rw [if_pos rfl] at a2
            exact a2
          · rw [if_neg z] at a2
            have e5:(((ρ.set i (some (.lst (rs'.take j ++ rs.drop j),k + 2))).set r none).set i (some (.lst (rs'.take (j + 1) ++ rs.drop (j + 1)),k + 2))).set r none = (ρ.set i (some (.lst (rs'.take (j + 1) ++ rs.drop (j + 1)),k + 2))).set r none:=by
              rw [qHj _ _ (fun y:r = i=>hir.1 y.symm),qG5,qG5]
            rw [e5] at a2
            exact a2
        · have ej:j = rs.length:=by omega
          subst ej
          refine .inl ⟨⟨xs,SqL.of hq,by rw [kd.len,hlen]; exact qAa _⟩,?_⟩
          have e6:rs'.take rs.length ++ rs.drop rs.length = rs':=by rw [← hal,qGd,hal,qE2,qD8]
          by_cases z:rs.length = 0
          · rw [if_pos z] at a
            have hrs:rs = []:=qE4 z
            subst hrs
            have:rs' = []:=qE4 hal
            subst this
            have e7:ρ.set i (some (.lst [],k + 2)) = ρ:=by
              have:=(qA1.mp e1).2
              rw [← this,qDw]
            rw [e7] at p
            refine p σ G H As ⟨a.ext,a.stb,by simp [a.len],fun j d n h=>?_,a.dis,a.new⟩
            by_cases y:r = j
            · subst y
              rw [qAf hir.2] at h
              cases h
            · rw [qAh y] at h
              exact a.at j d n h
          · rw [if_neg z,e6] at a
            exact p σ G H As a
      · exact p.elim
    · exact p.elim
  · exact p.elim
end
end L3
namespace L2
open PySem PySem.Spec PyProof.Rows
section
variable {X:Cx}
end
end L2
namespace Mi
open PySem
noncomputable section
end
end Mi
namespace L3
open PySem PySem.Spec
open L2 hiding Rep RepL
open Mi (Dt Xn R okR zA3 optR zA0 zA9 zAC zA8 zAB Rh Sl Ro EM TM AM FM IM SM Tg Out zAU zAS zAZ full frz frz1 frzAt)
section
variable [Kc] {mg:Str→Option Value} {E:XK} {L n k l:Nat} {te ta tb:TE} {e ea eb ma:EM} {t:TA} {m:AM}
end
end L3
namespace L2
open PySem PySem.Spec PyProof.Rows
structure RoomH (k:Nat) (A:Around):Prop where
  dp:A.depth + 3 * k + 5 < recursionLimit
  un:A.units + 16 * k + 200 < cLine
structure FnOkH (P:Program) (w:World) (K:qA2) (mg:Str→Option Value) (base:Heap) (k:Nat) (f:Addr) (fd:FuncData) (ps:List Str) (sp:Sp):Prop where
  len:∀ vs H Q E,sp vs H Q E→vs.length = ps.length
  run:∀ (A:Around) (outer:List Env) (s:Shared) (H:Hp) (args:Args) (us:List Value) (vs:List V) (Q:VK) (E:XK),RoomH k A→Env0 P w K mg base A outer s H→BindsTo s fd args (ps.zip us)→Vals vs us→sp vs H Q E →
    codeAny (model P w) A (.call (.ref f) args) (CR CX0 outer P w H s Q E) s
section
variable {X:Cx} {x:Str} {j k:Nat} {ps:List Str} {sp:Sp} {e:Expr} {es:List Expr} {t:TA} {p pos:Pos}
end
end L2
namespace L2
open PySem PySem.Spec PyProof.Rows
end L2
namespace Mi
end Mi
namespace L3
open PySem PySem.Spec
open L2 hiding Rep RepL
open Mi (Dt Xn R okR zA3 optR zA0 zA9 zAC zA8 zAB Rh Sl Ro EM TM AM FM IM SM Tg Out zAU zAS zAZ full frz frz1 frzAt)
section
variable [Kc] {mg:Str→Option Value} {E:XK} {L n n1:Nat} {t1 t2:TE} {e1 e2:EM}
end
end L3
namespace Mi
def sSetL (i j:Nat) (vs:List Nat) (e:EM):SM:=fun ρ=>match (frzAt vs (low j ρ))[j]? with
  | some (some (.lst ds,1))=>zA3 (e ((frz (frzAt vs (low j ρ))).set j (some (.lst ds)))) fun d=>match d with
    | .lst es=>if Dt.depL es = 0∧es.length≠ds.length then okR (.nx ((frzAt vs (low j ρ)).set i (some (.lst es,0)))) else none
    | _=>none
  | _=>none
end Mi
namespace L3
open PySem PySem.Spec
open L2 hiding Rep RepL
open Mi (Dt Xn R okR zA3 optR zA0 zA9 zAC zA8 zAB Rh Sl Ro EM TM AM FM IM SM Tg Out zAU zAS zAZ full frz frz1 frzAt)
section
variable [Kc] {mg:Str→Option Value} {E:XK} {L n:Nat} {te:TE} {e:EM}
theorem zKA {G G2:Hp}:∀ {es:List Dt} {ys:List V},RepL G es ys→Dt.depL es = 0→RepL G2 es ys
  | [],_,h,_=>h
  | d :: r,_,h,hd=>by
    obtain ⟨x,q,rfl,h1,h2⟩:=h
    have h3:d.dep = 0∧Dt.depL r = 0:=by
      simp only [Dt.depL] at hd
      omega
    exact ⟨x,q,rfl,h1.scalar h3.1,zKA h2 h3.2⟩
theorem zG2 {G H:Hp} {q:Addr}:over G H (fun b=>b = q) q = H q:=zDM (S:=fun b=>b = q) rfl
theorem zGL {G H:Hp} {b q:Addr} (h:b≠q):over G H (fun b=>b = q) b = G b:=zBW (S:=fun b=>b = q) h
theorem zR5 (i j:Nat) (vs:List Nat) (A:DE mg E te e n):DS mg E L (tAsg te (zEE i)) (Mi.sSetL i j vs e):=by
  intro G0 H0 S0 σ ρ G H As D a p
  unfold Mi.sSetL at p
  obtain ⟨G1,As1,a1⟩:=Sat.low a j
  obtain ⟨G2,As2,a2⟩:=Sat.frzAt vs a1
  split at p
  · rename_i ds e1
    obtain ⟨v,h1,q,xs,T,rfl,hq,kd⟩:=a2.at j _ _ e1
    obtain ⟨nq1,nq2,nq3⟩:=a2.new j q kd.top
    obtain ⟨s1,s2⟩:=zCK (S:=fun b=>b = q) a2.ext.in'
    have x3:Ext G0 H0 (over G2 H fun b=>b = q) H:=⟨a2.ext.g.trans s1,a2.ext.h,s2,fun b hb=>by
      rw [zGL (fun z=>hb (by rw [z]; exact nq1))]; exact a2.ext.old b hb⟩
    have rq:Rep (over G2 H fun b=>b = q) (.lst ds) (.ref q):=⟨q,xs,rfl,by rw [zG2]; exact hq,zE8 kd.len fun r d x g1 g2=>Rep.mono s1 (kd.own r d x g1 g2)⟩
    have w:=(View.mono s1 a2.frz)
    have w2:View (over G2 H fun b=>b = q) σ ((frz (frzAt vs (Mi.low j ρ))).set j (some (.lst ds))):=by
      have:=w.set (i:=j) rq
      rwa [show σ.set j (some (.ref q)) = σ by
        have:=(qA1.mp h1).2
        rw [← this,qDw]] at this
    refine (zAO A).step (errS.from x3) s2 w2 p fun d u G4 H4 S4 _ fr o p1=>?_
    split at p1
    · rename_i es _
      split at p1
      · rename_i hz
        obtain ⟨pa,ys,rfl,k1,k2⟩:=(show Rep G4 (.lst es) u from o)
        have hne:pa≠q:=fun z=>by
          subst z
          have:=fr.ext.old pa nq3
          rw [k1,zG2,hq] at this
          cases this
          exact hz.2 (by rw [← zSA k2,kd.len])
        have hin:Same G2 H4:=a2.ext.in'.trans fr.ext.h
        obtain ⟨t1,t2⟩:=zCK (S:=fun b=>b = pa) hin
        have hpa:H4 pa = some (.lst ys):=fr.ext.in' _ _ k1
        have x5:Ext G2 H (over G2 H4 fun b=>b = pa) H4:=⟨t1,fr.ext.h,t2,fun b hb=>by
          by_cases z:b = pa
          · subst z
            have g:=fr.ext.old b hb
            rw [k1,zGL hne] at g
            rw [zG2,hpa,← g]
          · rw [zGL z]⟩
        have o5:Own (over G2 H4 fun b=>b = pa) H4 0 (fun _=>False) (.lst es) (.ref pa):=⟨pa,ys,rfl,by rw [zG2]; exact hpa,zKA k2 hz.1⟩
        exact p1 _ _ H4 _ ((a2.wider x5).put o5 (fun b z=>z.elim) fun _ _ _ _ z=>z.elim)
      · exact p1.elim
    · exact p1.elim
  · exact p.elim
end
end L3
namespace L2
open PySem PySem.Spec PyProof.Rows
section
variable {X:Cx} {e m1:Expr} {te ts:TE} {pos p2:Pos}
theorem zN5:∀ {vs:List Value} {zs:List Str},StrsAre vs zs→vs.length = zs.length
  | _,_,.nil=>rfl
  | _,_,.cons _ _ r=>by simp [zN5 r]
end
end L2
namespace Mi
open PySem
noncomputable section
theorem zUJ {a b:Str} (h:a.cps.toList = b.cps.toList):a = b:=by
  obtain ⟨⟨x⟩⟩:=a
  obtain ⟨⟨y⟩⟩:=b
  have:x = y:=h
  rw [this]
theorem uniqZ:∀ {a b:List Str},a.Perm b→a.Pairwise (fun a b=>a.cps.toList≤b.cps.toList)→b.Pairwise (fun a b=>a.cps.toList≤b.cps.toList)→a = b
  | [],b,h,_,_=>(List.nil_perm.mp h).symm
  | x :: r,[],h,_,_=>by simpa using h.length_eq
  | x :: r,y :: q,h,ha,hb=>by
    have e:x = y:=by
      rcases qAb.mp (h.mem_iff.mp (qAz (a:=x) (l:=r))) with z | z
      · exact z
      · rcases qAb.mp (h.mem_iff.mpr (qAz (a:=y) (l:=q))) with u | u
        · exact u.symm
        · exact zUJ (List.le_antisymm ((qBu.mp ha).1 y u) ((qBu.mp hb).1 x z))
    subst e
    rw [uniqZ (List.Perm.cons_inv h) (qBu.mp ha).2 (qBu.mp hb).2]
end
end Mi
namespace L3
open PySem PySem.Spec
open PyProof.Rows (risingS sortedS ltCps_eq)
open L2 hiding Rep RepL
open Mi (Dt Xn R okR zA3 optR zA0 zA9 zAC zA8 zAB Rh Sl Ro EM TM AM FM IM SM OM Tg Out zAU zAS zAZ full frz frz1 frzAt)
section
variable [Kc] {mg:Str→Option Value} {E:XK} {L n k l:Nat} {te ta tb:TE} {e ea eb ma:EM} {t:TA} {m:AM}
theorem zK9:∀ (l:List Str) (p:Str),risingS p l = true→(p :: l).Pairwise (fun a b=>a.cps.toList≤b.cps.toList)
  | [],p,_=>by simp
  | x :: r,p,h=>by
    rw [risingS,qBb,ltCps_eq] at h
    have h1:p.cps.toList≤x.cps.toList:=by
      have:=h.1
      simpa [qHr] using this
    have h2:=zK9 r x h.2
    refine qBu.mpr ⟨fun y hy=>?_,h2⟩
    rcases qAb.mp hy with rfl | hy
    · exact h1
    · exact List.le_trans h1 ((qBu.mp h2).1 y hy)
theorem zPK {l:List Str} (h:sortedS l = true):l.Pairwise (fun a b=>a.cps.toList≤b.cps.toList):=by
  cases l with
  | nil=>exact .nil
  | cons x r=>exact zK9 r x h
end
end L3
namespace L2
open PySem PySem.Spec PyProof.Rows
section
variable {X:Cx} {x:Str} {C:Addr} {p pos:Pos}
end
def zZH (K:qA2) (fl:List Str):Sp:=fun vs H Q _=>∃ (x C dx:Addr) (ys:List V),vs = .ref x :: ys∧ys.length = fl.length∧H x = some (.ins C dx [])∧Cls K C∧(∀ f∈fl,zU9 K C f)∧Q .non (upd H x (.ins C dx (fl.zip ys)))
section
variable {X:Cx} {m:Str} {k:Nat} {E:XK} {o e:Expr} {es:List Expr} {ta:TE} {t:TA} {apos pos:Pos} {tb:List (Addr × Sp)}
end
structure OIs (K:qA2) (C:Addr):Prop where
  cl:Cls K C
  ha:qAm K (.ref C) "__class__" = some (some (.builtin "object.__class__"))
  hn:qCu K (.builtin "object.__class__") "__get__" = some (some (.builtin "getset_descriptor.__get__"))
  htk:qF3 K (.builtin "object.__class__") = some true
  hm:qD7 K C (.type "object") = some true
end L2
namespace Mi
open PySem
noncomputable section
noncomputable def svD:Dt→Option Sv
  | .int i=>some (.i i)
  | .str x=>some (.s x)
  | _=>none
def svsD:List Dt→Option (List Sv)
  | []=>some []
  | d :: r=>match svD d,svsD r with
    | some v,some vs=>some (v :: vs)
    | _,_=>none
noncomputable def dSv:Sv→Dt
  | .i n=>.int n
  | .s x=>.str x
def eNew (c:Str) (fl:List Str) (am:AM):EM:=fun ρ=>zA3 (am ρ) fun ds=>match svsD ds with
  | some vs=>if vs.length = fl.length then okR (.ins c (fl.zip vs)) else none
  | none=>none
def za6 (c:Str):EM:=fun _=>okR (.ins c [])
def eFld (hs:List Str) (f:Str) (e:EM):EM:=fun ρ=>zA3 (e ρ) fun d=>match d with
  | .ins c fs=>if c∈hs then (match fs.lookup f with | some v=>okR (dSv v) | none=>none) else none
  | _=>none
def za7 (tb:List (Str × FM)) (m:Str) (e:EM) (am:AM):EM:=fun ρ=>zA3 (e ρ) fun d=>match d with
  | .ins c fs=>match tb.lookup c with
    | some g=>match fs.lookup m with
      | none=>zA3 (am ρ) fun ds=>g (d :: ds)
      | some _=>none
    | none=>none
  | _=>none
def eIsO (ys ns:List Str) (e:EM):EM:=fun ρ=>zA3 (e ρ) fun d=>match d with
  | .ins c _=>if c∈ys then okR (.bl true) else if c∈ns then okR (.bl false) else none
  | _=>none
end
end Mi
namespace L3
open PySem PySem.Spec
open L2 hiding Rep RepL
open Mi (Dt Xn R okR zA3 optR zA0 zA9 zAC zA8 zAB Rh Sl Ro EM TM AM FM IM SM OM Tg Out zAU zAS zAZ full frz frz1 frzAt)
structure OCls (K:qA2) (mg:Str→Option Value) (c:Str) (C:Addr):Prop where
  cl:clK K c = some C
  gm:mg c = some (.ref C)
  is:OIs K C
structure ONew (K:qA2) (mg:Str→Option Value) (c:Str) (C:Addr):Prop extends OCls K mg c C where
  mks:qGe K C = true
  ini:qAm K (.ref C) "__init__" = some (some (.builtin "object.__init__"))
  kp:qB9 K (.ref C) = true
structure OIni (P:Program) (w:World) (K:qA2) (mg:Str→Option Value) (base:Heap) (c:Str) (fl:List Str) (C:Addr):Prop extends OCls K mg c C where
  na:∀ f∈fl,zU9 K C f
  ini:∃ fI fd ps,Mk K C fI∧FnOk P w K mg base (CXe P w) 1 fI fd ps (zZH K fl)∧Binds K fd ps []
section
variable {X:Cx} {c:Str} {fl:List Str} {C:Addr} {k:Nat} {E:XK} {e:Expr} {es:List Expr} {t:TA} {p pos:Pos}
end
section
variable [Kc] {mg:Str→Option Value} {E:XK} {L n k l:Nat} {te ta tb:TE} {e ea eb ma:EM} {t:TA} {m:AM}
end
end L3
namespace Mi
open PySem
noncomputable section
end
end Mi
namespace L2
open PySem PySem.Spec PyProof.Rows
section
variable {X:Cx} {m:Str} {k:Nat} {o e:Expr} {es:List Expr} {ta:TE} {t:TA} {apos pos:Pos} {tb:List (Addr × Sp)}
end
section
variable {prog:Program} {w:World} {A:Around} {E:Value→Shared→Prop} {s:Shared}
end
section
variable {X:Cx} {pos:Pos}
end
end L2
namespace L3
open PySem PySem.Spec
open L2 hiding Rep RepL
open Mi (Dt Xn R okR zA3 optR zA0 zA9 zAC zA8 zAB Rh Sl Ro EM TM AM FM IM SM OM Tg Out zAU zAS zAZ full frz frz1 frzAt)
section
variable [Kc] {mg:Str→Option Value} {E:XK} {L n k l:Nat} {te ta tb:TE} {e ea eb ma:EM} {t:TA} {m:AM}
end
end L3
namespace L2
open PySem PySem.Spec PyProof.Rows
theorem zI5 {M:Model} {A:Around} {E:Value→Shared→Prop} {s:Shared} {src:Source} {n:Nat} {Q:Nat→Shared→Prop} (hn:n≠0) (h:∀ i d,i < n→Q i { s with drawn:=d }):wpAny M A (choose src n) Q E s :=
  fun Γ p hΓ=>⟨hn,h _ _ (qBo _ (Nat.pos_of_ne_zero hn))⟩
theorem zOW (t:SetTable) (es:Array (Int × Value)) (h:Int) (x:Value):(layNew t es h x).2.1.led = t.led:=by
  unfold layNew
  split
  · dsimp only
    unfold SetTable.orStandIn
    split <;> rfl
  · rfl
theorem zOV (t:SetTable) (es:Array (Int × Value)) (h:Int) (x:Value) (hp:t.plain = false):(layNew t es h x).2.1.plain = false:=by
  unfold layNew
  split
  · dsimp only
    unfold SetTable.orStandIn
    split
    · exact hp
    · rfl
  · rfl
theorem zKB {t t':SetTable} {hs:Array Int} {w:Nat} {o:Array Nat} (h:t.relaid hs w = some (t',o)):t'.led = t.led∧t'.plain = t.plain:=by
  unfold SetTable.relaid SetTable.laid at h
  cases e:SetTable.layClean (SetTable.sizeAbove w - 1) hs with
  | none=>rw [e] at h; cases h
  | some ow =>
    rw [e] at h
    have h':=qB7 h
    have:=congrArg qHs h'
    dsimp only at this
    rw [← this]
    exact ⟨rfl,rfl⟩
theorem zHF (t:SetTable) (es:Array (Int × Value)) (wanted:Nat):(relayAll t es wanted).2.1.led = t.led∧(t.plain = false→(relayAll t es wanted).2.1.plain = false):=by
  unfold relayAll
  split
  · rename_i t' order e
    obtain ⟨h1,h2⟩:=zKB e
    dsimp only
    split
    · exact ⟨h1,fun h=>h2.trans h⟩
    · exact ⟨rfl,fun _=>rfl⟩
  · exact ⟨rfl,fun _=>rfl⟩
section
variable {prog:Program} {w:World} {A:Around} {E:Value→Shared→Prop} {s:Shared}
def SetZ (prog:Program) (w:World) (h:Heap) (a:Addr) (led:Bool) (ks:List Str):Prop :=
  ∃ o es ep t,h.get? a = some o∧o.ExactSet∧o.data = .set es ep t∧ElemsOf (strKind prog w) es.toList∧es.toList.map (fun e=>strOf e.2) = ks∧ks.Nodup∧es.size < scanBound∧t.fits es.size = true∧t.led = led∧(0 < es.size→t.plain = false)
theorem SetZ.at {h h':Heap} {a:Addr} {led:Bool} {ks:List Str} (hS:SetZ prog w h a led ks) (hk:∀ o,h.get? a = some o→h'.get? a = some o):SetZ prog w h' a led ks:=by
  obtain ⟨o,es,ep,t,ho,r⟩:=hS
  exact ⟨o,es,ep,t,hk o ho,r⟩
theorem zGW {k:Str} {v:Value} (h:(strKind prog w).is k v = true):∃ t,v = .str k t:=Value.isStrOf_shape h
theorem zJB {es:List (Int × Value)} (h:ElemsOf (strKind prog w) es) {e:Int × Value} (he:e∈es):∃ k t,e.2 = .str k t:=by
  obtain ⟨⟨k,hk,_⟩,_⟩:=h e he
  obtain ⟨t,e1⟩:=zGW hk
  exact ⟨k,t,e1⟩
theorem zTU {es:List (Int × Value)} (h:ElemsOf (strKind prog w) es) {e:Int × Value} (he:e∈es) (k:Str):(strKind prog w).is k e.2 = true ↔ strOf e.2 = k:=by
  obtain ⟨k',t,e1⟩:=zJB h he
  rw [e1]
  constructor
  · intro z
    obtain ⟨t',e2⟩:=zGW z
    injection e2 with e3
  · rintro rfl
    exact strKind_is prog w _ t
theorem zS6 {a:Addr} {led:Bool} {ks:List Str} {k:Str} {tk:Tok} {Q:Bool→Shared→Prop} (hS:SetZ prog w s.heap a led ks) (hroom:ks.length + 1 < scanBound)
    (h:∀ h' ks' b,Heap.SameBut a s.heap h'→SetZ prog w h' a led ks'→(k∈ks→ks' = ks)→(k ∉ ks→ks'.Perm (ks ++ [k]))→Q b { s with heap:=h' }) :
    wpAny (model prog w) A (setAddHashed a (.str k tk) ((strKind prog w).hash k)) Q E s:=by
  obtain ⟨o,es,ep,t,ho,hex,hd,hel,hks,hnd,hb,hf,hled,hpl⟩:=hS
  have hn:es.size = ks.length:=by rw [← hks,qAj,qB5]
  have hb1:es.size + 1 < scanBound:=by omega
  have hkey:(strKind prog w).is k (.str k tk) = true:=strKind_is prog w k tk
  have hsc:(Value.str k tk).scannable = true:=rfl
  unfold setAddHashed setAddHashedIn
  refine wpAny_holding (wpAny_bind (wpAny_setState_of ho hd hf ?_))
  dsimp only
  rw [byScan_of hsc hb hel]
  simp only [↓reduceIte]
  unfold setAddByScan
  refine wpAny_bind ?_
  refine wpAny_bind (wpAny_rule ?_)
  refine wpAny_bind (wpAny_setScan_of hkey ho hd hf hel ?_)
  cases hr:List.findIdx? (fun e=>(strKind prog w).is k e.2) es.toList with
  | some j =>
    dsimp only
    obtain ⟨hj,hpj,_⟩:=qDb.mp hr
    have hin:k∈ks:=by
      rw [← hks]
      exact qAv.mpr ⟨es.toList[j],qD0 hj,(zTU hel (qD0 hj) k).mp hpj⟩
    refine wpAny_pure (wpAny_pure ?_)
    have e:s = { s with heap:=s.heap }:=by cases s; rfl
    rw [e]
    exact h s.heap ks false (Heap.SameBut.refl a s.heap) ⟨o,es,ep,t,ho,hex,hd,hel,hks,hnd,hb,hf,hled,hpl⟩ (fun _=>rfl) (fun z=>absurd hin z)
  | none =>
    dsimp only
    have hnin:k ∉ ks:=by
      intro z
      rw [← hks] at z
      obtain ⟨e,he,e1⟩:=qAv.mp z
      have:=List.findIdx?_eq_none_iff.mp hr e he
      rw [(zTU hel he k).mpr e1] at this
      exact qGb this
    have hgw:∀ (b:Bool) {s₁:Shared} {Q':Unit→Shared→Prop},Q' () s₁→wpAny (model prog w) A (match b with | true=>rule "set.scan.the-table-gave-way" | false=>pure ()) Q' E s₁ :=
      fun b s₁ Q' hq=>by cases b <;> first | exact wpAny_pure hq | exact wpAny_rule hq
    have hperm:=layNew_perm t es ((strKind prog w).hash k) (.str k tk)
    have hfits:=layNew_fits t es ((strKind prog w).hash k) (.str k tk)
    have hled1:=zOW t es ((strKind prog w).hash k) (.str k tk)
    have hoff1:=zOV t es ((strKind prog w).hash k) (.str k tk)
    generalize hL:layNew t es ((strKind prog w).hash k) (.str k tk) = L at hperm hfits hled1 hoff1 ⊢
    obtain ⟨es1,t1,wasDummy,gave⟩:=L
    dsimp only at hperm hfits hled1 hoff1 ⊢
    rw [qFv] at hperm
    have hel1:ElemsOf (strKind prog w) es1.toList:=(hel.push hkey hsc).perm hperm
    have hks1:(es1.toList.map fun e=>strOf e.2).Perm (ks ++ [k]):=by
      have:=hperm.map fun e:Int × Value=>strOf e.2
      rw [qB0,hks] at this
      exact this
    have hnd1:(es1.toList.map fun e=>strOf e.2).Nodup:=hks1.nodup_iff.mpr (by
      rw [qFw]
      exact ⟨hnd,by simp,fun x hx y hy e=>hnin (by rw [qBe] at hy; rw [← hy,← e]; exact hx)⟩)
    have hb1':es1.size < scanBound:=by rw [← qB5,hperm.length_eq,qAr,qB5]; simpa using hb1
    refine wpAny_bind (hgw _ ?_)
    have tail:∀ t2:SetTable,t2.fits es1.size = true→t2.led = led→t2.plain = false→wpAny (model prog w) A (do
        storeSet a es1 t2
        if (!wasDummy && t2.tooFull) = true then do
            (match (relayAll t2 es1 (SetTable.grown es1.size)).2.2 with | true=>rule "set.scan.the-table-gave-way" | false=>pure ())
            storeSet a (relayAll t2 es1 (SetTable.grown es1.size)).1 (relayAll t2 es1 (SetTable.grown es1.size)).2.1
            pure (some true)
          else pure (some true)) (fun r s'=>wpAny (model prog w) A (match r with | some added=>pure added | none=>setAddHashedIn a (.str k tk) ((strKind prog w).hash k) 99999) Q E s') E s:=by
      intro t2 f2 l2 p2
      refine wpAny_bind (wpAny_storeSet_of ho hd ?_ (fits_of_scanBound hb1'))
      have hg:(s.heap.update a (Obj.putSet es1 t2)).get? a = some { o with data:=.set es1 (ep + 1) t2 }:=by
        have:=Heap.get?_update_self (Obj.putSet es1 t2) ho (by rw [putSet_of es1 t2 hd]; rfl)
        rw [putSet_of es1 t2 hd] at this
        exact this
      have hsb1:=Heap.SameBut.update s.heap a (Obj.putSet es1 t2)
      split
      · have hp:=relayAll_perm t2 es1 (SetTable.grown es1.size)
        have hfr:=relayAll_fits t2 es1 (SetTable.grown es1.size)
        have hkp:=zHF t2 es1 (SetTable.grown es1.size)
        generalize hRl:relayAll t2 es1 (SetTable.grown es1.size) = Rl at hp hfr hkp ⊢
        obtain ⟨es2,t3,gave2⟩:=Rl
        dsimp only at hp hfr hkp ⊢
        have hsz:es2.size = es1.size:=by rw [← qB5,hp.length_eq,qB5]
        refine wpAny_bind (hgw _ ?_)
        refine wpAny_bind (wpAny_storeSet_of hg rfl ?_ (fits_of_scanBound (by rw [hsz]; exact hb1')))
        have hg2:=Heap.get?_update_self (Obj.putSet es2 t3) hg (by rw [putSet_of (o:={ o with data:=.set es1 (ep + 1) t2 }) es2 t3 rfl]; rfl)
        rw [putSet_of (o:={ o with data:=.set es1 (ep + 1) t2 }) es2 t3 rfl] at hg2
        have hks2:=hp.map fun e:Int × Value=>strOf e.2
        refine wpAny_pure (wpAny_pure (h _ (es2.toList.map fun e=>strOf e.2) _ (hsb1.trans (Heap.SameBut.update _ a _)) ⟨_,es2,ep + 2,t3,hg2,hex,rfl,hel1.perm hp,rfl,hks2.nodup_iff.mpr hnd1,by rw [hsz]; exact hb1',hfr,hkp.1.trans l2,fun _=>hkp.2 p2⟩ (fun z=>absurd z hnin) fun _=>hks2.trans hks1))
      · exact wpAny_pure (wpAny_pure (h _ (es1.toList.map fun e=>strOf e.2) _ hsb1 ⟨_,es1,ep + 1,t2,hg,hex,rfl,hel1,rfl,hnd1,hb1',f2,l2,fun _=>p2⟩ (fun z=>absurd z hnin) fun _=>hks1))
    split
    · refine wpAny_bind ?_
      rw [hashByValue_scannable 8 hsc]
      refine wpAny_pure ?_
      exact tail { t1 with plain:=false } (SetTable.fits_plain_off hfits) (hled1.trans hled) rfl
    · rename_i hp1
      refine wpAny_bind (wpAny_pure ?_)
      simp only [↓reduceIte]
      exact tail t1 hfits (hled1.trans hled) (by simpa using hp1)
end
end L2
namespace L2
open PySem PySem.Spec PyProof.Rows
section
variable {prog:Program} {w:World} {A:Around} {R:Result→Shared→Prop} {I:Addr} {fp wr:List Addr} {G:Array GenState→Array GenState→Prop} {n:Nat} {St:Nat→Shared→Prop} {led:Bool} {z:Str}
theorem loopZ (W:WalksS prog w A.in1 I fp wr G z.cps.size (SignAt z) St) (S:Addr) (hSf:S ∉ fp) (hb:z.cps.size + 1 < scanBound) :
    ∀ (k i:Nat) (s:Shared) (ks:List Str),z.cps.size - i = k→i≤z.cps.size→St i s→SetZ prog w s.heap S led ks→ks.length≤i→(∀ c,c∈ks ↔ ∃ j d,j < i∧z.cps[j]? = some d∧c = ⟨#[d]⟩) →
      (∀ s' ks',Moved (S :: wr) G s s'→SetZ prog w s'.heap S led ks'→(∀ c,c∈ks' ↔ ∃ j d,j < z.cps.size∧z.cps[j]? = some d∧c = ⟨#[d]⟩)→R (.ok (.ret .none)) s') →
      codeAny (model prog w) A (.builtin "set.update.loop" ⟨[.ref S,.ref I],[]⟩) R s:=by
  have hSw:S ∉ wr:=fun h=>hSf (W.sub _ h)
  have hsub:∀ b∈wr,b∈S :: wr:=fun b hb=>qAt _ hb
  intro k
  induction k with
  | zero =>
    intro i s ks hk hi hst hS hkl hks hR
    have hin:i = z.cps.size:=by omega
    subst hin
    refine codeAny_builtin qCz ?_
    rw [Around.under_plainId qC3 _]
    show wpAny _ A.in1 (pyNext (.ref I) >>= _) _ _ s
    refine wpAny_bind (W.done s _ _ hst fun s' hm=>?_)
    show wpAny _ A.in1 (ret Value.none) _ _ s'
    exact wpAny_pure (hR s' ks (hm.mono hsub) (hS.at fun o ho=>hm.heap S o hSw ho) hks)
  | succ k ih =>
    intro i s ks hk hi hst hS hkl hks hR
    have hlt:i < z.cps.size:=by omega
    refine codeAny_builtin qCz ?_
    rw [Around.under_plainId qC3 _]
    show wpAny _ A.in1 (pyNext (.ref I) >>= _) _ _ s
    refine wpAny_bind (W.item i s _ _ hlt hst fun v s' hP hst' hm=>?_)
    obtain ⟨c,u,hc,rfl⟩:=hP
    have hS':SetZ prog w s'.heap S led ks:=hS.at fun o ho=>hm.heap S o hSw ho
    show wpAny _ A.in1 (holding [Value.str ⟨#[c]⟩ u] (setAdd S (.str ⟨#[c]⟩ u)) >>= _) _ _ s'
    refine wpAny_bind (wpAny_holding ?_)
    unfold setAdd
    refine wpAny_holding ?_
    refine wpAny_bind ((strKind prog w).pyHash (k:=⟨#[c]⟩) (strKind_is prog w _ _) ?_)
    refine zS6 (s:={ s' with toks:=s'.toks + 1 }) hS' (by omega) fun h' ks' b hsb hS2 hin hout=>?_
    have hmem:∀ x,x∈ks' ↔ ∃ j d,j < i + 1∧z.cps[j]? = some d∧x = ⟨#[d]⟩:=by
      intro x
      have step:x∈ks' ↔ x∈ks∨x = ⟨#[c]⟩:=by
        by_cases h:(⟨#[c]⟩:Str)∈ks
        · rw [hin h]
          exact ⟨.inl,fun z=>z.elim id fun e=>e ▸ h⟩
        · rw [(hout h).mem_iff,qB8,qBe]
      rw [step,hks]
      constructor
      · rintro (⟨j,d,hj,e1,e2⟩ | rfl)
        · exact ⟨j,d,by omega,e1,e2⟩
        · exact ⟨i,c,by omega,hc,rfl⟩
      · rintro ⟨j,d,hj,e1,e2⟩
        by_cases hji:j = i
        · subst hji
          rw [hc] at e1
          cases e1
          exact .inr e2
        · exact .inl ⟨j,d,by omega,e1,e2⟩
    have hlen:ks'.length≤i + 1:=by
      by_cases h:(⟨#[c]⟩:Str)∈ks
      · rw [hin h]; omega
      · rw [(hout h).length_eq,qAr]; simp; omega
    refine wpAny_pure ⟨plainId_quiet qC3 _,ih (i + 1) _ ks' (by omega) hlt (W.frame _ s' _ _ hst' (qBv _) fun b hb o e=>?_) hS2 hlen hmem fun s'' ks'' hm'' hS'' hk''=>?_⟩
    · rw [hsb.2 b (fun h:b = S=>hSf (by rw [← h]; exact hb))]; exact e
    · refine hR s'' ks'' (Moved.trans W.gtrans ((hm.mono hsub).then_heap (qBv _) fun b o hb e=>?_) hm'') hS'' hk''
      rw [hsb.2 b (fun h:b = S=>hb (by rw [h]; exact qAz))]; exact e
end
end L2
namespace PySem
open PyProof.Rows
theorem zID {prog:Program} {w:World} {A:Around} {E:Value→Shared→Prop} {s:Shared} (a:Value) {Q₁:Value→Shared→Prop}
    (h:Q₁ (.ref s.heap.objs.size) { s with heap:=s.heap.push { cls:=.type "set",dict:=none,data:=.set #[] 0 (.fresh 0 0 (!w.params.followText "set-order")) } }) :
    codeAny (model prog w) A (.call (.builtin "set.__new__") ⟨[.type "set",a],[]⟩) (wants Q₁ E) s:=by
  refine codeAny_of_tree ?_
  show wpAny _ A.in1 (do checkBuiltinCall "set.__new__" ⟨[.type "set",a],[]⟩; again (.builtin "set.__new__" ⟨[.type "set",a],[]⟩)) _ _ s
  refine wpAny_bind (wpAny_of_eq (F.newCall_set_1 a) (wpAny_pure ⟨plainId_quiet F.plain_set_new _,codeAny_builtin F.entry_set_new ?_⟩))
  rw [Around.under_plainId F.plain_set_new _]
  unfold Builtin.«set.__new__» Builtin.Frozenset.newClass
  have hsub:=sub_set_self
  obtain ⟨hp,g,d,tk,os⟩:=s
  dsimp only
  wp_walk
  refine wpAny_askSetting (wpAny_pure ?_)
  dsimp only
  simp only [newObj]
  refine wpAny_bind (wpAny_alloc (wpAny_pure ?_))
  exact wpAny_pure h
theorem zK8:isSubtype (.type "str") (.type "set") = pure false:=by rw [isSubtype_type]; kernel_rfl
theorem zIC:isSubtype (.type "str") (.type "frozenset") = pure false:=by rw [isSubtype_type]; kernel_rfl
set_option maxHeartbeats 3200000 in
theorem zIE {prog:Program} {w:World} {A:Around} {E:Value→Shared→Prop} {s:Shared} {z:Str} {t:Tok} {Q:Value→Shared→Prop}
    (hh:A.handled = none) (hb:z.cps.size + 1 < scanBound)
    (h:∀ (h':Heap) (tk:Nat) (ks:List Str),L2.SetZ prog w h' s.heap.objs.size (!w.params.followText "set-order") ks→(∀ c,c∈ks ↔ ∃ j d,j < z.cps.size∧z.cps[j]? = some d∧c = ⟨#[d]⟩) →
      (∀ b o,b < s.heap.objs.size→s.heap.get? b = some o→h'.get? b = some o)→s.heap.objs.size < h'.objs.size→Q (.ref s.heap.objs.size) { s with heap:=h',toks:=tk }) :
    wpAny (model prog w) A (call (.type "set") [.str z t]) Q E s:=by
  obtain ⟨c,tl,hmro⟩:=F.called_set.mro
  have hmade:=F.called_set.made
  have hsub:=F.called_set.sub
  refine wpAny_call (codeAny_of_tree ?_)
  show wpAny _ _ (callAny (.type "set") _) _ _ _
  refine wpAny_pure ⟨Code.quiet_builtin _ (by decide +kernel),codeAny_builtin F.entry_type_call ?_⟩
  rw [Around.under_plain (weight_type_call_type "set" [.str z t] []) rfl]
  have h1:=F.called_set.notType
  have h2:=F.called_set.canCreate
  have hct:=F.typeCall_set_1 (.str z t)
  repeat (any_goals (first | assumption | wp_step))
  refine codeAny_mono (zID (.str z t) (E:=E) (Q₁:=fun obj s₁=>obj = .ref s.heap.objs.size∧s₁ = { s with heap:=s.heap.push { cls:=.type "set",dict:=none,data:=.set #[] 0 (.fresh 0 0 (!w.params.followText "set-order")) } }) ⟨rfl,rfl⟩) fun r s₁ hr=>?_
  generalize (!w.params.followText "set-order") = led at hr h
  cases r with
  | error e=>exact hr
  | ok fl =>
    cases fl with
    | ret obj =>
      obtain ⟨rfl,rfl⟩:=hr
      have hS:(s.heap.push { cls:=.type "set",dict:=none,data:=.set #[] 0 (.fresh 0 0 led) }).get? s.heap.objs.size = some { cls:=.type "set",dict:=none,data:=.set #[] 0 (.fresh 0 0 led) }:=Heap.get?_push_size _ rfl
      have hT:Shared.TypeIs { s with heap:=s.heap.push { cls:=.type "set",dict:=none,data:=.set #[] 0 (.fresh 0 0 led) } } (.ref s.heap.objs.size) "set":=⟨_,hS,rfl⟩
      have hli:=F.called_set.init.lookup
      have hbi:=F.called_set.init.bind (.ref s.heap.objs.size)
      repeat (any_goals (first | assumption | wp_step))
      refine codeAny_mono (codeAny_call_builtin (R:=wants (fun r s₂=>r = .none∧∃ h' tk ks,s₂ = { s with heap:=h',toks:=tk }∧L2.SetZ prog w h' s.heap.objs.size led ks∧(∀ c,c∈ks ↔ ∃ j d,j < z.cps.size∧z.cps[j]? = some d∧c = ⟨#[d]⟩) ∧
          (∀ b o,b < s.heap.objs.size→s.heap.get? b = some o→h'.get? b = some o)) E) F.called_set.init.plain F.entry_set_init (check_set_init_1 hT ?_)) fun r₂ s₂ hr₂=>?_
      · have hsls:=zK8
        have hslf:=zIC
        have hne:(Value.type "str" == Value.type "dict") = false:=by decide
        unfold Builtin.«set.__init__» noKeywords Builtin.Frozenset.updateFrom
        generalize hPI:pyIter = PI
        wp_walk
        subst hPI
        refine wpAny_pyIter_str fun o St W hst=>?_
        refine wpAny_bind (wpAny_runValue ?_)
        have hh3:A.in1.in1.in1.handled = none:=by simp [hh]
        have hSf:s.heap.objs.size ∉ [(s.heap.push { cls:=.type "set",dict:=none,data:=.set #[] 0 (.fresh 0 0 led) }).objs.size]:=by
          rw [Heap.size_push]; simp only [qAb,qAp,or_false]
          exact qAk (qBw _)
        refine L2.loopZ (led:=led) (W _ hh3).toS s.heap.objs.size hSf hb (z.cps.size - 0) 0 _ [] (by omega) (qAs _) hst ?hS0 (qAa _) (fun c=>⟨fun z=>by simp at z,fun ⟨j,d,hj,_⟩=>by omega⟩) ?hR
        case hS0 =>
          exact ⟨_,#[],0,_,Heap.get?_push_of_some _ hS,⟨rfl,rfl,rfl⟩,rfl,fun e he=>by simp at he,rfl,.nil,by decide,rfl,rfl,fun z=>by simp at z⟩
        case hR =>
          intro s' ks hm hS' hk
          obtain ⟨h',g',d',tk',os'⟩:=s'
          have eg:g' = s.gens:=hm.gens
          have ed:d' = s.drawn:=hm.drawn
          have eo:os' = s.os:=hm.os
          subst eg; subst ed; subst eo
          show wpAny _ _ _ _ _ _
          refine wpAny_pure ?_
          show wpAny _ _ (ret Value.none) _ _ _
          refine wpAny_pure ⟨rfl,h',tk',ks,rfl,hS',hk,fun b o hb e=>?_⟩
          have hb1:b≠s.heap.objs.size:=qAk hb
          have hb2:b≠(s.heap.push { cls:=.type "set",dict:=none,data:=.set #[] 0 (.fresh 0 0 led) }).objs.size:=by
            rw [Heap.size_push]; exact qAk (qBc hb)
          exact hm.heap b o (by simp only [qAb,qAp,or_false,not_or]; exact ⟨hb1,hb2⟩) (Heap.get?_push_of_some _ (Heap.get?_push_of_some _ e))
      · cases r₂ with
        | error e=>exact hr₂
        | ok fl₂ =>
          cases fl₂ with
          | ret r =>
            obtain ⟨rfl,h',tk,ks,rfl,hS',hk,hk'⟩:=hr₂
            repeat (any_goals (first | assumption | wp_step))
            exact h _ _ ks hS' hk hk' (by obtain ⟨o,_,_,_,ho,_⟩:=hS'; exact Heap.lt_size ho)
          | _=>exact hr₂.elim
    | _=>exact hr.elim
end PySem
namespace L2
open PySem PySem.Spec PyProof.Rows
theorem slot_si_next:Slot "set_iterator" "__next__" "set_iterator.__next__" :=
  .of (owner:="set_iterator") (n:="__next__") (by rw [typeLookup_type,builtinLookup_eq_fast]; kernel_rfl) (by decide +kernel) (by decide +kernel) (by decide +kernel)
    (by first | exact .inl (by decide +kernel) | exact .inr (by decide +kernel)) (by rw [isSubtype_type]; kernel_rfl)
theorem zFP:Slot "set_iterator" "__iter__" "set_iterator.__iter__" :=
  .of (owner:="set_iterator") (n:="__iter__") (by rw [typeLookup_type,builtinLookup_eq_fast]; kernel_rfl) (by decide +kernel) (by decide +kernel) (by decide +kernel)
    (by first | exact .inl (by decide +kernel) | exact .inr (by decide +kernel)) (by rw [isSubtype_type]; kernel_rfl)
theorem zCB:entryFor table "set_iterator.__next__" = some Builtin.«set_iterator.__next__»:=entryFor_of_fast (by kernel_rfl)
theorem zJA:entryFor table "set_iterator.__iter__" = some Builtin.«dict_keyiterator.__iter__»:=entryFor_alias (id':="dict_keyiterator.__iter__") (by kernel_rfl) rfl (by decide +kernel) (by kernel_rfl)
theorem zH6:entryFor table "set.__iter__" = some Builtin.«frozenset.__iter__»:=entryFor_alias (id':="frozenset.__iter__") (by kernel_rfl) rfl (by decide +kernel) (by kernel_rfl)
theorem zCW (a:Value):argsOk "set_iterator.__next__" ⟨[a],[]⟩:=by unfold argsOk; kernel_rfl
theorem zLM (a:Value):argsOk "set_iterator.__iter__" ⟨[a],[]⟩:=by unfold argsOk; kernel_rfl
def IsSI (h:Heap) (it:Addr) (vs:Array Value):Prop:=∃ o,h.get? it = some o∧o.cls = .type "set_iterator"∧o.data = .fields vs
section
variable {prog:Program} {w:World} {A:Around} {E:Value→Shared→Prop} {s:Shared}
theorem zPM {it:Addr} {vs:Array Value} {Q:Value→Shared→Prop} (hit:IsSI s.heap it vs) (h:Q (.ref it) s):wpAny (model prog w) A (pyIter (.ref it)) Q E s:=by
  obtain ⟨o,ho,hc,hd⟩:=hit
  have hT:s.TypeIs (.ref it) "set_iterator":=⟨o,ho,hc⟩
  refine wpAny_pyIter_slot hT zFP (wpAny_call_entry zFP hT zJA ?_ (zLM _))
  show wpAny _ _ (ret (.ref it)) _ _ s
  exact wpAny_pure ⟨_,rfl,"set_iterator",_,hT,slot_si_next.lookup,h⟩
theorem zPL {P:Fin→Shared→Prop} {E':Value→Shared→Prop} (hh:A.handled = none) (h:∀ x h',Heap.ExtBut s.heap.objs.size s.heap h'→(∀ b o,s.heap.get? b = some o→h'.get? b = some o)→(∃ ox,h'.get? x = some ox∧ox.cls = .type "StopIteration")→E' (.ref x) { s with heap:=h' }) :
    wpAny (model prog w) A (newExc (.type "StopIteration") [] >>= fun x=>(raiseNew x:Sem Fin)) P E' s:=by
  refine wpAny_bind ?_
  simp only [newExc,newTuple]
  refine wpAny_bind (wpAny_newObj_type ?_ (by size_fits))
  refine wpAny_bind (m:=firstArgMember _ _) (wpAny_of_eq (a:=Value.none) (by first | rfl | (simp only [firstArgMember]; rfl)) ?_)
  refine wpAny_newObj_type ?_ (by size_fits)
  simp only [raiseNew]
  refine wpAny_bind (wpAny_handled ?_)
  rw [hh]
  refine wpAny_bind (wpAny_pure (wpAny_throw ?_))
  exact h _ _ (fun b o hb e=>Heap.get?_push_of_some _ (Heap.get?_push_of_some _ e)) (fun b o e=>Heap.get?_push_of_some _ (Heap.get?_push_of_some _ e)) ⟨_,Heap.get?_push_size _ rfl,rfl⟩
theorem zK4 {it a:Addr} {es:Array (Int × Value)} {ep:Nat} {tb:SetTable} {os:Obj} {sl i nx:Nat} {x:Value} {Q:Option Value→Shared→Prop} (hne:a≠it)
    (hit:IsSI s.heap it #[.int sl 0,.int i 0,.ref a,.int es.size 0,.int ep 0]) (ho:s.heap.get? a = some os) (hd:os.data = .set es ep tb) (hf:tb.fits es.size = true)
    (hN:∀ (s:Shared) (Q:Option (Value × Nat)→Shared→Prop) (A:Around) (E:Value→Shared→Prop),s.heap.get? a = some os→Q (some (x,nx)) s→wpAny (model prog w) A (setNext a sl i ep) Q E s)
    (hQ:∀ h',IsSI h' it #[.int nx 0,.int (i + 1:Nat) 0,.ref a,.int es.size 0,.int ep 0]→Heap.SameBut it s.heap h'→Q (some x) { s with heap:=h' }) :
    wpAny (model prog w) A (pyNext (.ref it)) Q E s:=by
  obtain ⟨o,hoi,hc,hdi⟩:=hit
  have hT:s.TypeIs (.ref it) "set_iterator":=⟨o,hoi,hc⟩
  unfold pyNext
  refine wpAny_bind (wpAny_attempt (wpAny_callSpecial?_slot (name:=Str.ofString "__next__") hT slot_si_next (wpAny_call_entry slot_si_next hT zCB ?_ (zCW _))))
  unfold Builtin.«set_iterator.__next__»
  refine wpAny_bind (m:=slotArgs "__next__" 0 _) (wpAny_pure ?_)
  refine wpAny_bind (wpAny_fieldsOf hoi hdi ?_)
  dsimp only
  refine wpAny_bind (wpAny_setEntries_of ho hd hf ?_)
  rw [if_neg (by simp)]
  refine wpAny_bind (hN _ _ _ _ ho ?_)
  dsimp only
  refine wpAny_bind (wpAny_setField hoi hdi (by simp) ?_)
  have e1:=Heap.get?_update_self (Obj.mapFields (·.setIfInBounds 0 (rawInt (nx:Nat)))) hoi (Obj.isFreed_of_fields (Obj.data_mapFields hdi _))
  refine wpAny_bind (wpAny_setField e1 (Obj.data_mapFields hdi _) (by simp) ?_)
  have e2:=Heap.get?_update_self (Obj.mapFields (·.setIfInBounds 1 (rawInt ((i:Int) + 1)))) e1 (Obj.isFreed_of_fields (Obj.data_mapFields (Obj.data_mapFields hdi _) _))
  refine wpAny_pure ⟨x,rfl,wpAny_pure (hQ _ ⟨_,e2,?_,?_⟩ ((Heap.SameBut.update ..).trans (Heap.SameBut.update ..)))⟩
  · rw [Obj.cls_mapFields,Obj.cls_mapFields,hc]
  · rw [Obj.data_mapFields (Obj.data_mapFields hdi _)]
    simp [rawInt]
theorem zLZ {it a:Addr} {es:Array (Int × Value)} {ep:Nat} {tb:SetTable} {os:Obj} {sl i:Nat} {Q:Option Value→Shared→Prop} (hh:A.handled = none) (hne:a≠it)
    (hit:IsSI s.heap it #[.int sl 0,.int i 0,.ref a,.int es.size 0,.int ep 0]) (ho:s.heap.get? a = some os) (hd:os.data = .set es ep tb) (hf:tb.fits es.size = true)
    (hN:∀ (s:Shared) (Q:Option (Value × Nat)→Shared→Prop) (A:Around) (E:Value→Shared→Prop),s.heap.get? a = some os→Q none s→wpAny (model prog w) A (setNext a sl i ep) Q E s)
    (hQ:∀ h',Heap.ExtBut it s.heap h'→Q none { s with heap:=h' }) :
    wpAny (model prog w) A (pyNext (.ref it)) Q E s:=by
  obtain ⟨o,hoi,hc,hdi⟩:=hit
  have hT:s.TypeIs (.ref it) "set_iterator":=⟨o,hoi,hc⟩
  unfold pyNext
  refine wpAny_bind (wpAny_attempt (wpAny_callSpecial?_slot (name:=Str.ofString "__next__") hT slot_si_next (wpAny_call_entry slot_si_next hT zCB ?_ (zCW _))))
  unfold Builtin.«set_iterator.__next__»
  refine wpAny_bind (m:=slotArgs "__next__" 0 _) (wpAny_pure ?_)
  refine wpAny_bind (wpAny_fieldsOf hoi hdi ?_)
  dsimp only
  refine wpAny_bind (wpAny_setEntries_of ho hd hf ?_)
  rw [if_neg (by simp)]
  refine wpAny_bind (hN _ _ _ _ ho ?_)
  dsimp only
  refine wpAny_bind (wpAny_setField hoi hdi (by simp) ?_)
  refine zPL hh fun x h' _ hk hx=>?_
  obtain ⟨ox,hox,hcx⟩:=hx
  refine wpAny_bind (wpAny_isInstance (T:="StopIteration") (b:=true) ⟨ox,hox,hcx⟩ isSubtype_stop ?_)
  exact wpAny_pure (hQ _ fun b o' hb e=>hk b o' ((Heap.get?_update_other _ _ (qCh hb)).trans e))
theorem zK5 {it a T:Addr} {es:Array (Int × Value)} {ep:Nat} {tb:SetTable} {os:Obj} {i p:Nat} {t0:Tok} {h0:Int} {x:Value} {ps:Array Value} {Q:Option Value→Shared→Prop} (hne:a≠it)
    (hit:IsSI s.heap it #[.ref T,.int i 0,.ref a,.int es.size 0,.int ep 0]) (ho:s.heap.get? a = some os) (hd:os.data = .set es ep tb) (hf:tb.fits es.size = true)
    (hT0:∃ oT n,s.heap.get? T = some oT∧oT.data = .seq ps n) (hp:ps[i]? = some (.int p t0)) (hx:es[p]? = some (h0,x))
    (hQ:∀ h',IsSI h' it #[.ref T,.int (i + 1:Nat) 0,.ref a,.int es.size 0,.int ep 0]→Heap.SameBut it s.heap h'→Q (some x) { s with heap:=h' }) :
    wpAny (model prog w) A (pyNext (.ref it)) Q E s:=by
  obtain ⟨o,hoi,hc,hdi⟩:=hit
  obtain ⟨oT,nT,hoT,hdT⟩:=hT0
  have hT:s.TypeIs (.ref it) "set_iterator":=⟨o,hoi,hc⟩
  unfold pyNext
  refine wpAny_bind (wpAny_attempt (wpAny_callSpecial?_slot (name:=Str.ofString "__next__") hT slot_si_next (wpAny_call_entry slot_si_next hT zCB ?_ (zCW _))))
  unfold Builtin.«set_iterator.__next__»
  refine wpAny_bind (m:=slotArgs "__next__" 0 _) (wpAny_pure ?_)
  refine wpAny_bind (wpAny_fieldsOf hoi hdi ?_)
  dsimp only
  refine wpAny_bind (wpAny_setEntries_of ho hd hf ?_)
  rw [if_neg (by simp)]
  refine wpAny_bind (wpAny_seqItems hoT hdT ?_)
  dsimp only
  simp only [qC4,hp]
  refine wpAny_bind ?_
  unfold setNextDrawn
  refine wpAny_bind (wpAny_setState_of ho hd hf ?_)
  dsimp only
  rw [if_neg (by simp)]
  simp only [qC4,hx]
  refine wpAny_pure ?_
  refine wpAny_bind (wpAny_setField hoi hdi (by simp) ?_)
  have e1:=Heap.get?_update_self (Obj.mapFields (·.setIfInBounds 1 (rawInt ((i:Int) + 1)))) hoi (Obj.isFreed_of_fields (Obj.data_mapFields hdi _))
  refine wpAny_pure ⟨x,rfl,wpAny_pure (hQ _ ⟨_,e1,?_,?_⟩ (Heap.SameBut.update ..))⟩
  · rw [Obj.cls_mapFields,hc]
  · rw [Obj.data_mapFields hdi]
    simp [rawInt]
theorem zM0 {it a T:Addr} {es:Array (Int × Value)} {ep:Nat} {tb:SetTable} {os:Obj} {i:Nat} {ps:Array Value} {Q:Option Value→Shared→Prop} (hh:A.handled = none) (hne:a≠it)
    (hit:IsSI s.heap it #[.ref T,.int i 0,.ref a,.int es.size 0,.int ep 0]) (ho:s.heap.get? a = some os) (hd:os.data = .set es ep tb) (hf:tb.fits es.size = true)
    (hT0:∃ oT n,s.heap.get? T = some oT∧oT.data = .seq ps n) (hp:ps[i]? = none)
    (hQ:∀ h',Heap.ExtBut it s.heap h'→Q none { s with heap:=h' }) :
    wpAny (model prog w) A (pyNext (.ref it)) Q E s:=by
  obtain ⟨o,hoi,hc,hdi⟩:=hit
  obtain ⟨oT,nT,hoT,hdT⟩:=hT0
  have hT:s.TypeIs (.ref it) "set_iterator":=⟨o,hoi,hc⟩
  unfold pyNext
  refine wpAny_bind (wpAny_attempt (wpAny_callSpecial?_slot (name:=Str.ofString "__next__") hT slot_si_next (wpAny_call_entry slot_si_next hT zCB ?_ (zCW _))))
  unfold Builtin.«set_iterator.__next__»
  refine wpAny_bind (m:=slotArgs "__next__" 0 _) (wpAny_pure ?_)
  refine wpAny_bind (wpAny_fieldsOf hoi hdi ?_)
  dsimp only
  refine wpAny_bind (wpAny_setEntries_of ho hd hf ?_)
  rw [if_neg (by simp)]
  refine wpAny_bind (wpAny_seqItems hoT hdT ?_)
  dsimp only
  simp only [qC4,hp]
  refine wpAny_bind (wpAny_setField hoi hdi (by simp) ?_)
  have e1:=Heap.get?_update_self (Obj.mapFields (·.setIfInBounds 0 (rawInt 0))) hoi (Obj.isFreed_of_fields (Obj.data_mapFields hdi _))
  refine wpAny_bind (wpAny_setField e1 (Obj.data_mapFields hdi _) (by simp) ?_)
  refine zPL hh fun x h' _ hk hx=>?_
  obtain ⟨ox,hox,hcx⟩:=hx
  refine wpAny_bind (wpAny_isInstance (T:="StopIteration") (b:=true) ⟨ox,hox,hcx⟩ isSubtype_stop ?_)
  exact wpAny_pure (hQ _ fun b o' hb e=>hk b o' ((Heap.get?_update_other _ _ (qCh hb)).trans ((Heap.get?_update_other _ _ (qCh hb)).trans e)))
end
end L2
namespace L2
open PySem PySem.Spec PyProof.Rows
section
variable {prog:Program} {w:World} {A:Around} {E:Value→Shared→Prop} {s:Shared}
theorem zJU (hh:A.handled = none) {it a:Addr} (hne:a≠it) {es:Array (Int × Value)} {ep:Nat} {tb:SetTable} {os:Obj} (hd:os.data = .set es ep tb) (hf:tb.fits es.size = true) (vs:Nat→Value) (sl:Nat→Nat)
    (hN:∀ i,i < es.size→∀ (s:Shared) (Q:Option (Value × Nat)→Shared→Prop) (A:Around) (E:Value→Shared→Prop),s.heap.get? a = some os→Q (some (vs i,sl (i + 1))) s→wpAny (model prog w) A (setNext a (sl i) i ep) Q E s)
    (hE:∀ (s:Shared) (Q:Option (Value × Nat)→Shared→Prop) (A:Around) (E:Value→Shared→Prop),s.heap.get? a = some os→Q none s→wpAny (model prog w) A (setNext a (sl es.size) es.size ep) Q E s) :
    Walks prog w A it [it,a] [it] es.size (fun i v=>v = vs i) (fun i h=>IsSI h it #[.int (sl i) 0,.int i 0,.ref a,.int es.size 0,.int ep 0]∧h.get? a = some os) where
  sub:=fun b hb=>by simp at hb; simp [hb]
  frame:=fun i h h' st hk=>⟨let ⟨o,ho,r⟩:=st.1; ⟨o,hk it (by simp) o ho,r⟩,hk a (by simp) _ st.2⟩
  item:=fun i s Q E hi st hQ=>by
    have hs:s = { s with toks:=s.toks }:=by cases s; rfl
    refine zK4 hne st.1 st.2 hd hf (hN i hi) fun h' hit' hs'=>?_
    exact hQ _ h' s.toks rfl ⟨hit',(hs'.2 a hne).trans st.2⟩ fun b o hb e=>(hs'.2 b fun z=>hb (by simp [z])).trans e
  done:=fun s Q E st hQ=>by
    refine zLZ hh hne st.1 st.2 hd hf hE fun h' he'=>?_
    exact hQ h' s.toks fun b o hb e=>he' b o (fun z=>hb (by simp [z])) e
  self:=fun i s Q E st hQ=>zPM st.1 hQ
theorem zPB (hh:A.handled = none) {it a T:Addr} (hne:a≠it) (hTi:T≠it) {es:Array (Int × Value)} {ep:Nat} {tb:SetTable} {os oT:Obj} {nT:Nat} (hd:os.data = .set es ep tb) (hf:tb.fits es.size = true) (ps:List Nat) (hps:ps.length = es.size) (hlt:∀ p∈ps,p < es.size) (hdT:oT.data = .seq (ps.map fun p:Nat=>rawInt (p:Int)).toArray nT) :
    Walks prog w A it [it,a,T] [it] es.size (fun i v=>∃ p h0,ps[i]? = some p∧es[p]? = some (h0,v)) (fun i h=>IsSI h it #[.ref T,.int i 0,.ref a,.int es.size 0,.int ep 0]∧h.get? a = some os∧h.get? T = some oT) where
  sub:=fun b hb=>by simp at hb; simp [hb]
  frame:=fun i h h' st hk=>⟨let ⟨o,ho,r⟩:=st.1; ⟨o,hk it (by simp) o ho,r⟩,hk a (by simp) _ st.2.1,hk T (by simp) _ st.2.2⟩
  item:=fun i s Q E hi st hQ=>by
    have hpi:ps[i]? = some ps[i]:=qA3 (by omega)
    have hpl:ps[i] < es.size:=hlt _ (qD0 _)
    have hx:es[ps[i]]? = some (es[ps[i]].1,es[ps[i]].2):=by simp [hpl]
    refine zK5 (p:=ps[i]) (t0:=0) hne st.1 st.2.1 hd hf ⟨oT,nT,st.2.2,hdT⟩ (by rw [List.getElem?_toArray,qAd,hpi]; rfl) hx fun h' hit' hs'=>?_
    exact hQ _ h' s.toks ⟨_,_,hpi,hx⟩ ⟨hit',(hs'.2 a hne).trans st.2.1,(hs'.2 T hTi).trans st.2.2⟩ fun b o hb e=>(hs'.2 b fun z=>hb (by simp [z])).trans e
  done:=fun s Q E st hQ=>by
    refine zM0 hh hne st.1 st.2.1 hd hf ⟨oT,nT,st.2.2,hdT⟩ (by simp [hps]) fun h' he'=>?_
    exact hQ h' s.toks fun b o hb e=>he' b o (fun z=>hb (by simp [z])) e
  self:=fun i s Q E st hQ=>zPM st.1 hQ
theorem zFL {α:Type}:∀ (l:List α) {i:Nat} (h:i < l.length),(l[i] :: l.eraseIdx i).Perm l
  | a :: r,0,h=>by simp
  | a :: r,i + 1,h=>by
    have:=zFL r (i:=i) (by simpa using h)
    simp only [qEz,qC0]
    exact (qH0 _ _ _).trans (this.cons a)
theorem zHW {α:Type}:∀ (n:Nat) (xs:List α) (s:Shared) (Q:List α→Shared→Prop),xs.length = n→(∀ ys d,ys.Perm xs→Q ys { s with drawn:=d })→wpAny (model prog w) A (drawOrder n xs) Q E s
  | 0,xs,s,Q,hl,h=>by
    have e:xs = []:=qDc.mp hl
    subst e
    unfold drawOrder
    have:=h [] s.drawn (qEj _)
    exact wpAny_pure this
  | n + 1,[],s,Q,hl,h=>by simp at hl
  | n + 1,x :: xs,s,Q,hl,h=>by
    unfold drawOrder
    refine wpAny_bind (zI5 (by simp) fun i d hi=>?_)
    have hget:(x :: xs)[i]? = some ((x :: xs)[i]'hi):=qA3 hi
    rw [hget]
    dsimp only
    refine wpAny_bind (zHW n _ _ _ (by rw [qCw hi]; simp at hl ⊢; omega) fun ys d' hp=>wpAny_pure ?_)
    exact h _ d' ((hp.cons _).trans (zFL _ hi))
theorem zPZ {α:Type} (next:Nat→Nat):∀ (fuel k:Nat) (left:List α) (out:Array α),left.length = fuel→(pickOrder.go next fuel k left out).toList.Perm (out.toList ++ left)
  | 0,k,left,out,hl=>by
    have e:left = []:=qDc.mp hl
    subst e
    simp [pickOrder.go]
  | fuel + 1,k,left,out,hl=>by
    unfold pickOrder.go
    have hi:next k % left.length < left.length:=qBo _ (by omega)
    have hget:left[next k % left.length]? = some (left[next k % left.length]'hi):=qA3 hi
    rw [hget]
    dsimp only
    refine (zPZ next fuel (k + 1) _ _ (by rw [qCw hi]; omega)).trans ?_
    rw [qFv,qBh]
    exact qDx _ (zFL left hi)
theorem zEQ (next:Nat→Nat) {α:Type} (xs:Array α):(pickOrder next xs).toList.Perm xs.toList:=by
  have:=zPZ next xs.size 0 xs.toList #[] (by simp)
  unfold pickOrder
  simpa using this
theorem zEL {es:List (Int × Value)} (h:ElemsOf (strKind prog w) es):StrsAre (es.map (·.2)) (es.map fun e=>strOf e.2):=by
  induction es with
  | nil=>exact .nil
  | cons e r ih =>
    obtain ⟨k,t,e1⟩:=zJB h (qAz ..)
    have:=ih h.tail
    rw [qAi,qAi,e1]
    exact .cons k t this
theorem zOJ {vs:List Value} {zs:List Str} {acc:Array Value} {n:Nat} {P:Nat→Value→Prop} (hi:ItemsOf P acc n) (hn:vs.length = n) (hP:∀ i v,i < n→P i v→vs[i]? = some v) (hz:StrsAre vs zs):StrsAre acc.toList zs:=by
  have:acc.toList = vs:=by
    refine List.ext_getElem? fun i=>?_
    by_cases h:i < n
    · have hs:i < acc.size:=by rw [hi.1]; exact h
      have h1:acc[i]? = some acc[i]:=by simp [hs]
      rw [qBi,h1,hP i _ h (hi.2 i _ h1)]
    · rw [qFa (by simp [hi.1]; omega),qFa (by omega)]
  rw [this]
  exact hz
theorem zQT {a:Addr} {ks:List Str} (hS:SetZ prog w s.heap a (!w.params.followText "set-order") ks) (hk:ks≠[]) {Q:Value→Shared→Prop}
    (hQ:∀ (it:Addr) (h2:Heap) (d2:Drawn) (fp:List Addr) (St:Nat→Heap→Prop) (P:Nat→Value→Prop) (vs:List Value) (zs:List Str),(∀ A':Around,A'.handled = none→Walks prog w A' it fp [it] ks.length P St)→(∀ i v,i < ks.length→P i v→vs[i]? = some v)→vs.length = ks.length→StrsAre vs zs→zs.Perm ks →
      St 0 h2→(∀ b∈fp,b < h2.objs.size)→(∀ b∈fp,b = a∨s.heap.objs.size≤b)→s.heap.objs.size≤it→(∀ b o,s.heap.get? b = some o→h2.get? b = some o)→Q (.ref it) { s with heap:=h2,drawn:=d2 }) :
    wpAny (model prog w) A (pyIter (.ref a)) Q E s:=by
  obtain ⟨o,es,ep,t,ho,hex,hd,hel,hks,hnd,hb,hf,hled,hpl⟩:=hS
  have hn:es.size = ks.length:=by rw [← hks,qAj,qB5]
  have hn1:0 < es.size:=by rw [hn]; exact List.length_pos_iff.mpr hk
  have hpl:=hpl hn1
  have hT:s.TypeIs (.ref a) "set":=⟨o,ho,hex.1⟩
  have hlt:a < s.heap.objs.size:=Heap.lt_size ho
  refine wpAny_pyIter_slot hT qFb (wpAny_call_entry qFb hT zH6 ?_ (PySem.F.args_set_iter_1 _))
  unfold Builtin.«frozenset.__iter__»
  refine wpAny_bind (m:=Builtin.Frozenset.slot0 "__iter__" _) (wpAny_pure ?_)
  refine wpAny_bind (m:=Builtin.Frozenset.sizeOf a) (wpAny_bind (wpAny_setEntries_of ho hd hf (wpAny_pure ?_)))
  refine wpAny_bind (m:=setDrawn a) ?_
  unfold setDrawn
  refine wpAny_bind (wpAny_setState_of ho hd hf ?_)
  dsimp only
  unfold setsByText
  refine wpAny_bind (wpAny_bind (wpAny_askSetting (wpAny_pure ?_)))
  refine wpAny_pure ?_
  show wpAny _ _ (if (!w.params.followText "set-order" && (!t.plain && decide (es.size > 1))) = true then _ else _) _ _ _
  rw [hpl]
  have ne1:a≠s.heap.objs.size:=qAk hlt
  rw [← hn] at hQ
  cases hbt:w.params.followText "set-order" with
  | true =>
    rw [if_neg (by simp)]
    refine wpAny_bind (wpAny_pure ?_)
    refine wpAny_bind (wpAny_setEpoch_of ho hd hf ?_)
    refine wpAny_bind (wpAny_newObj_type (wpAny_pure ⟨_,rfl,"set_iterator",_,⟨_,Heap.get?_push_size _ rfl,rfl⟩,slot_si_next.lookup,?_⟩))
    have hpk:=zEQ (w.params.setOrder a ep) es
    have hpl':(pickOrder (w.params.setOrder a ep) es).size = es.size:=by rw [← qB5,hpk.length_eq,qB5]
    generalize hpo:pickOrder (w.params.setOrder a ep) es = pk at hpk hpl'
    have hnext:∀ (i:Nat) (s:Shared) (Q:Option (Value × Nat)→Shared→Prop) (A:Around) (E:Value→Shared→Prop),s.heap.get? a = some o→Q ((pk[i]?).map fun e=>(e.2,0)) s→wpAny (model prog w) A (setNext a 0 i ep) Q E s:=by
      intro i s Q A E ho' hq
      unfold setNext
      refine wpAny_bind (wpAny_setState_of ho' hd hf ?_)
      dsimp only
      unfold setsByText
      refine wpAny_bind (wpAny_bind (wpAny_askSetting (wpAny_pure ?_)))
      show wpAny _ _ (if w.params.followText "set-order" = true then _ else _) _ _ _
      rw [hbt,if_pos rfl]
      rw [if_neg (by simp)]
      refine wpAny_bind ?_
      unfold setWalk
      refine wpAny_bind (wpAny_setState_of ho' hd hf ?_)
      dsimp only
      unfold setsByText
      refine wpAny_bind (wpAny_bind (wpAny_askSetting (wpAny_pure ?_)))
      show wpAny _ _ (if w.params.followText "set-order" = true then _ else _) _ _ _
      rw [hbt,if_pos rfl]
      refine wpAny_bind (wpAny_askSetting ?_)
      refine wpAny_pure ?_
      show wpAny _ _ (pure (((pickOrder (w.params.setOrder a ep) es)[i]?).map fun e=>(e.2,0))) _ _ _
      rw [hpo]
      exact wpAny_pure hq
    refine hQ s.heap.objs.size _ s.drawn [s.heap.objs.size,a] _ _ (pk.toList.map (·.2)) (pk.toList.map fun e=>strOf e.2) (fun A' hA'=>zJU hA' ne1 hd hf (fun i=>((pk[i]?).map (·.2)).getD .none) (fun _=>0) (fun i hi s Q A E ho' hq=>hnext i s Q A E ho' ?_) (fun s Q A E ho' hq=>hnext _ s Q A E ho' ?_)) (fun i v hi hv=>?_) (by rw [qAj,qB5,hpl']) (zEL (hel.perm hpk)) (by rw [← hks]; exact hpk.map _) ⟨⟨_,Heap.get?_push_size _ rfl,rfl,rfl⟩,Heap.get?_push_of_some _ ho⟩ (fun b hb=>?_) (fun b hb=>by simp only [qAb,qAp,or_false] at hb; rcases hb with rfl | rfl; exact .inr (qAa _); exact .inl rfl) (qAa _) (fun b o e=>Heap.get?_push_of_some _ e)
    · have:pk[i]? = some pk[i]:=by simp [hpl',hi]
      rw [this] at hq ⊢
      exact hq
    · have:pk[es.size]? = none:=by simp [hpl']
      rw [this]
      exact hq
    · rw [hv,qAd,qBi]
      have:pk[i]? = some pk[i]:=by simp [hpl',hi]
      rw [this]
      rfl
    · show b < (s.heap.push _).objs.size
      rw [Heap.size_push]
      simp only [qAb,qAp,or_false] at hb
      rcases hb with rfl | rfl
      · exact qBw _
      · exact qBc hlt
  | false =>
    by_cases h2:1 < es.size
    · rw [if_pos (by simp [h2])]
      refine wpAny_bind (zHW es.size (qA9 es.size) s _ (by simp) fun ps d hps=>?_)
      have hpn:ps.length = es.size:=by rw [hps.length_eq,qDr]
      refine wpAny_bind (wpAny_newTuple ?_ (hsz:=by rw [qAj,hpn]; exact fits_of_scanBound hb))
      have ho1:(s.heap.push (seqObj "tuple" (ps.map fun i:Nat=>rawInt (i:Int)).toArray 0)).get? a = some o:=Heap.get?_push_of_some _ ho
      refine wpAny_bind (wpAny_setEpoch_of (s:={ heap:=s.heap.push (seqObj "tuple" (ps.map fun i:Nat=>rawInt (i:Int)).toArray 0),gens:=s.gens,drawn:=d,toks:=s.toks,os:=s.os }) ho1 hd hf ?_)
      refine wpAny_bind (wpAny_newObj_type (wpAny_pure ⟨_,rfl,"set_iterator",_,⟨_,Heap.get?_push_size _ rfl,rfl⟩,slot_si_next.lookup,?_⟩))
      have hsz:(s.heap.push (seqObj "tuple" (ps.map fun i:Nat=>rawInt (i:Int)).toArray 0)).objs.size = s.heap.objs.size + 1:=Heap.size_push _ _
      have hpl3:∀ p∈ps,p < es.size:=fun p hp=>qCn.mp (hps.mem_iff.mp hp)
      have hvs:∀ (i:Nat) (v:Value),(∃ (p:Nat) (h0:Int),ps[i]? = some p∧es[p]? = some (h0,v))→(ps.map fun p=>((es[p]?).map (·.2)).getD .none)[i]? = some v:=fun i v ⟨p,h0,e1,e2⟩=>by
        rw [qAd,e1]
        show some (((es[p]?).map (·.2)).getD .none) = _
        rw [e2]
        rfl
      have hall:∀ f:Int × Value→Str,((qA9 es.size).map fun p=>((es[p]?).map f).getD ⟨#[]⟩) = es.toList.map f:=fun f=>by
        refine qE5 (by simp) fun i h1 h2=>?_
        have hi:i < es.size:=by simpa using h1
        simp [hi]
      have hallv:((qA9 es.size).map fun p=>((es[p]?).map (·.2)).getD Value.none) = es.toList.map (·.2):=by
        refine qE5 (by simp) fun i h1 h2=>?_
        have hi:i < es.size:=by simpa using h1
        simp [hi]
      have hstr:StrsAre (ps.map fun p=>((es[p]?).map (·.2)).getD .none) (ps.map fun p=>((es[p]?).map fun e=>strOf e.2).getD ⟨#[]⟩):=by
        have gen:∀ l:List Nat,(∀ p∈l,p < es.size)→StrsAre (l.map fun p=>((es[p]?).map (·.2)).getD .none) (l.map fun p=>((es[p]?).map fun e=>strOf e.2).getD ⟨#[]⟩):=by
          intro l
          induction l with
          | nil=>intro _; exact .nil
          | cons p r ih =>
            intro hl
            have hp:=hl p (by simp)
            have hg:es[p]? = some es[p]:=by simp [hp]
            obtain ⟨k,tk,e1⟩:=zJB hel (e:=es[p]) (by rw [← Array.getElem_toList]; exact qD0 _)
            rw [qAi,qAi,hg]
            show StrsAre (es[p].2 :: _) (strOf es[p].2 :: _)
            rw [e1]
            exact .cons k tk (ih fun q hq=>hl q (by simp [hq]))
        exact gen ps hpl3
      refine hQ (s.heap.push (seqObj "tuple" (ps.map fun i:Nat=>rawInt (i:Int)).toArray 0)).objs.size _ d [(s.heap.push (seqObj "tuple" (ps.map fun i:Nat=>rawInt (i:Int)).toArray 0)).objs.size,a,s.heap.objs.size] _ _ _ _ (fun A' hA'=>zPB (T:=s.heap.objs.size) (oT:=seqObj "tuple" (ps.map fun i:Nat=>rawInt (i:Int)).toArray 0) hA' (by rw [hsz]; exact qAk (qBc hlt)) (by rw [hsz]; exact qAk (qBw _)) hd hf ps hpn hpl3 rfl) (fun i v _ hv=>hvs i v hv) (by rw [qAj,hpn]) hstr ?_ ⟨⟨_,Heap.get?_push_size _ rfl,rfl,rfl⟩,Heap.get?_push_of_some _ ho1,Heap.get?_push_of_some _ (Heap.get?_push_size _ rfl)⟩ (fun b hb=>?_) (fun b hb=>by rw [hsz] at hb; simp only [qAb,qAp,or_false] at hb; rcases hb with rfl | rfl | rfl; exact .inr (qBv _); exact .inl rfl; exact .inr (qAa _)) (by rw [hsz]; exact qBv _) (fun b o e=>Heap.get?_push_of_some _ (Heap.get?_push_of_some _ e))
      · rw [← hks,← hall]
        exact hps.map _
      · show b < (Heap.push _ _).objs.size
        rw [Heap.size_push,hsz]
        rw [hsz] at hb
        simp only [qAb,qAp,or_false] at hb
        rcases hb with rfl | rfl | rfl
        · exact qBw _
        · exact qBc (qBc hlt)
        · exact qBc (qBw _)
    · rw [if_neg (by simp [h2])]
      refine wpAny_bind (wpAny_pure ?_)
      refine wpAny_bind (wpAny_setEpoch_of ho hd hf ?_)
      refine wpAny_bind (wpAny_newObj_type (wpAny_pure ⟨_,rfl,"set_iterator",_,⟨_,Heap.get?_push_size _ rfl,rfl⟩,slot_si_next.lookup,?_⟩))
      have hs1:es.size = 1:=by omega
      have hled':t.led = true:=by rw [hled,hbt]; rfl
      have hps1:t.place.size = 1:=by
        simp only [SetTable.fits,qBb,beq_iff_eq] at hf
        rw [hf.1,hs1]
      obtain ⟨es0⟩:=es
      obtain ⟨e0,rfl⟩:∃ e0,es0 = [e0]:=qF0.mp (by simpa using hs1)
      obtain ⟨j,hj⟩:∃ j,t.place = #[j]:=by
        obtain ⟨l⟩:Nonempty Unit:=⟨()⟩
        have:t.place.toList.length = 1:=by simpa using hps1
        obtain ⟨j,e⟩:=qF0.mp this
        exact ⟨j,Array.ext' e⟩
      have b0:SetTable.below t.place 0 = 0:=by rw [hj]; simp [SetTable.below,SetTable.below.go]
      have b1:SetTable.below t.place (j + 1) = 1:=by rw [hj]; simp [SetTable.below,SetTable.below.go]
      have hnext:∀ (sl i:Nat) (s:Shared) (Q:Option (Value × Nat)→Shared→Prop) (A:Around) (E:Value→Shared→Prop),s.heap.get? a = some o→Q (match (#[e0]:Array (Int × Value))[SetTable.below t.place sl]?,t.place[SetTable.below t.place sl]? with | some (_,x),some j=>some (x,j + 1) | _,_=>none) s→wpAny (model prog w) A (setNext a sl i ep) Q E s:=by
        intro sl i s Q A E ho' hq
        unfold setNext
        refine wpAny_bind (wpAny_setState_of ho' hd hf ?_)
        dsimp only
        unfold setsByText
        refine wpAny_bind (wpAny_bind (wpAny_askSetting (wpAny_pure ?_)))
        show wpAny _ _ (if w.params.followText "set-order" = true then _ else _) _ _ _
        rw [hbt,if_neg (by decide)]
        show wpAny _ _ (if (!t.plain && decide ((#[e0]:Array (Int × Value)).size > 1)) = true then _ else _) _ _ _
        rw [if_neg (by simp)]
        refine wpAny_bind ?_
        show wpAny _ _ (if (!t.led && !(#[e0]:Array (Int × Value)).isEmpty) = true then _ else _) _ _ _
        rw [hled',if_neg (by simp)]
        exact wpAny_pure (wpAny_pure hq)
      refine hQ s.heap.objs.size _ s.drawn [s.heap.objs.size,a] _ _ [e0.2] [strOf e0.2] (fun A' hA'=>zJU hA' ne1 hd hf (fun _=>e0.2) (fun i=>if i = 0 then 0 else j + 1) (fun i hi s Q A E ho' hq=>hnext _ i s Q A E ho' ?_) (fun s Q A E ho' hq=>hnext _ _ s Q A E ho' ?_)) (fun i v hi hv=>?_) rfl ?_ (by rw [← hks]; exact qEj _) ⟨⟨_,Heap.get?_push_size _ rfl,rfl,rfl⟩,Heap.get?_push_of_some _ ho⟩ (fun b hb=>?_) (fun b hb=>by simp only [qAb,qAp,or_false] at hb; rcases hb with rfl | rfl; exact .inr (qAa _); exact .inl rfl) (qAa _) (fun b o e=>Heap.get?_push_of_some _ e)
      · have hi0:i = 0:=by simp at hi; exact hi
        subst hi0
        rw [if_pos rfl,b0,hj]
        simpa using hq
      · simp only [qAc,qAu,qGg,qBt,Nat.one_ne_zero,if_false,b1]
        simpa using hq
      · have hi0:i = 0:=by simp at hi; exact hi
        subst hi0
        rw [hv]
        rfl
      · have:=zEL hel
        simpa using this
      · show b < (s.heap.push _).objs.size
        rw [Heap.size_push]
        simp only [qAb,qAp,or_false] at hb
        rcases hb with rfl | rfl
        · exact qBw _
        · exact qBc hlt
end
end L2
namespace L2
open PySem PySem.Spec PyProof.Rows
theorem zUL:typeLookup (.type "set") "__len__" = pure (some (.builtin "set.__len__")):=by rw [typeLookup_type,builtinLookup_eq_fast]; kernel_rfl
section
variable {prog:Program} {w:World} {A:Around} {E:Value→Shared→Prop} {s:Shared}
theorem SetZ.type {h:Heap} {a:Addr} {led:Bool} {ks:List Str} (hS:SetZ prog w h a led ks):∃ o,h.get? a = some o∧o.cls = .type "set":=by
  obtain ⟨o,_,_,_,ho,hex,_⟩:=hS
  exact ⟨o,ho,hex.1⟩
theorem zL8 {a:Addr} {ks:List Str} (hh:A.handled = none) (hS:SetZ prog w s.heap a (!w.params.followText "set-order") ks) (hk:ks≠[]) (hlen:ks.length≤sizeLine) {Q:List Value→Shared→Prop}
    (hQ:∀ (h':Heap) (d:Drawn) (tk:Nat) (acc:List Value) (zs:List Str),StrsAre acc zs→zs.Perm ks→s.heap.objs.size < h'.objs.size→(∀ b o,s.heap.get? b = some o→h'.get? b = some o)→Q acc { s with heap:=h',drawn:=d,toks:=tk }) :
    wpAny (model prog w) A (collect (.ref a)) Q E s:=by
  obtain ⟨o0,ho0,hc0⟩:=hS.type
  have hlt:a < s.heap.objs.size:=Heap.lt_size ho0
  unfold collect
  refine wpAny_bind (wpAny_runValue (codeAny_builtin PySem.F.entry_proto_collect ?_))
  rw [Around.under_plainId PySem.F.plain_proto_collect _]
  show wpAny _ A.in1 (newList [] >>= fun l=>again (.builtin "list.__iadd__" ⟨[l,.ref a],[]⟩)) _ _ s
  refine wpAny_bind (wpAny_newObj_type ?_)
  refine wpAny_pure ⟨plainId_quiet qEq _,codeAny_builtin PySem.F.entry_list_iadd ?_⟩
  rw [Around.under_plainId qEq _]
  show wpAny _ A.in1 (Builtin.List.listExtendWith (.ref s.heap.objs.size) (.ref a) (.ref s.heap.objs.size)) _ _ _
  unfold Builtin.List.listExtendWith
  have ho1:(s.heap.push { cls:=.type "list",data:=.seq ([]:List Value).toArray }).get? a = some o0:=Heap.get?_push_of_some _ ho0
  refine wpAny_bind (wpAny_typeOf (T:="set") ⟨o0,ho1,hc0⟩ ?_)
  have h1:Builtin.List.listSameRef (.ref s.heap.objs.size) (.ref a) = false:=by simp [Builtin.List.listSameRef]; exact qBp hlt
  have h2:(Value.type "set" == Value.type "list") = false:=by decide
  have h3:(Value.type "set" == Value.type "tuple") = false:=by decide
  simp only [h1,h2,h3,qHh,qFn,if_false]
  refine wpAny_bind (zQT (hS.at fun o e=>Heap.get?_push_of_some _ e) hk fun it h2 d2 fp St P vs zs W hP hvl hsa hzp hst hfp hfa hit hkeep=>?_)
  have hS1:h2.get? s.heap.objs.size = some { cls:=.type "list",data:=.seq ([]:List Value).toArray }:=hkeep _ _ (Heap.get?_push_size _ rfl)
  have hsz:(s.heap.push { cls:=.type "list",data:=.seq ([]:List Value).toArray }).objs.size = s.heap.objs.size + 1:=Heap.size_push _ _
  have hSf:s.heap.objs.size ∉ fp:=fun hm=>by
    rcases hfa _ hm with e | e
    · exact qBp hlt e
    · rw [hsz] at e; exact Nat.not_succ_le_self _ e
  refine wpAny_bind (wpAny_holding ?_)
  unfold Builtin.List.listLengthHint
  have ho2:h2.get? a = some o0:=hkeep _ _ ho1
  refine wpAny_bind (wpAny_specialOf (T:="set") (v:=.ref a) ⟨o0,ho2,hc0⟩ zUL ?_)
  wp_delta
  refine wpAny_bind (wpAny_isInstance (T:="set") (v:=.ref a) (b:=true) ⟨o0,ho2,hc0⟩ (by rw [isSubtype_type]; kernel_rfl) ?_)
  show wpAny _ A.in1 (typeOf (Value.ref a) >>= _) _ _ _
  refine wpAny_bind (wpAny_typeOf (T:="set") (v:=.ref a) ⟨o0,ho2,hc0⟩ ?_)
  refine wpAny_pure ?_
  show wpAny _ A.in1 (rule "list.extend.makes-room" >>= fun _=>Builtin.List.listTouch (.ref s.heap.objs.size) >>= fun _ =>
    again (.builtin "list.extend.loop" ⟨[.ref s.heap.objs.size,.ref it,.ref s.heap.objs.size],[]⟩)) _ _ _
  refine wpAny_bind (wpAny_rule ?_)
  refine wpAny_bind ?_
  show wpAny _ A.in1 (updateSeq s.heap.objs.size (·.push .none) >>= fun _=>updateSeq s.heap.objs.size (·.pop)) _ _ _
  refine wpAny_bind (wpAny_updateSeq hS1 rfl ?_)
  have hS₂:=Heap.get?_update_self (Obj.mapSeq (·.push Value.none)) hS1 rfl
  refine wpAny_updateSeq hS₂ rfl ?_
  have hS₃:=Heap.get?_update_self (Obj.mapSeq (·.pop)) hS₂ rfl
  have oth:∀ b o,b≠s.heap.objs.size→h2.get? b = some o→((h2.update s.heap.objs.size (Obj.mapSeq (·.push Value.none))).update s.heap.objs.size (Obj.mapSeq (·.pop))).get? b = some o :=
    fun b o hb e=>(Heap.get?_update_other _ _ (qCh hb)).trans ((Heap.get?_update_other _ _ (qCh hb)).trans e)
  refine wpAny_pure ⟨plainId_quiet PySem.F.plain_extend_loop _,codeAny_extend_loopS (W A.in1 hh).toS hlen _ hSf _ ks.length 0 _ _ _ rfl (qAs _) ((W A.in1 hh).frame 0 h2 _ hst fun b hb o e=>oth b o (fun z=>hSf (z ▸ hb)) e) hS₃ (ItemsOf.nil P) fun s' acc' c' hm hS' hacc=>?_⟩
  show wpAny _ A (load s.heap.objs.size >>= _) _ _ s'
  refine wpAny_bind (wpAny_load hS' ?_)
  obtain ⟨h',g',d',tk',os'⟩:=s'
  have eg:g' = s.gens:=hm.gens
  have ed:d' = d2:=hm.drawn
  have eo:os' = s.os:=hm.os
  subst eg; subst ed; subst eo
  refine wpAny_pure (hQ h' d' tk' acc'.toList zs (zOJ hacc hvl hP hsa) hzp (Heap.lt_size hS') fun b o e=>?_)
  have hbl:b < s.heap.objs.size:=Heap.lt_size e
  refine hm.heap b o (fun hb=>?_) (oth b o (qAk hbl) (hkeep b o (Heap.get?_push_of_some _ e)))
  simp only [qAb,qAp,or_false] at hb
  rcases hb with rfl | rfl
  · exact qC8 _ hbl
  · rw [hsz] at hit; exact absurd hbl (Nat.not_lt.mpr (Nat.le_of_succ_le hit))
theorem zLY {a:Addr} {ks:List Str} (hh:A.handled = none) (hS:SetZ prog w s.heap a (!w.params.followText "set-order") ks) (hk:ks≠[]) (hlen:ks.length < 64) {Q:Value→Shared→Prop}
    (hQ:∀ (h':Heap) (d:Drawn) (tk:Nat) (L:Addr) (out:Array Value) (e:Nat) (zs:List Str),StrsAre out.toList zs→zs.Perm ks→sortedS zs = true→s.heap.objs.size≤L→h'.get? L = some (seqObj "list" out e)→(∀ b o,s.heap.get? b = some o→h'.get? b = some o)→Q (.ref L) { s with heap:=h',drawn:=d,toks:=tk }) :
    wpAny (model prog w) A (call (.builtin "sorted") [.ref a]) Q E s:=by
  refine Calls.call_function_entry kind_sorted plain_sorted entry_sorted (args_sorted1 _) ?_
  unfold Builtin.«sorted»
  refine wpAny_bind (m:=checkCount "sorted" 1 1 _) (wpAny_pure ?_)
  refine wpAny_bind (zL8 (A:=A.in1) hh hS hk (by rw [sizeLine_eq]; omega) fun h' d tk acc zs hsa hzp hgr hkeep=>?_)
  have hal:acc.length = ks.length:=by rw [zN5 hsa,hzp.length_eq]
  refine wpAny_bind (wpAny_newList ?_ (hsz:=by rw [hal,sizeLine_eq]; omega))
  have hoL:(h'.push (seqObj "list" acc.toArray 0)).get? h'.objs.size = some (seqObj "list" acc.toArray 0):=Heap.get?_push_size _ rfl
  refine wpAny_bind (wpAny_holding (wpAny_call_entry slot_list_sort ⟨_,hoL,rfl⟩ entry_list_sort (list_sort_treeK strKind_oneLt hoL hsa.keysOf (fun v₁ v₂ rest e=>keyKind_strs (by rw [← e]; exact hsa)) (by omega) fun st' a1 a2=>⟨_,rfl,?_⟩) (args_list_sort _)))
  obtain ⟨zs',b1,b2,b3⟩:=sorted_out_str hsa a1 a2
  obtain ⟨e,he⟩:=sortedHeap_at (vs:=acc) (out:=(arrOf st').map (·.2)) hoL
  refine wpAny_pure ⟨_,rfl,hQ _ d tk h'.objs.size _ e zs' b1 (b2.trans hzp) b3 ?_ he fun b o eb=>?_⟩
  · exact qC9 hgr
  · have h1:=hkeep b o eb
    have hlt:b < h'.objs.size:=Heap.lt_size h1
    rw [sortedHeap_old (qAk hlt) (by rw [size_push']; exact qBc hlt)]
    exact Heap.get?_push_of_some _ h1
end
end L2
namespace Mi
open PySem
noncomputable section
noncomputable def ded:List Nat→List Nat
  | []=>[]
  | a :: r=>if a∈ded r then ded r else a :: ded r
def sosL (l:List Nat):List Nat:=(ded l).mergeSort fun a b=>decide (a≤b)
def sosD:List Dt→Option Dt
  | [.str z]=>@ite _ (0 < z.length∧z.length≤60) (qA4 _) (some (.lst ((sosL z.cps.toList).map fun c=>.str ⟨#[c]⟩))) none
  | _=>none
theorem zJE (x:Nat):∀ l:List Nat,x∈ded l ↔ x∈l
  | []=>by simp [ded]
  | a :: r=>by
    unfold ded
    split
    · rename_i h
      rw [zJE x r,qAb]
      constructor
      · exact .inr
      · rintro (rfl | h')
        · exact (zJE x r).mp h
        · exact h'
    · rw [qAb,qAb,zJE x r]
theorem zH7:∀ l:List Nat,(ded l).Nodup
  | []=>by simp [ded]
  | a :: r=>by
    unfold ded
    split
    · exact zH7 r
    · rename_i h
      exact qBl.mpr ⟨h,zH7 r⟩
theorem sos_mem (x:Nat) (l:List Nat):x∈sosL l ↔ x∈l:=by
  unfold sosL
  rw [(qD2 _ _).mem_iff,zJE]
theorem sos_nodup (l:List Nat):(sosL l).Nodup:=by
  unfold sosL
  exact (qD2 _ _).nodup_iff.mpr (zH7 l)
theorem sos_asc (l:List Nat):(sosL l).Pairwise (·≤·):=by
  have:=List.pairwise_mergeSort (le:=fun a b:Nat=>decide (a≤b)) (fun a b c h1 h2=>by simp at h1 h2 ⊢; omega) (fun a b=>by simp; omega) (ded l)
  exact this.imp fun h=>by simpa using h
end
end Mi
namespace L2
open PySem PySem.Spec PyProof.Rows
section
variable {X:Cx} {pins:List (Addr × Obj)} {σ:List (Option V)} {H:Hp} {s:Shared}
theorem Inv.drawn (I:Inv X pins σ H s) (d:Drawn):Inv X pins σ H { s with drawn:=d }:=⟨I.ok,I.os,I.bare,I.base,I.loc,I.cell,I.free,I.freeC,I.pin,I.hok,I.len⟩
noncomputable def zPO (P:Program) (w:World) (a:Addr) (ks:List Str):HO:=.ext fun h=>SetZ P w h a (!w.params.followText "set-order") ks
def zX6 (P:Program) (w:World):List V→Hp→VK→Prop:=fun vs H Q=>match vs with
  | [.str z]=>z.cps.size≤1000∧∀ a ks,H a = none→ks.Nodup→(∀ c,c∈ks ↔ ∃ d∈z.cps.toList,c = (⟨#[d]⟩:Str))→Q (.ref a) (upd H a (zPO P w a ks))
  | _=>False
theorem zTN (hc:X.calm = true):zDH X (.type "set") (zX6 X.prog X.w):=by
  intro pins s σ H vs us Q I r h
  cases vs with
  | nil=>exact qA5 h
  | cons hd1 tl1 =>
    cases hd1 with
    | str z =>
      cases tl1 with
      | nil =>
        obtain ⟨hz,q⟩:=h
        obtain ⟨u,rfl,rx⟩:=zDF r
        obtain ⟨t,rfl⟩:=rx
        refine zIE (I.ok.hd hc) (by unfold scanBound; omega) fun h' tk ks hS hks hk hsz=>?_
        have hS':=hS
        obtain ⟨o,es,ep,tb,ho,hex,hd,hel,hkse,hnd,_⟩:=hS
        refine ⟨.ref _,_,I.laid (t':=tk) (o:=zPO X.prog X.w s.heap.objs.size ks) (fun b u e=>hk b u (Heap.lt_size e) e) (qAa _) ⟨hS',⟨o,ho⟩,fun h1 h2 z f=>z.at f⟩,rfl,q _ ks (I.hok.fresh (qAa _)) hnd fun c=>?_⟩
        rw [hks c]
        constructor
        · rintro ⟨j,d,_,e1,e2⟩
          exact ⟨d,by rw [← qBi] at e1; exact qBx e1,e2⟩
        · rintro ⟨d,hd',e2⟩
          obtain ⟨j,e1⟩:=List.getElem?_of_mem hd'
          have hj:j < z.cps.size:=by have:=(qA1.mp e1).1; simpa using this
          exact ⟨j,d,hj,by rw [← qBi]; exact e1,e2⟩
      | cons _ _=>exact qA5 h
    | _=>exact qA5 h
def zTK (P:Program) (w:World):List V→Hp→VK→Prop:=fun vs H Q=>match vs with
  | [.ref a]=>∃ ks,H a = some (zPO P w a ks)∧ks≠[]∧ks.length < 64∧∀ ys:List Str,ys.Perm ks→sortedS ys = true→∀ l,H l = none→Q (.ref l) (upd H l (.lst (ys.map V.str)))
  | _=>False
theorem zQQ (hc:X.calm = true):zDH X (.builtin "sorted") (zTK X.prog X.w):=by
  intro pins s σ H vs us Q I r h
  cases vs with
  | nil=>exact qA5 h
  | cons hd1 tl1 =>
    cases hd1 with
    | ref a =>
      cases tl1 with
      | nil =>
        obtain ⟨ks,ha,hne,hlen,q⟩:=h
        obtain ⟨u,rfl,rx⟩:=zDF r
        cases rx
        have hok:ObjOk X.prog X.w H s.heap a (zPO X.prog X.w a ks):=I.hok a _ ha
        have hS:SetZ X.prog X.w s.heap a (!X.w.params.followText "set-order") ks:=hok.1
        refine zLY (I.ok.hd hc) hS hne hlen fun h' d tk L out e zs b1 b2 b3 hL hl hk=>?_
        have I2:Inv X pins σ H { s with drawn:=d }:=I.drawn d
        have hz':zs.length≤sizeLine:=by rw [b2.length_eq,sizeLine_eq]; omega
        exact ⟨.ref _,_,I2.laid (t':=tk) (o:=.lst (zs.map V.str)) (fun b o e=>hk b o e) hL ⟨by rw [qAj]; exact hz',out.toList,e,zJZ b1,by simpa [seqObj] using hl⟩,rfl,q zs b2 b3 _ (I2.hok.fresh hL)⟩
      | cons _ _=>exact qA5 h
    | _=>exact qA5 h
end
theorem zLE:bootBuiltins "set" = some (.type "set"):=by decide +kernel
end L2
namespace L3
open PySem PySem.Spec
open PyProof.Rows (risingS sortedS ltCps_eq)
open L2 hiding Rep RepL
open Mi (Dt Xn R okR zA3 optR zA0 zA9 zAC zA8 zAB Rh Sl Ro EM TM AM FM IM SM OM Tg Out zAU zAS zAZ full frz frz1 frzAt)
section
variable [Kc] {mg:Str→Option Value} {E:XK} {L n k l:Nat} {te ta tb:TE} {e ea eb ma:EM} {t:TA} {m:AM}
theorem one_le {c d:Nat}:([c]:List Nat)≤[d] ↔ c≤d:=by
  constructor
  · intro h
    by_cases z:c≤d
    · exact z
    · exact absurd (show ([d]:List Nat) < [c] from .rel (by omega)) (qHr.mpr h)
  · intro h
    rcases Nat.lt_or_eq_of_le h with h | h
    · exact List.le_of_lt (.rel h)
    · rw [h]; exact List.le_refl _
theorem zUK {l:List Nat} (h:l.Nodup):(l.map fun c=>(⟨#[c]⟩:Str)).Nodup:=by
  rw [qHg,qDs]
  refine h.imp fun hne e=>hne ?_
  have:[_] = [_]:=congrArg (fun s:Str=>s.cps.toList) e
  simpa using this
theorem zNA {G:Hp}:∀ (l:List Nat),RepL G (l.map fun c=>Dt.str ⟨#[c]⟩) ((l.map fun c=>(⟨#[c]⟩:Str)).map V.str)
  | []=>rfl
  | _ :: r=>⟨_,_,rfl,rfl,zNA r⟩
theorem zU7 {P:Program} {w:World} (A:DE mg E te e k):DE mg E (tCB (zTK P w) (zD8 (tCB (zX6 P w) (zD8 te tNil)) tNil)) (Mi.eBi Mi.sosD (Mi.aCons e Mi.aNil)) 1:=by
  intro G H σ ρ Q s w' p
  have p0:PostE mg E G H 1 (zA3 (e ρ) fun d=>optR (Mi.sosD [d])) Q:=by
    have:(Mi.eBi Mi.sosD (Mi.aCons e Mi.aNil)) ρ = zA3 (e ρ) fun d=>optR (Mi.sosD [d]):=by
      show zA3 (zA3 (e ρ) fun x=>zA3 (okR []) fun xs=>okR (x :: xs)) (fun xs=>optR (Mi.sosD xs)) = _
      cases e ρ with
      | none=>rfl
      | some r=>cases r <;> rfl
    rw [← this]
    exact p
  refine (zAO A).step errE s w' p0 fun d v G1 H1 S _ fr o p1=>?_
  cases d with
  | str z =>
    cases (show v = .str z from o)
    have p2:PostE mg E G H 1 (optR (@ite _ (0 < z.length∧z.length≤60) (qA4 _) (some (Dt.lst ((Mi.sosL z.cps.toList).map fun c=>Dt.str ⟨#[c]⟩))) none)) Q:=p1
    split at p2
    · rename_i hz
      have hzl:z.length = z.cps.size:=rfl
      refine ⟨by omega,fun a ks ha hnd hks=>?_⟩
      have hperm:ks.Perm ((Mi.sosL z.cps.toList).map fun c=>(⟨#[c]⟩:Str)):=by
        refine (List.perm_ext_iff_of_nodup hnd (zUK (Mi.sos_nodup _))).mpr fun c=>?_
        rw [hks c,qAv]
        constructor
        · rintro ⟨d,hd,rfl⟩; exact ⟨d,(Mi.sos_mem d _).mpr hd,rfl⟩
        · rintro ⟨d,hd,rfl⟩; exact ⟨d,(Mi.sos_mem d _).mp hd,rfl⟩
      have hsl:(Mi.sosL z.cps.toList).length≤60:=by
        have h1:(Mi.sosL z.cps.toList).length = (Mi.ded z.cps.toList).length:=(qD2 _ _).length_eq
        have h2:∀ l:List Nat,(Mi.ded l).length≤l.length:=by
          intro l
          induction l with
          | nil=>exact qAa _
          | cons a r ih =>
            unfold Mi.ded
            split
            · simp only [qAu]; omega
            · simp only [qAu]; omega
        have h3:=h2 z.cps.toList
        simp at h3
        omega
      refine ⟨ks,zAH,?_,by rw [hperm.length_eq,qAj]; omega,fun ys h1 h2 l hl=>?_⟩
      · intro hnil
        have hz0:0 < z.cps.toList.length:=by simp; omega
        have hm:z.cps.toList[0]∈z.cps.toList:=qD0 hz0
        have:=(hks ⟨#[z.cps.toList[0]]⟩).mpr ⟨_,hm,rfl⟩
        rw [hnil] at this
        simp at this
      · have hy:ys = (Mi.sosL z.cps.toList).map fun c=>(⟨#[c]⟩:Str):=by
          refine Mi.uniqZ (h1.trans hperm) (zPK h2) ?_
          rw [qDs]
          exact (Mi.sos_asc _).imp fun h=>one_le.mpr h
        subst hy
        have hla:l≠a:=fun z=>by rw [z,zAH] at hl; cases hl
        have hl1:H1 l = none:=by rw [zAK hla] at hl; exact hl
        have x1:Ext G1 H1 G1 (upd H1 a (zPO P w a ks)):=⟨Same.refl _,fun b o e=>by
            by_cases z:b = a
            · rw [z,ha] at e; cases e
            · rw [zAK z]; exact e,fun b o e=>by
            have e2:=fr.ext.in' _ _ e
            by_cases z:b = a
            · rw [z,ha] at e2; cases e2
            · rw [zAK z]; exact e2,fun _ _=>rfl⟩
        exact PostE.lst p2 (fr.ext.trans x1) (zNA _) hl
    · exact p2.elim
  | _=>exact p1.elim
end
end L3
namespace Mi
open PySem
noncomputable section
def index2D (x:Dt) (ys:List Dt):Option Dt:=match x,ys with
  | .str z,[.str y,.int n]=>match y.cps.toList with
    | [c]=>@ite _ (0≤n) (qA4 _) ((posC c (z.cps.toList.drop n.toNat)).map fun i=>.int (n + (i:Int))) none
    | _=>none
  | _,_=>none
def sAddPop (j i:Nat) (e:EM):SM:=fun ρ=>match ρ[j]?,ρ[i]? with
  | some (some (.str z,_)),some (some (.lst ds,k + 1))=>zA3 (e (full ρ)) fun d=>match d with
    | .int y=>match ixA ds.length y with
      | some q=>match ds[q]? with
        | some (.str u)=>@ite _ (i≠j∧ds.length≤1000000∧z.length + u.length≤100000) (qA4 _) (okR (.nx ((ρ.set i (some (.lst (ds.eraseIdx q),k + 1))).set j (some (.str (z ++ u),0))))) none
        | _=>none
      | none=>none
    | _=>none
  | _,_=>none
end
end Mi
namespace PySem
open Builtin Builtin.Str PySem.Spec
end PySem
namespace L2
open PySem PySem.Spec PyProof.Rows
section
variable {X:Cx} {pins:List (Addr × Obj)} {σ:List (Option V)} {H:Hp} {s:Shared}
end
end L2
namespace L3
open PySem PySem.Spec
open PyProof.Rows (risingS sortedS ltCps_eq)
open L2 hiding Rep RepL
open Mi (Dt Xn R okR zA3 optR zA0 zA9 zAC zA8 zAB Rh Sl Ro EM TM AM FM IM SM OM Tg Out zAU zAS zAZ full frz frz1 frzAt)
section
variable [Kc] {mg:Str→Option Value} {E:XK} {L n k l:Nat} {te ta tb:TE} {e ea eb ma:EM} {t:TA} {m:AM}
theorem own_str {G H:Hp} {S:Addr→Prop} {u:Str} {v:V}:∀ {n:Nat},Own G H n S (.str u) v→v = .str u
  | 0,h=>h
  | _ + 1,h=>h
theorem zRC (j i:Nat) (A:DE mg E te e n):DS mg E L (tAsg (tOp zUU (vM j) (tML popM (vM i) (zD8 te tNil))) (zEE j)) (Mi.sAddPop j i e):=by
  intro G0 H0 S0 σ ρ G H As D a p
  obtain ⟨J,x,s,w⟩:=a.full
  unfold Mi.sAddPop at p
  cases f1:ρ[j]? with
  | none=>rw [f1] at p; exact p.elim
  | some oj =>
    rw [f1] at p
    match oj,f1,p with
    | none,_,p=>exact p.elim
    | some (.str z0,l0),f1,p =>
      cases e1:ρ[i]? with
      | none=>rw [e1] at p; exact p.elim
      | some o =>
        rw [e1] at p
        match o,e1,p with
        | none,_,p=>exact p.elim
        | some (.lst ds,k + 1),e1,p =>
          obtain ⟨v',g1,own'⟩:=a.at j _ _ f1
          cases own_str own'
          obtain ⟨v,h1,q,xs,T,rfl,hq,kd⟩:=a.at i _ _ e1
          unfold tAsg tOp tML vM
          rw [g1]
          dsimp only
          rw [h1]
          refine ⟨xs,hq,?_⟩
          refine (zAO A).step (errS.from x) x.in' w p fun d y G1 H1 S _ fr o p1=>?_
          cases d with
          | int z =>
            cases (show y = .int z from o)
            try dsimp only at p1
            cases ei:Mi.ixA ds.length z with
            | none=>rw [ei] at p1; exact p1.elim
            | some c =>
              rw [ei] at p1
              try dsimp only at p1
              cases ec:ds[c]? with
              | none=>rw [ec] at p1; exact p1.elim
              | some dc =>
                rw [ec] at p1
                cases dc with
                | str u =>
                  try dsimp only at p1
                  split at p1
                  · rename_i hz
                    obtain ⟨hij,hz1,hz2⟩:=hz
                    rw [zTP] at ei
                    obtain ⟨b1,b2,b3,b4⟩:=zMJ ei
                    have hc:c < xs.length:=by rw [kd.len]; exact b2
                    have hx:xs[c]? = some xs[c]:=qA3 hc
                    refine ⟨xs,c,xs[c],fr.ext.h _ _ hq,⟨by omega,by omega⟩,by rw [kd.len]; exact b1,hx,?_⟩
                    have a1:=a.grow fr.ext.h
                    have kd1:Kids (Own G H1 k) (As i) q ds xs T:=kd.imp (fun _ _ _ _ w=>w.mono (Same.refl _) fr.ext.h) fun _ z=>z
                    have a2:=a1.store (o:=.lst (xs.eraseIdx c)) (n:=k + 1) (d:=.lst (ds.eraseIdx c)) (S:=fun b=>As i b∧¬ T c b) kd.top h1 ⟨q,_,_,rfl,zAH,zXP (kd1.pop c) fun r=>by split <;> exact kd.out _⟩ fun b z=>.inl z.1
                    rw [own_str (kd1.own c _ _ ec hx)]
                    refine ⟨big' hz2,?_⟩
                    exact p1 _ G _ _ (a2.put (i:=j) (n:=0) (d:=.str (z0 ++ u)) (v:=.str (z0 ++ u)) (S:=fun _=>False) rfl (fun _ h=>h.elim) fun _ _ _ _ h=>h.elim)
                  · exact p1.elim
                | _=>exact p1.elim
          | _=>exact p1.elim
        | some (.lst ds,0),_,p=>exact p.elim
        | some (.non,_),_,p=>exact p.elim
        | some (.bl _,_),_,p=>exact p.elim
        | some (.int _,_),_,p=>exact p.elim
        | some (.str _,_),_,p=>exact p.elim
        | some (.tup _,_),_,p=>exact p.elim
        | some (.scr _,_),_,p=>exact p.elim
        | some (.exc _ _ _,_),_,p=>exact p.elim
        | some (.ins _ _,_),_,p=>exact p.elim
        | some (.dct _,_),_,p=>exact p.elim
    | some (.lst ds,_),_,p=>cases e1:ρ[i]? <;> (rw [e1] at p; exact p.elim)
    | some (.non,_),_,p=>cases e1:ρ[i]? <;> (rw [e1] at p; exact p.elim)
    | some (.bl _,_),_,p=>cases e1:ρ[i]? <;> (rw [e1] at p; exact p.elim)
    | some (.int _,_),_,p=>cases e1:ρ[i]? <;> (rw [e1] at p; exact p.elim)
    | some (.tup _,_),_,p=>cases e1:ρ[i]? <;> (rw [e1] at p; exact p.elim)
    | some (.scr _,_),_,p=>cases e1:ρ[i]? <;> (rw [e1] at p; exact p.elim)
    | some (.exc _ _ _,_),_,p=>cases e1:ρ[i]? <;> (rw [e1] at p; exact p.elim)
    | some (.ins _ _,_),_,p=>cases e1:ρ[i]? <;> (rw [e1] at p; exact p.elim)
    | some (.dct _,_),_,p=>cases e1:ρ[i]? <;> (rw [e1] at p; exact p.elim)
end
end L3
namespace Mi
open PySem
noncomputable section
end
end Mi
namespace L2
open PySem PySem.Spec PyProof.Rows
section
variable {prog:Program} {w:World} {A:Around} {E:Value→Shared→Prop} {s:Shared}
end
section
variable {X:Cx} {pins:List (Addr × Obj)} {σ:List (Option V)} {H:Hp} {s:Shared}
end
end L2
namespace L3
open PySem PySem.Spec
open L2 hiding Rep RepL
open Mi (Dt Xn R okR zA3 optR zA0 zA9 zAC zA8 zAB Rh Sl Ro EM TM AM FM IM SM OM Tg Out zAU zAS zAZ full frz frz1 frzAt)
section
variable [Kc] {mg:Str→Option Value} {E:XK} {L n k l:Nat} {te ta tb:TE} {e ea eb ma:EM} {t:TA} {m:AM}
end
end L3
namespace L2
open PySem PySem.Spec
structure Dr (p:Prop):Prop where
  h:p
section
variable {X:Cx}
theorem zB4 {st:Stmt} {rest:List Stmt} {t u:TS} (h1:Dr (PS X st t)) (h2:Dr (PSs X rest u)):Dr (PSs X (st :: rest) (tSeq t u)):=⟨zA6 h1.h h2.h⟩
theorem zR4 {st:Stmt} {t:TS} (h1:Dr (PS X st t)):Dr (PSs X [st] t):=⟨zAE h1.h⟩
theorem zVV {pos:Pos} {i:Nat} {x:Str} {e:Expr} {te:TE} {pos':Pos} (hN:X.N.Nodup) (hi:X.N[i]? = some x) (hx:Loc X.env.scope x) (he:Dr (PE X e te)) (hs:swapsWith e (some (.Name x pos')) pos.line X.env = pure false:=by rfl) (hf:X.fn x = true∨X.env.scope.names.lookup x = some .local:=by first | exact .inl rfl | exact .inr rfl | assumption) :
    Dr (PS X (.Assign [.Name x pos'] e pos) (tAsg te (zEE i))):=⟨zPW hN hi hx he.h hs hf⟩
theorem zYV {a b:Expr} {ta tb:TE} {pos:Pos} {r:R2} (hr:IxR X r) (ha:Dr (PE X a ta)) (hb:Dr (PE X b tb)) (hp:zRV b):Dr (PE X (a.Subscript b pos) (tOp r ta tb)):=⟨zCJ hr ha.h hb.h hp⟩
theorem zH8 {es:List Expr} {t:TA} {pos:Pos} (h:Dr (PA X es t)):Dr (PE X (.List es pos) (tLst t)):=⟨zC0 h.h⟩
theorem zAP {e:Expr} {es:List Expr} {te:TE} {t:TA} (h1:Dr (PE X e te)) (h2:Dr (PA X es t)) (hs:starEach (e :: es) X.env = (false,eval e X.env) :: starEach es X.env:=by rfl):Dr (PA X (e :: es) (zD8 te t)):=⟨zA1 h1.h h2.h hs⟩
theorem zH9:Dr (PA X [] tNil):=⟨zA4⟩
theorem zAW {i:Int} {j:Nat} {pos:Pos}:Dr (PE X (.Constant (.int i) j pos) (tC (.int i))):=⟨zAJ⟩
end
end L2
namespace Mi
open PySem
noncomputable section
end
end Mi
namespace L2
open PySem PySem.Spec PyProof.Rows
structure Walk1 (prog:Program) (w:World) (A:Around) (I:Addr) (fp:List Addr) (n:Nat) (P:Nat→Value→Prop) (St:Nat→Heap→Prop):Prop where
  me:I∈fp
  frame:∀ i h h',St i h→(∀ b∈fp,∀ o,h.get? b = some o→h'.get? b = some o)→St i h'
  item:∀ i (s:Shared) (Q:Option Value→Shared→Prop) (E:Value→Shared→Prop),i < n→St i s.heap →
    (∀ v h' tk,P i v→St (i + 1) h'→(∀ b o,b≠I→s.heap.get? b = some o→h'.get? b = some o)→Q (some v) { s with heap:=h',toks:=tk })→wpAny (model prog w) A (pyNext (.ref I)) Q E s
  done:∀ (s:Shared) (Q:Option Value→Shared→Prop) (E:Value→Shared→Prop),St n s.heap →
    (∀ h' tk,(∀ b o,b≠I→s.heap.get? b = some o→h'.get? b = some o)→(∃ u,h'.get? I = some u)→Q none { s with heap:=h',toks:=tk })→wpAny (model prog w) A (pyNext (.ref I)) Q E s
  self:∀ i (s:Shared) (Q:Value→Shared→Prop) (E:Value→Shared→Prop),St i s.heap→Q (.ref I) s→wpAny (model prog w) A (pyIter (.ref I)) Q E s
structure Once (prog:Program) (w:World) (T:String) (r:Addr) (fp:List Addr) (n:Nat) (P:Nat→Value→Prop) (St:Nat→Heap→Prop):Prop where
  ty:∀ (s:Shared) i,St i s.heap→s.TypeIs (.ref r) T
  nl:(Value.type T == Value.type "list") = false
  nt:(Value.type T == Value.type "tuple") = false
  me:r∈fp
  hint:∀ (A:Around) (E:Value→Shared→Prop) (s:Shared) (Q:Bool→Shared→Prop),A.handled = none→St 0 s.heap→(∀ b tk,Q b { s with toks:=tk })→wpAny (model prog w) A (Builtin.List.listLengthHint (.ref r)) Q E s
  walk:∀ (A:Around),A.handled = none→Walk1 prog w A r fp n P St
section
variable {prog:Program} {w:World} {A:Around} {E:Value→Shared→Prop} {s:Shared} {T:String} {r:Addr} {fp:List Addr} {n:Nat} {P:Nat→Value→Prop} {St:Nat→Heap→Prop}
end
section
variable {prog:Program} {w:World} {A:Around} {E:Value→Shared→Prop} {s:Shared} {x:Str} {t:Tok}
end
end L2
namespace L2
open PySem PySem.Spec PyProof.Rows
section
variable {X:Cx} {pins:List (Addr × Obj)} {σ:List (Option V)} {H:Hp} {s:Shared}
end
end L2
namespace L3
open PySem PySem.Spec
open L2 hiding Rep RepL
open Mi (Dt Xn R okR zA3 optR zA0 zA9 zAC zA8 zAB Rh Sl Ro EM TM AM FM IM SM OM Tg Out zAU zAS zAZ full frz frz1 frzAt)
section
variable [Kc] {mg:Str→Option Value} {E:XK} {L n k l:Nat} {te ta tb:TE} {e ea eb ma:EM} {t:TA} {m:AM}
end
end L3
namespace Mi
open PySem
noncomputable section
end
end Mi
namespace L3
open PySem PySem.Spec
open L2 hiding Rep RepL
open Mi (Dt Xn R okR zA3 optR zA0 zA9 zAC zA8 zAB Rh Sl Ro EM TM AM FM IM SM OM Tg Out zAU zAS zAZ full frz frz1 frzAt)
section
variable [Kc] {mg:Str→Option Value} {E:XK} {L n k l:Nat}
end
end L3
namespace Mi
open PySem
noncomputable section
noncomputable def lifD (xs ds:List Dt):Option Dt:=match ds with
  | [d]=>if d.dep = 0∧Dt.depL xs = 0 then (xs.findIdx? fun y=>Dt.eq y d).map fun j=>.int (j:Int) else none
  | _=>none
end
end Mi
namespace PySem
open Builtin Builtin.Str PySem.Spec
end PySem
namespace L2
open PySem PySem.Spec PyProof.Rows
section
variable {X:Cx} {pins:List (Addr × Obj)} {σ:List (Option V)} {H:Hp} {s:Shared}
def find2M:V→List V→Hp→VK→Prop:=fun x vs H Q=>match x,vs with
  | .str z,[.str y,.int n]=>∃ k:Nat,n = (k:Int)∧Q (.int (match Builtin.Str.occurrences z y k z.length 1 with | i :: _=>(i:Int) | []=>-1)) H
  | _,_=>False
def lifM:V→List V→Hp→VK→Prop:=fun x vs H Q=>match x,vs with
  | .ref l,[y]=>∃ xs j,H l = some (.lst xs)∧zCZ y = true∧xs.all zCZ = true∧xs.findIdx? (fun z=>eqV z y) = some j∧Q (.int (j:Nat)) H
  | _,_=>False
theorem zNW {y:V}:∀ {xs:List V} {us:List Value} {j:Nat},Vals xs us→xs.all zCZ = true→xs.findIdx? (fun z=>eqV z y) = some j→us.findIdx? (eqU y) = some j
  | _,_,_,.nil,_,h=>by simp at h
  | x :: xs,u :: us,j,.cons r t,f,h=>by
    rw [qBz,qBb] at f
    rw [qDd] at h ⊢
    rw [zNX r f.1]
    split at h
    · rename_i hc
      rw [if_pos hc]; exact h
    · rename_i hc
      rw [if_neg hc]
      cases e:xs.findIdx? (fun z=>eqV z y) with
      | none=>rw [e] at h; simp at h
      | some i =>
        rw [e] at h
        rw [zNW t f.2 e]
        exact h
theorem zV8:MtR X "list.index" lifM:=by
  intro pins s σ H x vs v us Q I rx rv h
  cases x with
  | ref l =>
    cases vs with
    | nil=>exact qA5 h
    | cons y tl1 =>
      cases tl1 with
      | nil =>
        obtain ⟨xs,j,h1,h2,h3,h5,h4⟩:=h
        cases rx
        obtain ⟨u,rfl,ru⟩:=zDF rv
        obtain ⟨z,its,n,r,hl,e⟩:=I.lstM h1
        have hf:=zNW r h3 h5
        obtain ⟨a,b,c⟩:=qDb.mp hf
        have hlen:=r.length
        rw [sizeLine_eq] at z
        refine call_meets qEr ⟨_,e,rfl⟩ PySem.F.entry_list_index (PySem.F.args_list_index_2 _ _)
          (SeqAt.list_indexAt l its.toArray n none #[] u (eqU y) j (by simpa using a) (by omega) (by simpa using b) (fun m hm hlt=>by simpa using c m hlt)) ⟨e,fun w hw=>zEX ru h2 r h3 w (by simpa using hw),?_⟩
        exact ⟨.int _,H,I.tok _,⟨_,rfl⟩,h4⟩
      | cons _ _=>exact qA5 h
  | _=>exact qA5 h
end
end L2
namespace L3
open PySem PySem.Spec
open L2 hiding Rep RepL
open Mi (Dt Xn R okR zA3 optR zA0 zA9 zAC zA8 zAB Rh Sl Ro EM TM AM FM IM SM OM Tg Out zAU zAS zAZ full frz frz1 frzAt)
section
variable [Kc] {mg:Str→Option Value} {E:XK} {L n k l:Nat}
theorem zQZ {G:Hp} {d:Dt} {v:V} (h:Rep G d v) (hd:d.dep = 0):∀ {ds:List Dt} {vs:List V},RepL G ds vs→Dt.depL ds = 0→vs.all zCZ = true∧(vs.findIdx? fun z=>eqV z v) = ds.findIdx? fun y=>Dt.eq y d
  | [],_,r,_=>by cases r; exact ⟨rfl,rfl⟩
  | e :: q,_,r,hz=>by
    obtain ⟨x,t,rfl,a,b⟩:=r
    rw [Dt.depL] at hz
    obtain ⟨g1,g2⟩:=zQZ h hd b (by omega)
    refine ⟨by rw [qBz,zEF a (by omega),g1]; rfl,?_⟩
    rw [qDd,qDd,g2,zH1 a h (by omega) hd]
theorem zPS:RMl lifM Mi.lifD n:=by
  intro mg E G H a es ds xs vs Q s ha ra rv p
  cases ds with
  | nil=>exact qA5 p
  | cons d tl1 =>
    cases tl1 with
    | nil =>
      obtain ⟨x,rfl,hx⟩:=zD9 rv
      have p':PostE mg E G H n (optR (if d.dep = 0∧Dt.depL es = 0 then (es.findIdx? fun y=>Dt.eq y d).map fun j=>Dt.int (j:Int) else none)) Q:=p
      split at p'
      · rename_i hz
        obtain ⟨g1,g2⟩:=zQZ hx hz.1 ra hz.2
        cases e:es.findIdx? fun y=>Dt.eq y d with
        | none=>rw [e] at p'; exact p'.elim
        | some j =>
          rw [e] at p'
          refine ⟨xs,j,s _ _ ha,zEF hx hz.1,g1,by rw [g2]; exact e,?_⟩
          exact PostE.val p' (Ext.refl s) rfl rfl
      · exact p'.elim
    | cons _ _=>exact qA5 p
end
end L3
namespace PySem
open Sem (wp)
theorem zKV:typeLookup (.type "list") "keys" = pure none:=by rw [typeLookup_type,builtinLookup_eq_fast]; kernel_rfl
theorem zKP {prog:Program} {w:World} {A:Around} {E:Value→Shared→Prop} {s:Shared} {a:Addr} {o:Obj} {xs:Array Value} {k:Nat} {Q:Option Value→Shared→Prop}
    (hx:s.heap.get? a = some o) (hc:o.cls = .type "list") (hdat:o.data = .seq xs k) (hd:o.dict = none) (hA:A.handled = none)
    (h:∀ h' tk,(∀ b ob,s.heap.get? b = some ob→h'.get? b = some ob)→Q none { s with heap:=h',toks:=tk }) :
    wpAny (model prog w) A (getAttr? (.ref a) "keys") Q E s:=by
  obtain ⟨c,dct,dat,sl⟩:=o
  simp only at hc hdat hd
  subst hc hdat hd
  obtain ⟨hp,g,d,tk,os⟩:=s
  have hT:∀ tk',(⟨hp,g,d,tk',os⟩:Shared).TypeIs (.ref a) "list":=fun _=>⟨_,hx,rfl⟩
  have f1:=sub_AttributeError
  have f3:=F.slot_list_getattribute.lookup
  have f4:=F.slot_list_getattribute.bind (.ref a)
  have f5:=am_list_getattr_none
  unfold getAttr? getAttrBy? getAttrBy
  repeat (any_goals (first | assumption | exact hT _ | ((with_reducible show wpAny _ _ (call (Value.builtin "list.__getattribute__") _ _) _ _ _); refine call_meets F.slot_list_getattribute (hT _) am_entry_list_getattribute (F.args_list_getattribute_2 _ _) (meets_getattribute_miss_list a xs k sl "keys" _ zKV (by decide +kernel) (by size_fits)) ⟨hx,hA,fun h' tk' e hx'=>?_⟩) | wp_step))
  obtain ⟨t',u',he⟩:=hx'.there
  have hTe:(⟨h',g,d,tk',os⟩:Shared).TypeIs (.ref e) "AttributeError":=⟨_,he,rfl⟩
  show wpAny _ _ (getattributeRaised _ _ _ _ _ _ _) _ _ _
  unfold getattributeRaised
  repeat (any_goals (first | assumption | wp_step))
  exact h h' tk' hx'.keeps
theorem zDP:entryFor table "dict.update.loop" = some Builtin.«dict.update.loop»:=entryFor_of_tree (by kernel_rfl)
theorem zBO:plainId "dict.update.loop" = true:=by decide +kernel
section
variable {prog:Program} {w:World} {A:Around} {K:Type} [DecidableEq K] {knd:KeyKind prog w K}
def zRW (knd:KeyKind prog w K) (h:Heap) (v:Value) (p:K × Value):Prop:=∃ t o n key,v = .ref t∧h.get? t = some o∧o.cls = .type "tuple"∧o.data = .seq #[key,p.2] n∧knd.is p.1 key = true
theorem zS1 {R:Result→Shared→Prop} (hh:A.handled = none) {d l it:Addr} (hdl:d≠l) (hdi:d≠it) (hli:l≠it) {items:Array Value} (ps:List (K × Value)) (hps:ps.length = items.size) (result:Value) :
    ∀ (n i:Nat) (s:Shared) (kvs:List (K × Value)),items.size - i = n→i≤items.size→kvs.length + n≤100000→s.heap.DictOf knd d kvs→s.heap.IsListIter it l i→s.heap.IsList l items →
    (∀ (j:Nat) v p,items[j]? = some v→ps[j]? = some p→zRW knd s.heap v p) →
    (∀ h' tk,h'.DictOf knd d ((ps.drop i).foldl (fun m p=>stored m p.1 p.2) kvs)→(∀ b o,b≠d→b≠it→s.heap.get? b = some o→h'.get? b = some o)→(∃ o,h'.get? d = some o)→R (.ok (.ret result)) { s with heap:=h',toks:=tk }) →
    codeAny (model prog w) A (.builtin "dict.update.loop" ⟨[.ref d,.ref it,rawInt i,result],[]⟩) R s:=by
  intro n
  induction n with
  | zero =>
    intro i s kvs hn hi hz hd hit hl hp hR
    have hin:i = items.size:=by omega
    refine codeAny_builtin zDP ?_
    rw [Around.under_plainId zBO _]
    show wpAny _ A.in1 (pyNext (.ref it) >>= _) _ _ s
    refine wpAny_bind (wpAny_pyNext_list_end hh hit hl (by rw [hin]; simp) fun h' hx=>?_)
    show wpAny _ A.in1 (Builtin.Dict.addKeywords d [] >>= _) _ _ _
    refine wpAny_bind (wpAny_of_eq (a:=()) rfl ?_)
    have hd':h'.DictOf knd d kvs:=by
      obtain ⟨o,es,ep,ho,r⟩:=hd
      exact ⟨o,es,ep,hx _ _ hdi ho,r⟩
    refine wpAny_pure (hR h' s.toks ?_ (fun b o _ hb e=>hx b o hb e) ?_)
    · rw [hin,← hps,qE2]; exact hd'
    · obtain ⟨o,es,ep,ho,r⟩:=hd'
      exact ⟨o,ho⟩
  | succ n ih =>
    intro i s kvs hn hi hz hd hit hl hp hR
    have hlt:i < items.size:=by omega
    have hx:items[i]? = some items[i]:=qEh hlt
    have hpi:ps[i]? = some (ps[i]'(by omega)):=qA3 (by omega)
    obtain ⟨t,o,m,key,e1,e2,e3,e4,e5⟩:=hp i _ _ hx hpi
    refine codeAny_builtin zDP ?_
    rw [Around.under_plainId zBO _]
    show wpAny _ A.in1 (pyNext (.ref it) >>= _) _ _ s
    refine wpAny_bind (wpAny_pyNext_list_item hit hl hx fun h1 hit1 hs1=>?_)
    rw [e1]
    obtain ⟨oi,hoi,hci,hdi'⟩:=id hit
    have hti:t≠it:=fun z=>by
      rw [z,hoi] at e2; cases e2; rw [hci] at e3; exact absurd e3 (by decide)
    have htd:t≠d:=fun z=>by
      obtain ⟨od,es,ep,ho,hex,hdd,_⟩:=hd
      rw [z,ho] at e2; cases e2; rw [hdd] at e4; cases e4
    have e2':h1.get? t = some o:=(hs1.2 t hti).trans e2
    have hd1:h1.DictOf knd d kvs:=by
      obtain ⟨o,es,ep,ho,r⟩:=hd
      exact ⟨o,es,ep,(hs1.2 d hdi).trans ho,r⟩
    show wpAny _ A.in1 (holding [.ref t] _ >>= _) _ _ _
    refine wpAny_bind (wpAny_holding ?_)
    refine wpAny_bind (wpAny_tryCatch ?_)
    unfold Builtin.Dict.pairItems
    refine wpAny_bind (wpAny_typeOf (T:="tuple") ⟨o,e2',e3⟩ ?_)
    rw [if_pos (by decide)]
    refine wpAny_bind (wpAny_seqItems e2' e4 ?_)
    refine wpAny_pure ?_
    show wpAny _ A.in1 (holding [key,(ps[i]'(by omega)).2] (dictSet d key (ps[i]'(by omega)).2)) _ _ _
    refine wpAny_holding (wpAny_dictSet_pairs e5 hd1 (fun h2 hd2 hs2=>?_) (by rw [sizeLine_eq]; omega))
    refine wpAny_pure ⟨plainId_quiet zBO _,?_⟩
    have hit2:h2.IsListIter it l (i + 1):=hit1.at fun o e=>(hs2.2 it hdi.symm).trans e
    have hl2:h2.IsList l items:=hl.at fun o e=>(hs2.2 l hdl.symm).trans ((hs1.2 l hli).trans e)
    have kp:∀ b o,b≠d→b≠it→s.heap.get? b = some o→h2.get? b = some o:=fun b o hb hb2 e=>(hs2.2 b hb).trans ((hs1.2 b hb2).trans e)
    refine ih (i + 1) _ (stored kvs (ps[i]'(by omega)).1 (ps[i]'(by omega)).2) (by omega) hlt ?_ hd2 hit2 hl2 (fun j v p h1 h2=>?_) fun h' tk hd' hk he=>?_
    · have:=stored_length_le kvs (ps[i]'(by omega)).1 (ps[i]'(by omega)).2
      omega
    · obtain ⟨t',o',m',key',f1,f2,f3,f4,f5⟩:=hp j v p h1 h2
      refine ⟨t',o',m',key',f1,kp _ _ (fun z=>?_) (fun z=>?_) f2,f3,f4,f5⟩
      · obtain ⟨od,es,ep,ho,hex,hdd,_⟩:=hd
        rw [z,ho] at f2; cases f2; rw [hdd] at f4; cases f4
      · rw [z,hoi] at f2; cases f2; rw [hci] at f3; exact absurd f3 (by decide)
    · refine hR h' tk ?_ (fun b o hb hb2 e=>hk b o hb hb2 (kp b o hb hb2 e)) he
      rw [qAx (show i < ps.length by omega)]
      exact hd'
theorem zS2 {E:Value→Shared→Prop} {s:Shared} {Q:Value→Shared→Prop} (hh:A.handled = none) {d l:Addr} (hdl:d≠l) {kvs:List (K × Value)} {items:Array Value} (ps:List (K × Value)) (hps:ps.length = items.size) (hz:kvs.length + items.size≤100000)
    (hd:s.heap.DictOf knd d kvs) {o:Obj} {n:Nat} (ho:s.heap.get? l = some o) (hc:o.cls = .type "list") (hod:o.dict = none) (hdat:o.data = .seq items n)
    (hp:∀ (j:Nat) v p,items[j]? = some v→ps[j]? = some p→zRW knd s.heap v p)
    (hQ:∀ h' tk,h'.DictOf knd d (ps.foldl (fun m p=>stored m p.1 p.2) kvs)→(∀ b o,b≠d→s.heap.get? b = some o→h'.get? b = some o)→(∃ o,h'.get? d = some o)→Q .none { s with heap:=h',toks:=tk }) :
    wpAny (model prog w) A (call (.builtin "dict.update") [.ref d,.ref l]) Q E s:=by
  refine wpAny_call (codeAny_call_builtin F.slot_dict_update.plain F.entry_dict_update (F.slot_dict_update.check _ _ _ _ _ _ _ _ hd.typeIs (F.args_dict_update_2 _ _) ?_))
  unfold Builtin.«dict.update»
  refine wpAny_bind ?_
  unfold Builtin.Dict.selfAndRest
  refine wpAny_bind (wpAny_notOrdered_dict hd.typeIs ?_)
  show wpAny _ _ (pure (d,[Value.ref l])) _ _ s
  refine wpAny_pure ?_
  show wpAny _ A.in1 (Builtin.Dict.updateFrom "dict.update" d (.ref l) [] .none) _ _ s
  unfold Builtin.Dict.updateFrom
  refine wpAny_bind (wpAny_typeOf (T:="list") ⟨o,ho,hc⟩ ?_)
  rw [if_pos (by decide)]
  refine wpAny_bind (zKP ho hc hdat hod hh fun h1 tk1 hk1=>?_)
  show wpAny _ A.in1 (rule _ >>= fun _=>pyIter (.ref l) >>= _) _ _ _
  refine wpAny_bind (wpAny_rule ?_)
  have hl1:h1.IsList l items:=⟨o,hk1 _ _ ho,hc,n,hdat⟩
  refine wpAny_bind (wpAny_pyIter_list hl1 ?_)
  have hd1:h1.DictOf knd d kvs:=by
    obtain ⟨o,es,ep,ho,r⟩:=hd
    exact ⟨o,es,ep,hk1 _ _ ho,r⟩
  have hdl1:d < h1.objs.size:=by
    obtain ⟨o,es,ep,ho,r⟩:=hd1
    exact Heap.lt_size ho
  have hll1:l < h1.objs.size:=Heap.lt_size (hk1 _ _ ho)
  refine wpAny_pure ⟨plainId_quiet zBO _,?_⟩
  refine zS1 (knd:=knd) (l:=l) (it:=h1.objs.size) (items:=items) hh hdl (qAk hdl1) (qAk hll1) ps hps .none items.size 0 _ kvs rfl (qAs _) hz ?_ ⟨_,Heap.get?_push_size _ rfl,rfl,rfl⟩ (hl1.at fun o e=>Heap.get?_push_of_some _ e) (fun j v p a1 a2=>?_) fun h' tk hd' hk he=>?_
  · obtain ⟨o,es,ep,ho,r⟩:=hd1
    exact ⟨o,es,ep,Heap.get?_push_of_some _ ho,r⟩
  · obtain ⟨t',o',m',key',f1,f2,f3⟩:=hp j v p a1 a2
    exact ⟨t',o',m',key',f1,Heap.get?_push_of_some _ (hk1 _ _ f2),f3⟩
  · exact hQ h' tk hd' (fun b o hb e=>hk b o hb (qAk (Heap.lt_size (hk1 _ _ e))) (Heap.get?_push_of_some _ (hk1 _ _ e))) he
end
end PySem
namespace Mi
open PySem
noncomputable section
noncomputable def kyD:Dt→Option (Sum Int Str)
  | .int i=>some (.inl i)
  | .str x=>some (.inr x)
  | _=>none
noncomputable def swD:Dt→Option Sw
  | .non=>some .non
  | .bl b=>some (.bl b)
  | .int i=>some (.int i)
  | .str x=>some (.str x)
  | _=>none
noncomputable def swT:Sw→Dt
  | .non=>.non
  | .bl b=>.bl b
  | .int i=>.int i
  | .str x=>.str x
noncomputable def getW (kvs:List (Sum Int Str × Sw)) (k:Sum Int Str):Option Sw:=(kvs.find? fun p=>decide (p.1 = k)).map (·.2)
noncomputable def putW (kvs:List (Sum Int Str × Sw)) (k:Sum Int Str) (v:Sw):List (Sum Int Str × Sw) :=
  if (kvs.any fun p=>decide (p.1 = k)) = true then kvs.map (fun p=>if p.1 = k then (p.1,v) else p) else kvs ++ [(k,v)]
def eDct0:EM:=fun _=>okR (.dct [])
def dinD (ng:Bool) (x y:Dt):Option Dt:=match y with
  | .dct kvs=>match kyD x with
    | some k=>some (.bl (if ng = true then !(getW kvs k).isSome else (getW kvs k).isSome))
    | none=>none
  | _=>none
def sDput (i:Nat) (e1 e2:EM):SM:=fun ρ=>zA3 (e2 (full ρ)) fun v=>match ρ[i]? with
  | some (some (.dct kvs,k + 1))=>zA3 (e1 (full ρ)) fun y=>match kyD y,swD v with
    | some q,some u=>@ite _ (kvs.length≤100000) (qA4 _) (okR (.nx (ρ.set i (some (.dct (putW kvs q u),k + 1))))) none
    | _,_=>none
  | _=>none
def pairsD:List Dt→Option (List (Sum Int Str × Sw))
  | []=>some []
  | .tup [a,b] :: r=>match kyD a,swD b,pairsD r with
    | some k,some v,some q=>some ((k,v) :: q)
    | _,_,_=>none
  | _ :: _=>none
def sDupd (i:Nat) (e:EM):SM:=fun ρ=>match ρ[i]? with
  | some (some (.dct kvs,k + 1))=>zA3 (e (full ρ)) fun d=>match d with
    | .lst ds=>match pairsD ds with
      | some ps=>@ite _ (kvs.length + ps.length≤50000) (qA4 _) (okR (.nx (ρ.set i (some (.dct (ps.foldl (fun m p=>putW m p.1 p.2) kvs),k + 1))))) none
      | none=>none
    | _=>none
  | _=>none
end
end Mi
namespace L2
open PySem PySem.Spec PyProof.Rows
section
variable {X:Cx}
noncomputable def tMD (r:V→List V→Hp→VK→Prop) (to:TE) (t:TA):TE:=fun σ H Q=>to σ H fun x H1=>match x with
  | .ref p=>(∃ kvs,H1 p = some (.dK kvs))∧t σ H1 fun vs H2=>r x vs H2 Q
  | _=>False
variable {o e:Expr} {es:List Expr} {to:TE} {t:TA} {name:Str} {apos cpos:Pos} {T id:String} {r:V→List V→Hp→VK→Prop}
theorem zZO (pa:PlainAttrs "dict") (slot:Slot "dict" name id) (hty:typeOf (.builtin id) = pure (.type "method_descriptor")) (hm:MtR X id r) (ho:PE X o to) (ha:PA X (e :: es) t)
    (hbase:attributeBase o name X.env (eval o X.env) = eval o X.env:=by rfl)
    (hfew:((backTo cpos (starEach (e :: es) X.env)).all (fun x=>!x.1) && (backToKw cpos (keywordEach [] X.env)).all (fun x=>x.1.isSome)
      && decide ((e :: es).length + ([]:List Keyword).length + (if ([]:List Keyword).isEmpty then 0 else 1) < 30)) = true:=by rfl)
    (hline:(apos.endLine == cpos.line) = true:=by rfl) (hs:starEach (e :: es) X.env = (false,eval e X.env) :: starEach es X.env:=by rfl) (hplain:(backTo cpos (starEach es X.env)).any (·.1) = false:=by rfl) :
    PE X (.Call (.Attribute o name apos) (e :: es) [] cpos) (tMD r to t):=by
  intro pins s σ H Q I h
  refine wpAny_Call_method_late hbase hfew hline rfl (thn (ho pins s σ H _ I h) fun v s1 z0=>?_)
  obtain ⟨x,H1,I1,r1,q1⟩:=z0
  cases x with
  | ref p=>?_
  | _=>exact qA5 q1
  obtain ⟨⟨kvs,hx⟩,q1⟩:=q1
  cases r1
  obtain ⟨h1,h2,_⟩:=zYF I1 (.inl ⟨kvs,.inl hx⟩)
  refine ⟨"dict",id,pa,slot,hty,h1,h2,?_⟩
  have hA:=ha cpos pins s1 σ H1 _ I1 q1
  rw [hs] at hA ⊢
  refine Calls.callWith_builtin (by show (false || (backTo cpos (starEach es X.env)).any (·.1)) = false; rw [hplain] <;> rfl) (Calls.evalArgs_plain ?_)
  exact thn hA fun us s2 ⟨vs,H2,I2,r2,q2⟩=>hm pins s2 σ H2 (.ref p) vs _ us Q I2 rfl r2 q2
def zWA (H:Hp) (x:V) (p:Key × V):Prop:=∃ t,x = .ref t∧H t = some (.tup [kV p.1,p.2])
def updM:V→List V→Hp→VK→Prop:=fun x vs H Q=>match x,vs with
  | .ref d,[.ref l]=>∃ (kvs:List (Key × V)) (xs:List V) (ps:List (Key × V)),H d = some (.dK kvs)∧H l = some (.lst xs)∧xs.length = ps.length∧(∀ (j:Nat) x p,xs[j]? = some x→ps[j]? = some p→zWA H x p)∧kvs.length + ps.length≤50000 ∧
      Q .non (upd H d (.dK (ps.foldl (fun m p=>putK m p.1 p.2) kvs)))
  | _,_=>False
theorem zQL:∀ {ps:List (Key × V)} {qs:List (Key × Value)} {kvs:List (Key × V)} {vs:List (Key × Value)},KV kvs vs→Paired (fun (p:Key × V) (q:Key × Value)=>p.1 = q.1∧RelV p.2 q.2) ps qs→KV (ps.foldl (fun m p=>putK m p.1 p.2) kvs) (qs.foldl (fun m p=>stored m p.1 p.2) vs)
  | _,_,_,_,r,.nil=>r
  | p :: ps,q :: qs,kvs,vs,r,.cons ⟨e,rp⟩ t=>by
    simp only [qD9]
    rw [← e]
    exact zQL (r.put p.1 rp) t
theorem zUW (kvs:List (Key × V)):∀ ps:List (Key × V),(ps.foldl (fun m p=>putK m p.1 p.2) kvs).length≤kvs.length + ps.length:=by
  intro ps
  induction ps generalizing kvs with
  | nil=>exact qAa _
  | cons p r ih =>
    have h1:=ih (putK kvs p.1 p.2)
    have h2:=zED kvs p.1 p.2
    simp only [qD9,qAu]
    omega
theorem zNH {pins:List (Addr × Obj)} {σ:List (Option V)} {H:Hp} {s:Shared} (I:Inv X pins σ H s):∀ {xs:List V} {us:List Value} {ps:List (Key × V)},Vals xs us→xs.length = ps.length→(∀ (j:Nat) x p,xs[j]? = some x→ps[j]? = some p→zWA H x p) →
    ∃ qs:List (Key × Value),Paired (fun (p:Key × V) (q:Key × Value)=>p.1 = q.1∧RelV p.2 q.2) ps qs∧qs.length = us.length∧∀ (j:Nat) u q,us[j]? = some u→qs[j]? = some q→zRW (zBF X.prog X.w) s.heap u q
  | _,_,[],.nil,_,_=>⟨[],.nil,rfl,fun j u q h=>by simp at h⟩
  | x :: xs,u :: us,p :: ps,.cons r t,hl,h=>by
    obtain ⟨qs,h1,h2,h3⟩:=zNH I (ps:=ps) t (by simpa using hl) fun j x p a b=>h (j + 1) x p (by simpa using a) (by simpa using b)
    obtain ⟨a,rfl,ha⟩:=h 0 x p rfl rfl
    cases r
    obtain ⟨its,rv,pl,_⟩:=I.tuple (SqT.of ha)
    obtain ⟨key,val,rfl,rk,rval⟩:=zWG rv
    obtain ⟨o,ho,hc,n,hd⟩:=pl
    refine ⟨(p.1,val) :: qs,.cons ⟨rfl,rval⟩ h1,by simp [h2],fun j u q a1 a2=>?_⟩
    cases j with
    | zero =>
      simp at a1 a2
      subst a1 a2
      exact ⟨a,o,n,key,rfl,ho,hc,hd,zQR rk⟩
    | succ j=>exact h3 j u q (by simpa using a1) (by simpa using a2)
  | [],[],_ :: _,.nil,hl,_=>by simp at hl
  | _ :: _,_ :: _,[],.cons _ _,hl,_=>by simp at hl
theorem zT8 {pins:List (Addr × Obj)} {σ:List (Option V)} {H:Hp} {s:Shared} {a:Addr} {h':Heap} {t':Nat} {ob:HO} (I:Inv X pins σ H s) (mu:Mut (H a)) (hs:∀ b o,b≠a→s.heap.get? b = some o→h'.get? b = some o) (he:∃ q,h'.get? a = some q) (new:ObjOk X.prog X.w (upd H a ob) h' a ob) :
    Inv X pins σ (upd H a ob) { s with heap:=h',toks:=t' }:=I.write (x:=a) (e:=a) mu (.inl rfl) hs he new
theorem zV6 (hc:X.calm = true):MtR X "dict.update" updM:=by
  intro pins s σ H x vs v us Q I rx rv h
  cases x with
  | ref d =>
    cases vs with
    | nil=>exact qA5 h
    | cons hd1 tl1 =>
      cases hd1 with
      | ref l =>
        cases tl1 with
        | nil =>
          obtain ⟨kvs,xs,ps,hd,hl,hlen,hp,hz,q⟩:=h
          cases rx
          obtain ⟨u,rfl,ru⟩:=zDF rv
          cases ru
          obtain ⟨z,hds,ws,rel,dd⟩:=zYS I.hok hd
          obtain ⟨z2,its,n,r,_,e⟩:=I.lstM hl
          have hil:=r.length
          have hdl:d≠l:=fun z=>by rw [z,hl] at hd; cases hd
          obtain ⟨qs,h1,h2,h3⟩:=zNH I r hlen hp
          have hpq:=Paired.length h1
          have hrl:=rel.length
          refine zS2 (knd:=zBF X.prog X.w) (I.ok.hd hc) hdl qs (by simp [h2]) (by simp; omega) dd e rfl rfl rfl (fun j v p a1 a2=>h3 j v p (by simpa using a1) a2) fun h' tk hd' hk he=>?_
          have hfl:=zUW kvs ps
          exact ⟨.non,_,zT8 I (by rw [hd]; exact qCv) hk he (zU5 (by rw [sizeLine_eq]; omega) hds (zQL rel h1) hd'),rfl,q⟩
        | cons _ _=>exact qA5 h
      | _=>exact qA5 h
  | _=>exact qA5 h
end
end L2
namespace L3
open PySem PySem.Spec
open L2 hiding Rep RepL
open Mi (Dt Xn R okR zA3 optR zA0 zA9 zAC zA8 zAB Rh Sl Ro EM TM AM FM IM SM OM Tg Out zAU zAS zAZ full frz frz1 frzAt)
abbrev wk (kvs:List (Sum Int Str × Mi.Sw)):List (Key × V):=kvs.map fun p=>(p.1,swV p.2)
theorem zUF (kvs:List (Sum Int Str × Mi.Sw)) (k:Key):valV (wk kvs) k = (Mi.getW kvs k).map swV:=by
  unfold valV Mi.getW wk
  induction kvs with
  | nil=>rfl
  | cons p r ih =>
    simp only [qAi,qCd]
    by_cases h:p.1 = k
    · simp [h]
    · simp only [h,decide_false]
      exact ih
theorem zXG (kvs:List (Sum Int Str × Mi.Sw)) (k:Key) (u:Mi.Sw):putK (wk kvs) k (swV u) = wk (Mi.putW kvs k u):=by
  unfold putK Mi.putW wk
  have e:(kvs.map fun p=>((p.1,swV p.2):Key × V)).any (fun kv=>decide (kv.1 = k)) = kvs.any fun p=>decide (p.1 = k):=by
    rw [List.any_map]; rfl
  rw [e]
  split
  · rw [qB3,qB3]
    refine qC7 fun p _=>?_
    by_cases h:p.1 = k
    · simp [h]
    · simp [h]
  · simp
theorem zXF (ps:List (Sum Int Str × Mi.Sw)):∀ kvs:List (Sum Int Str × Mi.Sw),(wk ps).foldl (fun m p=>putK m p.1 p.2) (wk kvs) = wk (ps.foldl (fun m p=>Mi.putW m p.1 p.2) kvs):=by
  induction ps with
  | nil=>intro kvs; rfl
  | cons p r ih =>
    intro kvs
    show (wk r).foldl (fun m p=>putK m p.1 p.2) (putK (wk kvs) p.1 (swV p.2)) = _
    rw [zXG,ih]
    rfl
section
variable [Kc] {mg:Str→Option Value} {E:XK} {L n k l:Nat} {te ta tb tx td:TE} {e ea eb ex ed ma:EM} {t:TA} {m:AM}
theorem ky_rep {G:Hp} {d:Dt} {v:V} {q:Sum Int Str} (h:Rep G d v) (e:Mi.kyD d = some q):v = kV q:=by
  cases d with
  | int i=>cases e; exact h
  | str x=>cases e; exact h
  | _=>cases e
theorem sw_rep {G:Hp} {d:Dt} {v:V} {u:Mi.Sw} (h:Rep G d v) (e:Mi.swD d = some u):v = swV u:=by
  cases d with
  | non=>cases e; exact h
  | bl _=>cases e; exact h
  | int i=>cases e; exact h
  | str x=>cases e; exact h
  | _=>cases e
theorem zUO {G:Hp} (u:Mi.Sw):Rep G (Mi.swT u) (swV u):=by cases u <;> rfl
theorem zVY (u:Mi.Sw):(Mi.swT u).dep = 0:=by cases u <;> rfl
theorem zMQ:DE mg E zTG Mi.eDct0 1:=by
  intro G H σ ρ Q s w p a ha
  have fr:Fr G H G H (fun _=>False):=⟨Ext.refl s,fun _ z=>z.elim⟩
  exact p (.ref a) G _ _ (fr.add ha (.dK [])) ⟨a,rfl,zAH,.inl rfl⟩
theorem dt_B (A:DE mg E te e k):DT mg E (L2.tB te) (Mi.tB e):=by
  intro G H σ ρ Q s w p
  refine (zAO A).step errT s w p fun d v G1 H1 S _ fr o p1=>?_
  cases d with
  | bl b =>
    cases (show v = .bl b from o)
    exact ⟨b,rfl,p1 H1 fr.ext.h⟩
  | _=>exact p1.elim
theorem de_din (A:DE mg E ta ea k) (B:DE mg E tb eb l):DE mg E (tDIn ta tb) (Mi.eB (Mi.dinD false) ea eb) n:=by
  intro G H σ ρ Q s w p
  refine (zAO A).step errE s w p fun d v G1 H1 S _ fr o p1=>?_
  refine (zAO B).step (errE.from fr.ext) fr.ext.in' (w.mono fr.ext.g) p1 fun e u G2 H2 S2 _ fr2 o2 p2=>?_
  cases e with
  | dct kvs =>
    obtain ⟨a,rfl,ha⟩:=o2
    have p3:PostE mg E G H n (optR (match Mi.kyD d with | some k=>some (.bl (if false = true then !(Mi.getW kvs k).isSome else (Mi.getW kvs k).isSome)) | none=>none)) Q:=p2
    cases ek:Mi.kyD d with
    | none=>rw [ek] at p3; exact p3.elim
    | some q =>
      rw [ek] at p3
      cases ky_rep o ek
      refine ⟨a,_,rfl,DGet.k (fr2.ext.in' _ _ ha),?_⟩
      rw [zUF,qDq]
      exact PostE.val (PostE.from p3 (fr.ext.trans fr2.ext)) (Ext.refl fr2.ext.in') rfl rfl
  | _=>exact p2.elim
theorem zW0 (A:DE mg E ta ea k) (B:DE mg E tb eb l):DE mg E (zPI ta tb) (Mi.eB (Mi.dinD true) ea eb) n:=by
  intro G H σ ρ Q s w p
  refine (zAO A).step errE s w p fun d v G1 H1 S _ fr o p1=>?_
  refine (zAO B).step (errE.from fr.ext) fr.ext.in' (w.mono fr.ext.g) p1 fun e u G2 H2 S2 _ fr2 o2 p2=>?_
  cases e with
  | dct kvs =>
    obtain ⟨a,rfl,ha⟩:=o2
    have p3:PostE mg E G H n (optR (match Mi.kyD d with | some k=>some (.bl (if true = true then !(Mi.getW kvs k).isSome else (Mi.getW kvs k).isSome)) | none=>none)) Q:=p2
    cases ek:Mi.kyD d with
    | none=>rw [ek] at p3; exact p3.elim
    | some q =>
      rw [ek] at p3
      cases ky_rep o ek
      refine ⟨a,_,rfl,DGet.k (fr2.ext.in' _ _ ha),?_⟩
      rw [zUF,qDq]
      exact PostE.val (PostE.from p3 (fr.ext.trans fr2.ext)) (Ext.refl fr2.ext.in') rfl rfl
  | _=>exact p2.elim
theorem zMO (i:Nat) {n1 n2:Nat} {t1 t2:TE} {e1 e2:EM} (A:DE mg E t1 e1 n1) (B:DE mg E t2 e2 n2):DS mg E L (zWW (vM i) t1 t2) (Mi.sDput i e1 e2):=by
  intro G0 H0 S0 σ ρ G H As D a p
  obtain ⟨J,x,s,w⟩:=a.full
  refine (zAO B).step (errS.from x) x.in' w p fun d y G1 H1 S _ fr o p1=>?_
  cases er:ρ[i]? with
  | none=>rw [er] at p1; exact p1.elim
  | some sl =>
    rw [er] at p1
    match sl,er,p1 with
    | none,_,p=>exact p.elim
    | some (.dct kvs,k + 1),er,p1 =>
      obtain ⟨v,h1,q,rfl,hq,hs⟩:=a.at i _ _ er
      unfold vM
      rw [h1]
      have x1:Ext J H J H1:=Ext.same x.in' fr.ext.h
      refine (zAO A).step (errS.from (x.trans x1)) x1.in' w p1 fun z u G2 H2 S2 _ fr2 o2 p2=>?_
      cases ek:Mi.kyD z with
      | none=>rw [ek] at p2; exact p2.elim
      | some c =>
        cases ev:Mi.swD d with
        | none=>rw [ek,ev] at p2; exact p2.elim
        | some uu =>
          rw [ek,ev] at p2
          dsimp only at p2
          split at p2
          · rename_i hz
            cases ky_rep o2 ek
            cases sw_rep o ev
            have sH:=fr.ext.h.trans fr2.ext.h
            have a1:=a.grow sH
            refine ⟨q,_,rfl,DPut.k (sH _ _ hq) (by rw [qAj,sizeLine_eq]; omega),?_⟩
            rw [zXG]
            exact p2 σ G _ _ (a1.store (o:=.dK (wk (Mi.putW kvs c uu))) (n:=k + 1) (d:=.dct (Mi.putW kvs c uu)) (S:=As i) hs h1 ⟨q,rfl,zAH,hs⟩ fun b z=>.inl z)
          · exact p2.elim
    | some (.dct _,0),_,p=>exact p.elim
    | some (.lst _,_),_,p=>exact p.elim
    | some (.non,_),_,p=>exact p.elim
    | some (.bl _,_),_,p=>exact p.elim
    | some (.int _,_),_,p=>exact p.elim
    | some (.str _,_),_,p=>exact p.elim
    | some (.tup _,_),_,p=>exact p.elim
    | some (.scr _,_),_,p=>exact p.elim
    | some (.exc _ _ _,_),_,p=>exact p.elim
    | some (.ins _ _,_),_,p=>exact p.elim
theorem zKF {G:Hp}:∀ {ds:List Dt} {xs:List V} {ps:List (Sum Int Str × Mi.Sw)},Mi.pairsD ds = some ps→RepL G ds xs→xs.length = (wk ps).length∧∀ (j:Nat) x p,xs[j]? = some x→(wk ps)[j]? = some p→zWA G x p
  | [],xs,ps,h,r=>by
    cases h; cases r
    exact ⟨rfl,fun j x p h=>by simp at h⟩
  | .tup [a,b] :: ds,xs,ps,h,r=>by
    unfold Mi.pairsD at h
    cases ea:Mi.kyD a with
    | none=>rw [ea] at h; cases h
    | some q =>
      cases eb:Mi.swD b with
      | none=>rw [ea,eb] at h; cases h
      | some u =>
        cases er:Mi.pairsD ds with
        | none=>rw [ea,eb,er] at h; cases h
        | some ps' =>
          rw [ea,eb,er] at h
          cases h
          obtain ⟨x,xs',rfl,hx,hr⟩:=r
          obtain ⟨i1,i2⟩:=zKF er hr
          refine ⟨by simp at i1 ⊢; exact i1,fun j y p h1 h2=>?_⟩
          cases j with
          | zero =>
            simp at h1 h2
            subst h1 h2
            obtain ⟨t,ys,rfl,ht,hy⟩:=hx
            obtain ⟨y1,y2,rfl,g1,g2⟩:=zZL hy
            cases ky_rep g1 ea
            cases sw_rep g2 eb
            exact ⟨t,rfl,ht⟩
          | succ j=>exact i2 j y p (by simpa using h1) (by simpa using h2)
  | .tup [] :: ds,_,_,h,_=>by cases h
  | .tup [_] :: ds,_,_,h,_=>by cases h
  | .tup (_ :: _ :: _ :: _) :: ds,_,_,h,_=>by cases h
  | .lst _ :: ds,_,_,h,_=>by cases h
  | .non :: ds,_,_,h,_=>by cases h
  | .bl _ :: ds,_,_,h,_=>by cases h
  | .int _ :: ds,_,_,h,_=>by cases h
  | .str _ :: ds,_,_,h,_=>by cases h
  | .scr _ :: ds,_,_,h,_=>by cases h
  | .exc _ _ _ :: ds,_,_,h,_=>by cases h
  | .ins _ _ :: ds,_,_,h,_=>by cases h
  | .dct _ :: ds,_,_,h,_=>by cases h
theorem zVX (i:Nat) (A:DE mg E te e n):DS mg E L (zEK (tMD updM (vM i) (zD8 te tNil))) (Mi.sDupd i e):=by
  intro G0 H0 S0 σ ρ G H As D a p
  obtain ⟨J,x,s,w⟩:=a.full
  unfold Mi.sDupd at p
  split at p
  · rename_i kvs k e1
    obtain ⟨v,h1,q,rfl,hq,hs⟩:=a.at i _ _ e1
    unfold zEK tMD vM
    rw [h1]
    refine ⟨⟨_,hq⟩,?_⟩
    refine (zAO A).step (errS.from x) x.in' w p fun d y G1 H1 S ee fr o p1=>?_
    split at p1
    · rename_i ds
      split at p1
      · rename_i ps ep
        split at p1
        · rename_i hz
          obtain ⟨b0,xs,rfl,hb0,rr⟩:=o
          obtain ⟨i1,i2⟩:=zKF ep rr
          have a1:=a.grow fr.ext.h
          refine ⟨wk kvs,xs,wk ps,fr.ext.h _ _ hq,fr.ext.in' _ _ hb0,i1,fun j x p g1 g2=>?_,by simpa using hz,?_⟩
          · obtain ⟨t,e1,e2⟩:=i2 j x p g1 g2
            exact ⟨t,e1,fr.ext.in' _ _ e2⟩
          · rw [zXF]
            exact p1 σ G _ _ (a1.store (o:=.dK (wk (ps.foldl (fun m p=>Mi.putW m p.1 p.2) kvs))) (n:=k + 1) (d:=.dct (ps.foldl (fun m p=>Mi.putW m p.1 p.2) kvs)) (S:=As i) hs h1 ⟨q,rfl,zAH,hs⟩ fun b z=>.inl z)
        · exact p1.elim
      · exact p1.elim
    · exact p1.elim
  · exact p.elim
end
end L3
namespace Mi
open PySem
noncomputable section
end
end Mi
namespace L2
open PySem PySem.Spec PyProof.Rows
section
variable {X:Cx} {pins:List (Addr × Obj)} {σ:List (Option V)} {H:Hp} {s:Shared}
end
section
variable {X:Cx}
end
end L2
namespace L3
open PySem PySem.Spec
open L2 hiding Rep RepL
open Mi (Dt Xn R okR zA3 optR zA0 zA9 zAC zA8 zAB Rh Sl Ro EM TM AM FM IM SM OM Tg Out zAU zAS zAZ full frz frz1 frzAt)
section
variable [Kc] {mg:Str→Option Value} {E:XK} {L n k l:Nat} {te ta tb:TE} {e ea eb ma:EM} {t:TA} {m:AM}
end
end L3
namespace Mi
open PySem
noncomputable section
end
end Mi
namespace L2
open PySem PySem.Spec PyProof.Rows
section
variable {X:Cx} {e m1:Expr} {te ts:TE} {pos p2:Pos}
theorem zR0 {b:List Stmt} {t:TS} {R:TS→Prop} (h:Dr (PSs X b t)) (r:R t):∃ t,PSs X b t∧R t:=⟨t,h.h,r⟩
theorem zJF {xs es:List Expr} {p:Pos} {te:TE} {t:TA} (h1:Dr (PE X (.List xs p) te)) (h2:Dr (PA X es t)):Dr (PA X (.List xs p :: es) (zD8 te t)):=⟨zA1 h1.h h2.h rfl⟩
theorem zR5 {pos:Pos} {i:Nat} {x:Str} {es:List Expr} {p:Pos} {te:TE} {pos':Pos} (hN:X.N.Nodup) (hi:X.N[i]? = some x) (hx:Loc X.env.scope x) (he:Dr (PE X (.List es p) te)) (hf:X.fn x = true∨X.env.scope.names.lookup x = some .local:=by first | exact .inl rfl | exact .inr rfl | assumption) :
    Dr (PS X (.Assign [.Name x pos'] (.List es p) pos) (tAsg te (zEE i))):=⟨zPW hN hi hx he.h rfl hf⟩
end
end L2
namespace L3
open PySem PySem.Spec
open L2 hiding Rep RepL
open Mi (Dt Xn R okR zA3 optR zA0 zA9 zAC zA8 zAB Rh Sl Ro EM TM AM FM IM SM OM Tg Out zAU zAS zAZ full frz frz1 frzAt)
section
variable [Kc] {mg:Str→Option Value} {E:XK} {L n k l:Nat}
end
end L3
namespace Mi
open PySem
noncomputable section
end
end Mi
namespace L2
open PySem PySem.Spec PyProof.Rows
section
variable {X:Cx}
end
end L2
namespace L3
open PySem PySem.Spec PyProof.Rows
open L2 hiding Rep RepL
open Mi (Dt R Rh EM TM SM AM IM Xn Sl Ro Out okR zA3 optR full frz frzAt)
section
variable [Kc] {mg:Str→Option Value} {E:XK} {n L:Nat} {te ta tb:TE} {e:EM} {m m':SM}
end
end L3
namespace Mi
open PySem
noncomputable section
end
end Mi
namespace L2
open PySem PySem.Spec PyProof.Rows
section
variable {X:Cx} {tg:Expr}
end
section
variable {prog:Program} {w:World} {A:Around} {E:Value→Shared→Prop} {s:Shared}
end
section
variable {X:Cx}
end
end L2
namespace L3
open PySem PySem.Spec
open PyProof.Rows (risingS sortedS ltCps_eq)
open L2 hiding Rep RepL
open Mi (Dt Xn R okR zA3 optR zA0 zA9 zAC zA8 zAB Rh Sl Ro EM TM AM FM IM SM OM Tg Out zAU zAS zAZ full frz frz1 frzAt)
section
variable [Kc] {mg:Str→Option Value} {E:XK} {L n k l:Nat} {t:TA} {m:AM}
end
end L3
namespace Mi
open PySem
noncomputable section
end
end Mi
namespace L3
open PySem PySem.Spec
open L2 hiding Rep RepL
open Mi (Dt Xn R okR zA3 optR zA0 zA9 zAC zA8 zAB Rh Sl Ro EM TM AM FM IM SM OM Tg Out zAU zAS zAZ full frz frz1 frzAt)
section
variable [Kc] {mg:Str→Option Value} {E:XK} {L n k l:Nat} {te:TE} {e:EM}
section
variable {G0 H0 S0:Hp} {σ:St} {ρ:Ro} {G H:Hp} {As:Nat→Addr→Prop}
end
end
end L3
namespace Mi
open PySem
noncomputable section
noncomputable def dlenD:List Dt→Option Dt
  | [.dct kvs]=>some (.int (kvs.length:Int))
  | _=>none
def eDIx (d k:EM):EM:=fun ρ=>zA3 (d ρ) fun D=>match D with
  | .dct kvs=>zA3 (k ρ) fun y=>match kyD y with
    | some q=>match getW kvs q with
      | some w=>okR (swT w)
      | none=>none
    | none=>none
  | _=>none
end
end Mi
namespace L2
open PySem PySem.Spec PyProof.Rows
section
variable {X:Cx}
end
end L2
namespace L3
open PySem PySem.Spec
open L2 hiding Rep RepL
open Mi (Dt Xn R okR zA3 optR zA0 zA9 zAC zA8 zAB Rh Sl Ro EM TM AM FM IM SM OM Tg Out zAU zAS zAZ full frz frz1 frzAt)
section
variable [Kc] {mg:Str→Option Value} {E:XK} {L n k l:Nat} {te ta tb tx td:TE} {e ea eb ex ed ma:EM} {t:TA} {m:AM}
theorem zRI (D:DE mg E td ed k) (A:DE mg E ta ea l):DE mg E (zWR td ta) (Mi.eDIx ed ea) n:=by
  intro G H σ ρ Q s w p
  refine (zAO D).step errE s w p fun d v G1 H1 S _ fr o p1=>?_
  cases d with
  | dct kvs =>
    obtain ⟨a,rfl,ha⟩:=o
    have p1':PostE mg E G H n (zA3 (ea ρ) fun y=>match Mi.kyD y with | some q=>(match Mi.getW kvs q with | some w=>okR (Mi.swT w) | none=>none) | none=>none) Q:=p1
    refine (zAO A).step (errE.from fr.ext) fr.ext.in' (w.mono fr.ext.g) p1' fun y u G2 H2 S2 _ fr2 o2 p2=>?_
    have x2:=fr.ext.trans fr2.ext
    cases ek:Mi.kyD y with
    | none=>rw [ek] at p2; exact p2.elim
    | some q =>
      rw [ek] at p2
      cases ky_rep o2 ek
      cases eg:Mi.getW kvs q with
      | none=>dsimp only at p2; rw [eg] at p2; exact p2.elim
      | some u =>
        dsimp only at p2
        rw [eg] at p2
        have p4:=PostE.from p2 x2
        have h:=DGet.k (k:=q) (fr2.ext.h _ _ (fr.ext.in' _ _ ha))
        rw [zUF,eg] at h
        exact ⟨a,swV u,rfl,h,PostE.val p4 (Ext.refl fr2.ext.in') (zVY u) (zUO u)⟩
  | _=>exact p1.elim
end
end L3
namespace Mi
open PySem
noncomputable section
end
end Mi
namespace L2
open PySem PySem.Spec PyProof.Rows
section
variable {prog:Program} {w:World} {A:Around} {E:Value→Shared→Prop} {s:Shared}
end
section
variable {X:Cx}
end
end L2
namespace L3
open PySem PySem.Spec
open L2 hiding Rep RepL
open Mi (Dt Xn R okR zA3 optR zA0 zA9 zAC zA8 zAB Rh Sl Ro EM TM AM FM IM SM OM Tg Out zAU zAS zAZ full frz frz1 frzAt)
section
variable [Kc] {mg:Str→Option Value} {E:XK} {L n k l:Nat}
end
end L3
namespace Mi
open PySem
noncomputable section
end
end Mi
namespace L2
open PySem PySem.Spec PyProof.Rows
section
variable {prog:Program} {w:World} {A:Around} {E:Value→Shared→Prop} {s:Shared}
end
section
variable {X:Cx} {o:Expr} {td:TE} {p apos cpos pos:Pos}
end
end L2
namespace L3
open PySem PySem.Spec
open PyProof.Rows (risingS sortedS ltCps_eq)
open L2 hiding Rep RepL
open Mi (Dt Xn R okR zA3 optR zA0 zA9 zAC zA8 zAB Rh Sl Ro EM TM AM FM IM SM OM Tg Out zAU zAS zAZ full frz frz1 frzAt)
section
variable [Kc] {mg:Str→Option Value} {E:XK} {L n k l:Nat} {te ta td:TE} {e ea ed:EM}
end
end L3
namespace Mi
open PySem
noncomputable section
end
end Mi
namespace L2
open PySem
end L2
namespace L2
open PySem PySem.Spec PyProof.Rows
section
variable {prog:Program} {w:World} {A:Around} {E:Value→Shared→Prop} {s:Shared}
end
section
variable {prog:Program} {w:World} {A:Around} {R:Result→Shared→Prop} {I:Addr} {fp wr:List Addr} {G:Array GenState→Array GenState→Prop} {n:Nat} {St:Nat→Shared→Prop} {led:Bool} {items:Array Value} {ns:List Int}
end
end L2
namespace PySem
open PyProof.Rows
end PySem
namespace L2
open PySem PySem.Spec PyProof.Rows
section
variable {prog:Program} {w:World} {A:Around} {E:Value→Shared→Prop} {s:Shared}
end
section
variable {X:Cx} {pins:List (Addr × Obj)} {σ:List (Option V)} {H:Hp} {s:Shared}
end
end L2
namespace L3
open PySem PySem.Spec
open L2 hiding Rep RepL
open Mi (Dt Xn R okR zA3 optR zA0 zA9 zAC zA8 zAB Rh Sl Ro EM TM AM FM IM SM OM Tg Out zAU zAS zAZ full frz frz1 frzAt)
section
variable [Kc] {mg:Str→Option Value} {E:XK} {L n k l:Nat} {te ta tb:TE} {e ea eb ma:EM} {t:TA} {m:AM}
end
end L3
namespace Mi
open PySem
noncomputable section
end
end Mi
namespace L2
open PySem PySem.Spec PyProof.Rows
section
variable {prog:Program} {w:World} {A:Around} {E:Value→Shared→Prop} {s:Shared}
structure ZipX (z TI TO i1 i2:Addr):Prop where
  TIz:TI≠z
  TOz:TO≠z
  i1z:i1≠z
  i2z:i2≠z
  TITO:TI≠TO
  TIi1:TI≠i1
  TIi2:TI≠i2
  TOi1:TO≠i1
  TOi2:TO≠i2
  i12:i1≠i2
end
section
variable {X:Cx} {K:qA2}
end
section
variable {X:Cx} {e m1:Expr} {te ts:TE} {pos p2:Pos}
end
end L2
namespace L2
open PySem PySem.Spec PyProof.Rows
section
variable {prog:Program} {w:World} {A:Around} {R:Result→Shared→Prop} {I:Addr} {fp wr:List Addr} {G:Array GenState→Array GenState→Prop} {n:Nat} {St:Nat→Shared→Prop} {led:Bool} {items:Array Value} {zs:List Str}
end
end L2
namespace PySem
open PyProof.Rows
end PySem
namespace L2
open PySem PySem.Spec PyProof.Rows
section
variable {X:Cx} {pins:List (Addr × Obj)} {σ:List (Option V)} {H:Hp} {s:Shared}
end
end L2
namespace L3
open PySem PySem.Spec
open L2 hiding Rep RepL
open Mi (Dt Xn R okR zA3 optR zA0 zA9 zAC zA8 zAB Rh Sl Ro EM TM AM FM IM SM OM Tg Out zAU zAS zAZ full frz frz1 frzAt)
section
variable [Kc] {mg:Str→Option Value} {E:XK} {L n k l:Nat} {te ta tb:TE} {e ea eb ma:EM} {t:TA} {m:AM}
end
end L3
namespace L2
open PySem
theorem uw1 {P:List Value→Prop} (h:∀ a,P [a]):∀ us:List Value,us.length = 1→P us
  | [a],_=>h a
theorem uw2 {P:List Value→Prop} (h:∀ a b,P [a,b]):∀ us:List Value,us.length = 2→P us
  | a :: us,hl=>uw1 (P:=fun us=>P (a :: us)) (h a) us (qHn hl)
theorem uw3 {P:List Value→Prop} (h:∀ a b c,P [a,b,c]):∀ us:List Value,us.length = 3→P us
  | a :: us,hl=>uw2 (P:=fun us=>P (a :: us)) (h a) us (qHn hl)
theorem oi {p q:Prop} (h:p∨q:=by first | exact qHy rfl | exact qHz rfl):p∨q:=h
end L2
namespace L3
open PySem PyProof.Rows
open L2 hiding Rep RepL
theorem fsc {N P:List Str} {sc:Scope} (a:sc.kind = .function:=by rfl) (b:sc.isCoroutine = false:=by rfl) (c:sc.isGenerator = false:=by rfl) (d:N.Nodup:=by decide +kernel) (e:N.take P.length = P:=by rfl)
    (f:∀ x∈P,sc.names.lookup x = some .local∨sc.names.lookup x = some .cell:=by decide +kernel) (g:∀ y∈sc.names,y.2≠.free:=by decide +kernel):FnScope N P sc:=⟨a,b,c,d,e,f,g⟩
section
variable {P:Program} {w:World} {K:qA2} {mg:Str→Option Value} {base:Heap} {x:Str} {st:Stmt} {N ps:List Str} {k:Nat} {sp:Sp}
theorem dfM {L n:Nat} {m:Mi.SM} (D:Def K mg x st) (S:FnScope N ps (zA7 st))
    (hb:∀ (kV doc pm:Value) (an:Option Addr) (cdv ct:Value) (us:List Value),us.length = ps.length→bindArgs (qBq x x (zCN st) (zBC st) (zA7 st) .none kV doc pm an cdv ct) ⟨us,[]⟩ = pure (ps.zip us))
    (hbody:∀ {f:Addr} {cdv:Value} {A:Around} {outer:List Env} {s:Shared} {H:Hp} {vs:List V} {Q:VK} {E:XK},Room k (A.deeper (envOfC x (zA7 st) s.heap.objs.size f cdv))→(A.deeper (envOfC x (zA7 st) s.heap.objs.size f cdv)).units + 64 < cLine→sp0 K mg L (Mi.runF ps.length n m) vs H Q E →
      ∃ t,PSs (cxOf CX0 P w K mg base N x (zA7 st) f cdv A outer s H E).nox (zBC st) t∧t { nx:=fun _ H'=>Q .non H',rt:=Q } (start N vs) H):Has P w K mg base x (k + 1) ps (sp0 K mg L (Mi.runF ps.length n m)) :=
  D.ok S hb (fun _ _ _ _ h=>@zLX ⟨K⟩ _ _ _ _ _ _ _ _ _ h) fun _ _ _ _ _ _ _ _ _ hr h=>hbody hr hr.units h
theorem dfX {L n:Nat} {m:Mi.SM} (D:Def K mg x st) (S:FnScope N ps (zA7 st))
    (hb:∀ (kV doc pm:Value) (an:Option Addr) (cdv ct:Value) (us:List Value),us.length = ps.length→bindArgs (qBq x x (zCN st) (zBC st) (zA7 st) .none kV doc pm an cdv ct) ⟨us,[]⟩ = pure (ps.zip us))
    (hbody:∀ {f:Addr} {cdv:Value} {A:Around} {outer:List Env} {s:Shared} {H:Hp} {vs:List V} {Q:VK} {E:XK},Room k (A.deeper (envOfC x (zA7 st) s.heap.objs.size f cdv))→(A.deeper (envOfC x (zA7 st) s.heap.objs.size f cdv)).units + 64 < cLine→spE K mg L (Mi.runF ps.length n m) vs H Q E →
      ∃ t,PSs (cxOf (CXe P w) P w K mg base N x (zA7 st) f cdv A outer s H E) (zBC st) t∧t { nx:=fun _ H'=>Q .non H',rt:=Q } (start N vs) H):HasX P w K mg base x (k + 1) ps (spE K mg L (Mi.runF ps.length n m)) :=
  D.okX S hb (fun _ _ _ _ h=>@zLX ⟨K⟩ _ _ _ _ _ _ _ _ _ h) fun _ _ _ _ _ _ _ _ _ hr h=>hbody hr hr.units h
theorem mkD {K:qA2} {h:Heap} {mg:Str→Option Value} {nm:Str} {st:Stmt} {f:Addr} {oc kV dc pm cd ct:Value} {od an:Option Addr} {sl:Array (Option Value)} (X:K.In h) (G:h.Ns mainGlobals mg) (a:qCb K mainGlobals nm = some (some (.ref f))) (l:K.lookup f = some ⟨oc,od,.func (qBq nm nm (zCN st) (zBC st) (zA7 st) .none kV dc pm an cd ct),sl⟩) (c:qDu K cd nm = true) (k:qB9 K (.ref f) = true):Def K mg nm st:=⟨f,_,zTY (st:=st) l c k,qCk X G a⟩
end
section
variable {X:Cx} {pos:Pos}
theorem pgn (i:Nat) {x:Str} (hN:decide X.N.Nodup = true:=by kernel_rfl) (hi:X.N[i]? = some x:=by rfl) (hx:Loc X.env.scope x:=by exact oi) (hf:X.fn x = true∨X.env.scope.names.lookup x = some .local:=by first | exact .inl rfl | exact .inr rfl | assumption):PG X (.Name x pos) (zEE i):=zB8 (of_decide_eq_true hN) hi hx hf
theorem pst (i:Nat) {x:Str} {e:Expr} {te:TE} {pos':Pos} (hN:X.N.Nodup) (he:PE X e te) (hi:X.N[i]? = some x:=by rfl) (hx:Loc X.env.scope x:=by exact oi) (hs:swapsWith e (some (.Name x pos')) pos.line X.env = pure false:=by rfl) (hf:X.fn x = true∨X.env.scope.names.lookup x = some .local:=by first | exact .inl rfl | exact .inr rfl | assumption):PS X (.Assign [.Name x pos'] e pos) (tAsg te (zEE i)):=zPW hN hi hx he hs hf
end
end L3
namespace Mi
open PySem
noncomputable section
end
end Mi
namespace L3
open PySem PySem.Spec
open L2 hiding Rep RepL
open Mi (Dt Xn R okR zA3 optR zA0 zA9 zAC zA8 zAB Rh Sl Ro EM TM AM FM IM SM Tg Out zAU zAS zAZ full frz frz1 frzAt)
section
variable [Kc]
section
variable {G0 H0 S0:Hp} {σ:St} {ρ:Ro} {G H:Hp} {As:Nat→Addr→Prop}
end
variable {mg:Str→Option Value} {E:XK} {L n k l:Nat} {te ta tb:TE} {e ea eb ma:EM} {t:TA} {m:AM}
theorem zVW (i:Nat) (A:DE mg E te e 0):DS mg E L (zEK (tML extM (vM i) (zD8 te tNil))) (Mi.sExt i 0 e):=by
  intro G0 H0 S0 σ ρ G H As D a p
  obtain ⟨J,x,s,w⟩:=a.full
  unfold Mi.sExt at p
  split at p
  · rename_i ds k e1
    obtain ⟨v,h1,q,xs,T,rfl,hq,kd⟩:=a.at i _ _ e1
    unfold zEK tML vM
    rw [h1]
    refine ⟨xs,hq,?_⟩
    refine A.step (errS.from x) x.in' w p fun d y G1 H1 S _ fr o p1=>?_
    split at p1
    · rename_i es
      obtain ⟨b0,zs,rfl,hb0,rz⟩:=o
      split at p1
      · rename_i hz
        refine ⟨xs,zs,fr.ext.h _ _ hq,fr.ext.in' _ _ hb0,by rw [kd.len,rz.length]; exact big' (by omega),?_⟩
        have hp:=kd.top
        have a1:=a.grow fr.ext.h
        refine p1 σ G _ _ (a1.store (S:=As i) hp h1 ⟨q,_,fun r b=>r < ds.length∧T r b,rfl,zAH,⟨by simp [kd.len,rz.length],fun r d' z g1 g2=>?_,hp,fun r z=>kd.out r z.2,fun r r' b z1 z2=>kd.dis r r' b z1.2 z2.2,fun r b z=>kd.sub r b z.2⟩⟩ fun b z=>.inl z)
        by_cases hr:r < ds.length
        · rw [qA7 hr] at g1
          rw [qA7 (by rw [kd.len]; exact hr)] at g2
          exact (((kd.own r d' z g1 g2).mono (Same.refl _) fr.ext.h).upd (kd.out r)).sub fun b z=>⟨hr,z⟩
        · rw [qA6 (by omega)] at g1
          rw [qA6 (by rw [kd.len]; omega),kd.len] at g2
          have hd:d'.dep = 0:=qFk.mp (zDQ hz.2.1 g1)
          exact zQ6 (Rep.scalar (zC3 rz g1 g2) hd) hd
      · exact p1.elim
    · exact p1.elim
  · exact p.elim
end
end L3
namespace Mp
noncomputable section
open Mi PySem
def zFU:SM:=(sRet 0 0 [0] (eAnd (eIsi "int" (eV 0)) (eNot (eIsi "bool" (eV 0)))))
def zBN:FM:=runF 1 1 zFU
def zE5:SM:=(sSeq (sSet 2 0 [] (eC (.int 0)))
  (sSeq (sIf (tB (eB (cmpD fun i j=>decide (i < j)) (eV 1) (eBi lenD (aCons (eV 0) aNil)))) (sSet 2 0 [0,1] (eB ixD (eV 0) (eV 1))) sNil)
  (sSeq (sSet 3 0 [2,1] (eB modD (eB mulD (eB addD (eB modD (eV 2) (eC (.int 2147483629))) (eB mulD (eC (.int 104729)) (eB addD (eV 1) (eC (.int 1))))) (eC (.int 48271))) (eC (.int 2147483647))))
  (sRet 1 1 [2,3] (eB addD (eB mulD (eB divD (eV 2) (eC (.int 2147483629))) (eC (.int 2147483647))) (eB modD (eB mulD (eV 3) (eC (.int 69621))) (eC (.int 2147483629))))))))
def zAG:FM:=runF 2 4 zE5
def zJK:SM:=(sSeq (sIf (Mi.tOr (tNo (tM (eIsi "list" (eV 0)))) (tB (eB neD (eBi lenD (aCons (eV 0) aNil)) (eBi lenD (aCons (eV 1) aNil))))) (sRet 0 0 [] (eC (.bl false))) sNil)
  (sSeq (sFor [0] (iSq (eV 0)) (.one 2) (sIf (Mi.tOr (tNo (tM (eIsi "list" (eV 2)))) (tNo (tM (eBi allD (aCons (eComp (iSq (eV 2)) 1 (.one 3) Mi.tYes (eCall zBN (aCons (eV 3) aNil))) aNil))))) (sRet 0 0 [] (eC (.bl false))) sNil))
  (sRet 0 0 [0,1] (eB eqD (eV 0) (eV 1)))))
def zC8:FM:=runF 2 3 zJK
def zFV:SM:=(sRet 1 1 [0] (eComp (iR1 (aCons (eBi lenD (aCons (eV 0) aNil)) aNil)) 1 (.one 1) (tB (eB neD (eB ixD (eV 0) (eV 1)) (eC (.int 0)))) (eV 1)))
def zBK:FM:=runF 1 1 zFV
def zF8:SM:=(sRet 0 0 [0] (eMt joinD (eC (.str "")) (aCons (eComp (iEnX (aCons (eV 0) aNil)) 2 (.tup [1,2]) (tB (eB eqD (eMt findD (eV 0) (aCons (eV 2) aNil)) (eV 1))) (eV 2)) aNil)))
def zAR:FM:=runF 1 1 zF8
def zI2:SM:=(sSeq (sSet 2 0 [0,1] (eMt findD (eCall zAR (aCons (eV 0) aNil)) (aCons (eB ixD (eV 0) (eV 1)) aNil)))
  (sRet 1 1 [2,1,0] (eB addD (eB mulD (eV 2) (eC (.int 4))) (eIf (tB (eB eqD (eMt findD (eV 0) (aCons (eB ixD (eV 0) (eV 1)) aNil)) (eV 1))) (eC (.int 0)) (eC (.int 2))))))
def zCE:FM:=runF 2 3 zI2
def zJI:SM:=(sSeq (sIf (tB (eB (cmpD fun i j=>decide (j < i)) (eBi lenD (aCons (eCallN zAR (aCons (eV 0) aNil)) aNil)) (eC (.int 8)))) (sRaise0 "TooMany" (aCons (eC (.str "a net has at most eight places")) aNil)) sNil)
  (sSeq (sSet 1 2 [0,3] (eComp (iR1 (aCons (eBi lenD (aCons (eV 0) aNil)) aNil)) 1 (.one 6) Mi.tYes (eCallN zCE (aCons (eV 0) (aCons (eV 6) aNil)))))
  (sSeq (sSet 2 1 [0] (eB repD (eLst (aCons (eC (.int 0)) aNil)) (eB mulD (eC (.int 2)) (eBi lenD (aCons (eV 0) aNil)))))
  (sSeq (sFor [1] (iEn (aCons (eV 1) aNil)) (.tup [3,4]) (sSeq (sSet 5 1 [1,3] (eB addD (eB ixD (eV 1) (eB subD (eV 3) (eC (.int 1)))) (eC (.int 1))))
  (sSeq (sItem 2 0 (eV 5) (eV 4))
  (sItem 2 0 (eV 4) (eV 5)))))
  (sRetV 1 2)))))
def zBY:FM:=runF 1 6 zJI
def zFT:SM:=(sRet 0 0 [0] (eMt joinD (eC (.str "")) (aCons (eBi sosD (aCons (eV 0) aNil)) aNil)))
def zB2:FM:=runF 1 1 zFT
def zBZ:SM:=(sSeq (sSet 3 1 [2,0,1] (eB addD (eC (.int 1)) (eB modD (eCall zAG (aCons (eV 0) (aCons (eV 1) aNil))) (eV 2))))
  (sSeq (sSet 4 0 [0,1] (eB modD (eB divD (eCall zAG (aCons (eV 0) (aCons (eV 1) aNil))) (eC (.int 10))) (eC (.int 26))))
  (sSeq (sSet 5 0 [0,1] (eB ixD (eLst (aCons (eC (.int 1)) (aCons (eC (.int 3)) (aCons (eC (.int 5)) (aCons (eC (.int 7)) (aCons (eC (.int 9)) (aCons (eC (.int 11)) (aCons (eC (.int 15)) (aCons (eC (.int 17)) (aCons (eC (.int 19)) (aCons (eC (.int 21)) (aCons (eC (.int 23)) (aCons (eC (.int 25)) aNil))))))))))))) (eB modD (eB divD (eCall zAG (aCons (eV 0) (aCons (eV 1) aNil))) (eC (.int 260))) (eC (.int 12)))))
  (sSeq (sSet 6 9 [] (eLst aNil))
  (sSeq (sForR (iR1 (aCons (eV 3) aNil)) 7 (sSeq (sSet 8 0 [4,7,5] (eB ixD (eC (.str "abcdefghijklmnopqrstuvwxyz")) (eB modD (eB addD (eV 4) (eB mulD (eV 7) (eV 5))) (eC (.int 26)))))
  (sExt 6 0 (eLst (aCons (eV 8) (aCons (eV 8) aNil))))))
  (sSeq (sSet 9 0 [] (eC (.str "")))
  (sSeq (sForR (iR1 (aCons (eB mulD (eC (.int 2)) (eV 3)) aNil)) 7 (sAddPop 9 6 (eB modD (eCall zAG (aCons (eV 0) (aCons (eB addD (eB addD (eV 1) (eC (.int 1))) (eV 7)) aNil))) (eBi lenD (aCons (eV 6) aNil)))))
  (sRetV 0 9))))))))
def zCY:FM:=runF 3 10 zBZ
def zJO:SM:=(sRet 1 1 [0,2,1] (eComp (iR1 (aCons (eV 2) aNil)) 1 (.one 3) Mi.tYes (eB modD (eCall zAG (aCons (eV 0) (aCons (eB addD (eV 1) (eV 3)) aNil))) (eC (.int 3)))))
def zDC:FM:=runF 3 3 zJO
def zJM:SM:=(sSeq (sSet 2 0 [0,1] (eB ixD (eLst (aCons (eTup (aCons (eC (.int 1)) (aCons (eC (.int 0)) (aCons (eC (.int 3)) (aCons (eC (.int 2)) aNil))))) (aCons (eTup (aCons (eC (.int 2)) (aCons (eC (.int 3)) (aCons (eC (.int 0)) (aCons (eC (.int 1)) aNil))))) (aCons (eTup (aCons (eC (.int 3)) (aCons (eC (.int 2)) (aCons (eC (.int 1)) (aCons (eC (.int 0)) aNil))))) aNil)))) (eB ixD (eV 0) (eB divD (eV 1) (eC (.int 4))))))
  (sRet 1 1 [1,2] (eB addD (eB subD (eV 1) (eB modD (eV 1) (eC (.int 4)))) (eB ixD (eV 2) (eB modD (eV 1) (eC (.int 4)))))))
def zIZ:FM:=runF 2 3 zJM
def zLL:SM:=(sSeq (sSet 3 9 [] (eLst aNil))
  (sSeq (sSet 4 0 [2] (eV 2))
  (sSeq (sWhile (Mi.tOr (tB (eB eqD (eV 3) (eLst aNil))) (tB (eB neD (eV 4) (eV 2)))) (sSeq (sApp 3 0 (eV 4))
  (sSeq (sApp 3 1 (eCall zIZ (aCons (eV 1) (aCons (eV 4) aNil))))
  (sSet 4 0 [0,3] (eB ixD (eV 0) (eB ixD (eV 3) (eU negD (eC (.int 1)))))))))
  (sRetV 9 3))))
def zKT:FM:=runF 3 5 zLL
def zJL:SM:=(sSeq (sSet 2 1 [] eDct0)
  (sSeq (sSet 3 9 [] (eLst aNil))
  (sSeq (sForR (iR1 (aCons (eBi lenD (aCons (eV 0) aNil)) aNil)) 4 (sIf (tB (eB (dinD true) (eV 4) (eV 2))) (sSeq (sSet 5 9 [0,1,4] (eCall zKT (aCons (eV 0) (aCons (eV 1) (aCons (eV 4) aNil)))))
  (sSeq (sFor [5] (iSq (eV 5)) (.one 6) (sDput 2 (eV 6) (eC (.bl true))))
  (sAppF 3 [5] (eV 5)))) sNil))
  (sRetV 1 3))))
def zIY:FM:=runF 2 7 zJL
def zJJ:SM:=(sRet 0 0 [1,0] (eB xorD (eV 1) (eB addD (eV 0) (eC (.int 1)))))
def zIX:FM:=runF 2 2 zJJ
def zDS:SM:=(sSeq (sSet 2 0 [1] (eB divD (eV 1) (eC (.int 4))))
  (sRet 1 1 [2,0,1] (eB addD (eB mulD (eV 2) (eC (.int 4))) (eCall zIX (aCons (eB ixD (eV 0) (eV 2)) (aCons (eB modD (eV 1) (eC (.int 4))) aNil))))))
def zBB:FM:=runF 2 3 zDS
def zFO:SM:=(sSeq (sSet 3 1 [2,1] (eLst (aCons (eV 2) (aCons (eCall zBB (aCons (eV 1) (aCons (eV 2) aNil))) aNil))))
  (sSeq (sWhile (tB (eB neD (eB ixD (eV 0) (eB ixD (eV 3) (eU negD (eC (.int 1))))) (eV 2))) (sSeq (sSet 4 0 [0,3] (eB ixD (eV 0) (eB ixD (eV 3) (eU negD (eC (.int 1))))))
  (sExt 3 0 (eLst (aCons (eV 4) (aCons (eCall zBB (aCons (eV 1) (aCons (eV 4) aNil))) aNil))))))
  (sRetV 1 3)))
def zD2:FM:=runF 3 5 zFO
def zEH:SM:=(sSeq (sSet 2 9 [] (eLst aNil))
  (sSeq (sSet 3 1 [] eDct0)
  (sSeq (sForR (iR1 (aCons (eBi lenD (aCons (eV 0) aNil)) aNil)) 4 (sIf (tB (eB (dinD true) (eV 4) (eV 3))) (sSeq (sSet 5 1 [0,1,4] (eCall zD2 (aCons (eV 0) (aCons (eV 1) (aCons (eV 4) aNil)))))
  (sSeq (sAppF 2 [5] (eV 5))
  (sDupd 3 (eComp (iSq (eV 5)) 1 (.one 6) Mi.tYes (eTup (aCons (eV 6) (aCons (eC (.bl true)) aNil))))))) sNil))
  (sRetV 1 2))))
def zBV:FM:=runF 2 6 zEH
def zMW:SM:=(sSeq (sSet 2 0 [0] (eCall zB2 (aCons (eV 0) aNil)))
  (sRet 1 1 [1,0,2] (eComp (iSq (eCall zAR (aCons (eV 0) aNil))) 1 (.one 3) Mi.tYes (eB ixD (eV 1) (eMt findD (eV 2) (aCons (eV 3) aNil))))))
def zCM:FM:=runF 2 3 zMW
def zF7:SM:=(sSeq (sSet 3 0 [0] (eCall zB2 (aCons (eV 0) aNil)))
  (sSeq (sSet 4 0 [0] (eCall zAR (aCons (eV 0) aNil)))
  (sSeq (sSet 5 1 [4,2] (eComp (iSq (eV 2)) 1 (.one 6) Mi.tYes (eB ixD (eV 4) (eB divD (eV 6) (eC (.int 4))))))
  (sRet 1 1 [1,5,3] (eComp (iEn (aCons (eCall zBK (aCons (eV 1) aNil)) aNil)) 2 (.tup [6,7]) (tB (eB eqD (eMl lcoD (eV 5) (aCons (eB ixD (eV 3) (eV 7)) aNil)) (eC (.int 2)))) (eV 6))))))
def zB0:FM:=runF 3 6 zF7
def zF9:SM:=(sSeq (sSet 2 1 [0,1] (eCallN zBV (aCons (eCall zBY (aCons (eV 0) aNil)) (aCons (eCallN zCM (aCons (eV 0) (aCons (eV 1) aNil))) aNil))))
  (sRet 2 2 [0,1,2] (eComp (iSq (eV 2)) 1 (.one 3) Mi.tYes (eCallN zB0 (aCons (eV 0) (aCons (eV 1) (aCons (eV 3) aNil)))))))
def zB1:FM:=runF 2 3 zF9
def zDT:SM:=(sSeq (sSet 2 9 [] (eLst aNil))
  (sSeq (sTry [0,1] none (eCall zB1 (aCons (eV 0) (aCons (eV 1) aNil))) ["RoundError","NoWord","NoOne","TooMany"] 3 (sSet 2 1 [3] (eLst (aCons (eIsX ["TooMany"] ["RoundError","NoWord","NoOne"] (eV 3)) (aCons (eIsX ["RoundError","NoWord","NoOne","TooMany"] [] (eV 3)) (aCons (eIsX ["NoWord"] ["RoundError","NoOne","TooMany"] (eV 3)) (aCons (eIsX ["NoOne"] ["RoundError","NoWord","TooMany"] (eV 3)) aNil)))))))
  (sRetV 1 2)))
def zBR:FM:=runF 2 4 zDT
def zJN:SM:=(sRet 1 1 [0] (eComp (iEnX (aCons (eV 0) aNil)) 2 (.tup [1,2]) (tB (eB eqD (eMt indexD (eV 0) (aCons (eV 2) aNil)) (eV 1))) (eV 2)))
def zC9:FM:=runF 1 1 zJN
def zLK:SM:=(sSeq (sSet 2 0 [0] (eCall zB2 (aCons (eV 0) aNil)))
  (sSeq (sSet 3 1 [0] (eCall zC9 (aCons (eV 0) aNil)))
  (sSeq (sSet 4 2 [] (eLst (aCons (eLst (aCons (eC (.int 1)) (aCons (eC (.int 0)) (aCons (eC (.int 3)) (aCons (eC (.int 2)) aNil))))) (aCons (eLst (aCons (eC (.int 2)) (aCons (eC (.int 3)) (aCons (eC (.int 0)) (aCons (eC (.int 1)) aNil))))) (aCons (eLst (aCons (eC (.int 3)) (aCons (eC (.int 2)) (aCons (eC (.int 1)) (aCons (eC (.int 0)) aNil))))) aNil)))))
  (sSeq (sSet 5 1 [] eDct0)
  (sSeq (sFor [3] (iEn (aCons (eV 3) aNil)) (.tup [6,7]) (sSeq (sSet 8 0 [4,1,7,2] (eB ixD (eV 4) (eB ixD (eV 1) (eMt indexD (eV 2) (aCons (eV 7) aNil)))))
  (sForR (iR1 (aCons (eC (.int 4)) aNil)) 9 (sDput 5 (eB addD (eB mulD (eC (.int 4)) (eV 6)) (eV 9)) (eB addD (eB mulD (eC (.int 4)) (eV 6)) (eB ixD (eV 8) (eV 9)))))))
  (sSeq (sSet 10 9 [] (eLst aNil))
  (sSeq (sFor [0] (iEnX (aCons (eV 0) aNil)) (.tup [11,7]) (sApp 10 1 (eB addD (eB mulD (eC (.int 4)) (eMl lifD (eV 3) (aCons (eV 7) aNil))) (eB mulD (eC (.int 2)) (eBi intD (aCons (eB (cmpD fun i j=>decide (i < j)) (eMt indexD (eV 0) (aCons (eV 7) aNil)) (eV 11)) aNil))))))
  (sSeq (sSet 12 1 [] eDct0)
  (sSeq (sForR (iR1 (aCons (eBi lenD (aCons (eV 0) aNil)) aNil)) 11 (sSeq (sSet 13 0 [10,11,0] (eB ixD (eV 10) (eB modD (eB addD (eV 11) (eC (.int 1))) (eBi lenD (aCons (eV 0) aNil)))))
  (sSeq (sDput 12 (eB addD (eB ixD (eV 10) (eV 11)) (eC (.int 1))) (eV 13))
  (sDput 12 (eV 13) (eB addD (eB ixD (eV 10) (eV 11)) (eC (.int 1)))))))
  (sRet 1 1 [5,12] (eTup (aCons (eV 5) (aCons (eV 12) aNil)))))))))))))
def zCR:FM:=runF 2 14 zLK
def zFW:SM:=(sSeq (sUnp [2,3] [0,1] (eCall zCR (aCons (eV 0) (aCons (eV 1) aNil))))
  (sSeq (sSet 4 9 [] (eLst aNil))
  (sSeq (sSet 5 9 [] (eLst aNil))
  (sSeq (sForR (iR1 (aCons (eB mulD (eC (.int 2)) (eBi lenD (aCons (eV 0) aNil))) aNil)) 6 (sIf (tB (eB (inD true) (eV 6) (eV 4))) (sSeq (sSet 7 9 [] (eLst aNil))
  (sSeq (sSet 8 0 [6] (eV 6))
  (sSeq (sWhile (tB (eB (inD true) (eV 8) (eV 7))) (sSeq (sExt 7 0 (eLst (aCons (eV 8) (aCons (eDIx (eV 2) (eV 8)) aNil))))
  (sSet 8 0 [3,2,8] (eDIx (eV 3) (eDIx (eV 2) (eV 8))))))
  (sSeq (sExt 4 0 (eV 7))
  (sAppF 5 [7] (eV 7)))))) sNil))
  (sRetV 1 5)))))
def zBL:FM:=runF 2 9 zFW
def zMX:SM:=(sSeq (sSet 2 0 [0] (eCall zB2 (aCons (eV 0) aNil)))
  (sSeq (sSet 3 1 [0] (eCall zC9 (aCons (eV 0) aNil)))
  (sSeq (sSet 4 1 [2,1] (eComp (iEnX (aCons (eV 2) aNil)) 2 (.tup [8,9]) (tB (eB neD (eB ixD (eV 1) (eV 8)) (eC (.int 0)))) (eV 9)))
  (sSeq (sSet 5 9 [] (eLst aNil))
  (sSeq (sFor [0,1] (iSq (eCall zBL (aCons (eV 0) (aCons (eV 1) aNil)))) (.one 6) (sSeq (sSet 7 1 [3,6] (eComp (iSq (eV 6)) 1 (.one 8) Mi.tYes (eB ixD (eV 3) (eB divD (eV 8) (eC (.int 4))))))
  (sApp 5 1 (eComp (iEn (aCons (eV 4) aNil)) 2 (.tup [8,9]) (tB (eB eqD (eMl lcoD (eV 7) (aCons (eV 9) aNil)) (eC (.int 2)))) (eV 8)))))
  (sRetV 9 5))))))
def zEC:FM:=runF 2 8 zMX
def zRT:SM:=(sSeq (sSet 1 0 [0] (eCall zCY (aCons (eV 0) (aCons (eC (.int 0)) (aCons (eC (.int 10)) aNil)))))
  (sSeq (sSet 2 1 [0,1] (eCall zDC (aCons (eV 0) (aCons (eC (.int 30)) (aCons (eBi lenD (aCons (eCall zB2 (aCons (eV 1) aNil)) aNil)) aNil)))))
  (sSeq (sIf (tB (eB (cmpD fun i j=>decide (j < i)) (eBi lenD (aCons (eV 2) aNil)) (eC (.int 8)))) (sRet 0 0 [1,2] (eB eqD (eCall zBR (aCons (eV 1) (aCons (eV 2) aNil))) (eLst (aCons (eC (.bl true)) (aCons (eC (.bl true)) (aCons (eC (.bl false)) (aCons (eC (.bl false)) aNil))))))) sNil)
  (sSeq (sSet 3 9 [1,2] (eCall zEC (aCons (eV 1) (aCons (eV 2) aNil))))
  (sSeq (sSet 4 1 [2] (eBi listD (aCons (eV 2) aNil)))
  (sSeq (sSet 5 2 [1,4] (eCall zB1 (aCons (eV 1) (aCons (eV 4) aNil))))
  (sSeq (sIf (Mi.tOr (tNo (tM (eCall zC8 (aCons (eV 5) (aCons (eV 3) aNil))))) (tB (eB neD (eV 4) (eV 2)))) (sRet 0 0 [] (eC (.bl false))) sNil)
  (sSeq (sForApp 5 6 0)
  (sSeq (sApp 5 9 (eLst aNil))
  (sRet 0 0 [3,1,4] (eCall zC8 (aCons (eCall zB1 (aCons (eV 1) (aCons (eV 4) aNil))) (aCons (eV 3) aNil)))))))))))))
def zKS:FM:=runF 1 7 zRT
end
end Mp
namespace Mp
open Mi PySem
theorem zL1 (i:Int):zBN [.int i] = okR (.bl true):=by
  unfold zBN zFU
  simp [isiD,tyD]
end Mp
namespace Mi
open PySem
section
variable (ρ:Rh) (r:Ro) (a:EM) (am:AM)
@[simp] theorem x_tL:tL a ρ = zA3 (a ρ) fun x=>match x with | .bl k=>okR k | .int i=>okR (i != 0) | .non=>okR false | .lst xs=>okR (!xs.isEmpty) | .tup xs=>okR (!xs.isEmpty) | _=>none:=rfl
@[simp] theorem x_eMl (f:List Dt→List Dt→Option Dt):eMl f a am ρ = zA3 (a ρ) fun x=>match x with | .lst xs=>zA3 (am ρ) fun ds=>optR (f xs ds) | _=>none:=rfl
@[simp] theorem x_iRv:iRv am ρ = zA3 (am ρ) fun vs=>match vs with | [.lst xs]=>okR xs.reverse | _=>none:=rfl
@[simp] theorem v_xor (i j:Int):xorD (.int i) (.int j) = some (.int (Builtin.bitXor i j)):=rfl
@[simp] theorem zZA (xs:List Dt) (k:Int):repD (.lst xs) (.int k) = @ite _ ((-4611686018427387904≤k∧k < 4611686018427387904)∧xs.length * k.toNat≤100000) (qA4 _) (some (.lst (qA8 k.toNat xs).flatten)) none:=rfl
end
end Mi
namespace Mi
open PySem
@[simp] theorem okR_inj {α:Type} {a b:α}:okR a = okR b ↔ a = b:=⟨fun h=>by cases h; rfl,fun h=>by rw [h]⟩
@[simp] theorem zN1 (vs:List Nat) (it:IM) (tg:Tg) (b:SM) (r:Ro):sFor vs it tg b r = zA3 (it (frz (frzAt vs r))) fun ds=>forGo tg b ds (frzAt vs r):=rfl
@[simp] theorem zFA (it:IM) (i:Nat) (b:SM) (r:Ro):sForR it i b r = zA3 (it (full r)) fun ds=>forGo (.one i) b ds r:=rfl
@[simp] theorem zRX (e:EM) (ρ:Rh):iSq e ρ = zA3 (e ρ) fun d=>match d with | .lst xs=>okR xs | .tup xs=>okR xs | .scr ns=>okR (ns.map .int) | .str z=>okR (signsD z) | _=>none:=rfl
@[simp] theorem x_iEn (e:AM) (ρ:Rh):iEn e ρ = zA3 (e ρ) fun vs=>match vs with | [.lst xs]=>okR (enumD 0 xs) | _=>none:=rfl
@[simp] theorem x_iZi (e:AM) (ρ:Rh):iZi e ρ = zA3 (e ρ) fun vs=>match vs with | [.lst xs,.lst ys]=>okR (zipD xs ys) | _=>none:=rfl
theorem zI4 {e:AM} {ρ:Rh} {n:Nat} (h:e ρ = okR [.int n]) (hn:n≤100000):iR1 e ρ = okR (nums 0 n):=by
  unfold iR1
  rw [h,zA0]
  dsimp only
  rw [if_pos (by omega)]
  simp
theorem zG4 (n:Nat):nums 0 n = (qA9 n).map fun i:Nat=>Dt.int (i:Int):=by
  unfold nums
  exact qC7 fun i _=>by simp
def nxR (x:R Out) (P:Ro→Prop):Prop:=match x with
  | some (.ok (.nx r))=>P r
  | _=>False
@[simp] theorem x_nxR (r:Ro) (P:Ro→Prop):nxR (okR (.nx r)) P = P r:=rfl
theorem zBQ {x:R Out} {P:Ro→Prop} (h:nxR x P):∃ r',x = okR (.nx r')∧P r':=by
  unfold nxR at h
  split at h
  · exact ⟨_,rfl,h⟩
  · exact h.elim
theorem zAL {x:R Out} {P:Ro→Prop} {r:Ro} (h:x = okR (.nx r)) (hp:P r):nxR x P:=by rw [h]; exact hp
theorem zWF {i n:Nat} {e:EM} {r:Ro} {ds:List Dt} {k:Nat} {d:Dt} (h:r[i]? = some (some (.lst ds,k + 1))) (he:e (full r) = okR d) (h1:ds.length≤100000) (h2:d.dep≤n) (h3:d.dep≤k):sApp i n e r = okR (.nx (r.set i (some (.lst (ds ++ [d]),k + 1)))):=by
  unfold sApp
  rw [h]
  dsimp only
  rw [he,zA0,if_pos ⟨h1,h2,h3⟩]
theorem zIT {i j:Int} (h:-18446744073709551616 < i) (h':i < 18446744073709551616):mulD (.int i) (.int j) = some (.int (i * j)):=by
  rw [zOE,if_pos (.inl (.inl ⟨h,h'⟩))]
theorem zV5 {i j:Int} (h:-18446744073709551616 < j) (h':j < 18446744073709551616):mulD (.int i) (.int j) = some (.int (i * j)):=by
  rw [zOE,if_pos (.inl (.inr ⟨h,h'⟩))]
theorem zHZ {ρ:Rh} {c:TM} {e:EM} {i:Nat} (g:Nat→Dt) (n:Nat) (hc:c = tYes) (hi:i = ρ.length) (h:∀ k,k < n→e (ρ ++ [some (.int (k:Nat))]) = okR (g k)) (it:IM) (hit:it ρ = okR (nums 0 n)) (hn:n≤100000):eComp it 1 (.one i) c e ρ = okR (.lst ((qA9 n).map g)):=by
  subst hc hi
  unfold eComp
  rw [hit,zA0,if_pos ⟨by simpa [nums] using hn,by simp [Tg.idx]⟩]
  rw [zO9 (fun d=>match d with | .int k=>g k.toNat | _=>.non) _ [] fun d hd=>?_]
  · rw [zA0,zG4,qB3]
    simp only [qGf]
    congr 2
  · rw [zG4] at hd
    obtain ⟨k,hk,rfl⟩:=qAv.mp hd
    refine ⟨_,rfl,rfl,?_⟩
    have:zAS (ρ ++ qA8 1 none) [(ρ.length,Dt.int (k:Int))] = ρ ++ [some (.int (k:Nat))]:=by
      simp [zAS]
    rw [this]
    simpa using h k (by simpa using hk)
theorem zD5 {ρ:Rh} {c:TM} {e:EM} {i:Nat} {β:Type} (en:β→Dt) (g:β→Dt) (ns:List β) (hc:c = tYes) (hi:i = ρ.length) (h:∀ k,k∈ns→e (ρ ++ [some (en k)]) = okR (g k)) (it:IM) (hit:it ρ = okR (ns.map en)) (hn:ns.length≤100000):eComp it 1 (.one i) c e ρ = okR (.lst (ns.map g)):=by
  subst hc hi
  unfold eComp
  rw [hit,zA0,if_pos ⟨by simpa using hn,by simp [Tg.idx]⟩]
  have:∀ (ns:List β) (acc:List Dt),(∀ k,k∈ns→e (ρ ++ [some (en k)]) = okR (g k))→compGo ρ 1 (.one ρ.length) tYes e (ns.map en) acc = okR (acc ++ ns.map g):=by
    intro ns
    induction ns with
    | nil=>intro acc _; simp [compGo]
    | cons d r ih =>
      intro acc h
      rw [qAi,compGo]
      have e1:zAS (ρ ++ qA8 1 none) [(ρ.length,en d)] = ρ ++ [some (en d)]:=by simp [zAS]
      show zA3 (tYes _) _ = _
      simp only [zWD,zA0,if_true]
      show zA3 (e (zAS (ρ ++ qA8 1 none) [(ρ.length,en d)])) _ = _
      rw [e1,h d (by simp),zA0,ih _ fun k hk=>h k (by simp [hk])]
      simp
  rw [this ns [] h,zA0]
  simp
theorem zB5 {a b:SM} {r:Ro} {X:R Out} (h:∀ bb:SM,bb = b→nxR (a r) fun r1=>bb r1 = X):sSeq a b r = X:=by
  obtain ⟨r1,h1,h2⟩:=zBQ (h b rfl)
  unfold sSeq
  rw [h1,zA0]
  exact h2
theorem zCG {a b:SM} {r:Ro} {P:Ro→Prop} (h:∀ bb:SM,bb = b→nxR (a r) fun r1=>nxR (bb r1) P):nxR (sSeq a b r) P:=by
  obtain ⟨r1,h1,h2⟩:=zBQ (h b rfl)
  unfold sSeq
  rw [h1,zA0]
  exact h2
theorem zBG {P n:Nat} {b:SM} {ds:List Dt} {d:Dt} (h:ds.length = P) (hb:b (startO n ds) = okR (.rt d)):runF P n b ds = okR d:=by
  unfold runF
  rw [if_pos h,hb]; rfl
theorem zOR {j n:Nat} {b:SM} {r:Ro} {X:Ro→Prop} (Pv:Nat→Ro→Prop) (h:Pv 0 r) (hs:∀ k,k < n→∀ r,Pv k r→nxR (b (r.set j (some (.int (k:Nat),0)))) (Pv (k + 1))) (hK:∀ r',Pv n r'→X r'):nxR (forGo (.one j) b (nums 0 n) r) X:=by
  obtain ⟨r',h1,h2⟩:∃ r',forGo (.one j) b (nums 0 n) r = okR (.nx r')∧Pv n r':=by
    obtain ⟨r',h1,h2⟩:=zJ7 (tg:=.one j) (b:=b) Pv (nums 0 n) 0 r h fun k d r hd hp=>by
      rw [zG4,qAd] at hd
      cases e:(qA9 n)[k]? with
      | none=>rw [e] at hd; cases hd
      | some q =>
        rw [e] at hd
        cases hd
        obtain ⟨h1,h2⟩:=qA1.mp e
        rw [qCp] at h2
        subst h2
        rw [qBt] at hp
        obtain ⟨r',g1,g2⟩:=zBQ (hs k (by simpa using h1) r hp)
        exact ⟨_,r',rfl,g1,by rw [qBt]; exact g2⟩
    exact ⟨r',h1,by simpa [nums] using h2⟩
  rw [h1]
  exact hK r' h2
theorem zQC {γ:Type} {j:Nat} {b:SM} {r:Ro} {X:Ro→Prop} (en:γ→Dt) (ns:List γ) (Pv:Nat→Ro→Prop) (h:Pv 0 r) (hs:∀ k x,ns[k]? = some x→∀ r,Pv k r→nxR (b (r.set j (some (en x,0)))) (Pv (k + 1))) (hK:∀ r',Pv ns.length r'→X r'):nxR (forGo (.one j) b (ns.map en) r) X:=by
  obtain ⟨r',h1,h2⟩:=zJ7 (tg:=.one j) (b:=b) Pv (ns.map en) 0 r h fun k d r hd hp=>by
    rw [qAd] at hd
    cases e:ns[k]? with
    | none=>rw [e] at hd; cases hd
    | some q =>
      rw [e] at hd
      cases hd
      rw [qBt] at hp
      obtain ⟨r',g1,g2⟩:=zBQ (hs k q e r hp)
      exact ⟨_,r',rfl,g1,by rw [qBt]; exact g2⟩
  rw [h1]
  exact hK r' (by simpa using h2)
theorem zNJ {c:TM} {b:SM} {r:Ro} {X:Ro→Prop} (Pv:Ro→Prop) (μ:Ro→Nat) (Rv:Ro→Prop) (h0:Pv r) (hm:μ r < 1000000) (hc:∀ r,Pv r→(c (full r) = okR false∧Rv r)∨(c (full r) = okR true∧nxR (b r) fun r'=>Pv r'∧μ r' < μ r)) (hK:∀ r',Rv r'→X r'):nxR (sWhile c b r) X:=by
  obtain ⟨r',h1,h2⟩:=zOL Pv μ Rv h0 hm fun r hr=>(hc r hr).imp (fun z=>z) fun z=>⟨z.1,zBQ z.2⟩
  rw [h1]
  exact hK r' h2
theorem zKQ:∀ (a b:List Char),a.map qHv = b.map qHv→a = b
  | [],[],_=>rfl
  | [],_ :: _,h=>by simp at h
  | _ :: _,[],h=>by simp at h
  | x :: r,y :: q,h=>by
    simp only [qAi,List.cons.injEq] at h
    rw [zKQ r q h.2]
    have:x = y:=Char.toNat_inj.mp h.1
    rw [this]
@[simp] theorem str_inj (a b:String):(Str.ofString a = Str.ofString b) ↔ a = b:=by
  constructor
  · intro h
    rw [Str.ofString_eq_toList,Str.ofString_eq_toList] at h
    simp only [Str.mk.injEq,List.toArray_inj] at h
    have:=zKQ _ _ (by simpa using h)
    exact String.toList_inj.mp this
  · intro h; rw [h]
theorem zNZ:∀ (ds:List Dt) (n i:Nat) (d:Dt),(enumD n ds)[i]? = some d→∃ e,ds[i]? = some e∧d = .tup [.int ((n + i:Nat):Int),e]
  | [],_,_,_,h=>by simp [enumD] at h
  | x :: r,n,0,d,h=>by simp [enumD] at h; exact ⟨x,by simp,by rw [← h]; rfl⟩
  | x :: r,n,i + 1,d,h=>by
    rw [enumD] at h
    obtain ⟨e,h1,h2⟩:=zNZ r (n + 1) i d (by simpa using h)
    exact ⟨e,by simpa using h1,by rw [h2,show n + 1 + i = n + (i + 1) by omega]⟩
theorem zJ9:∀ (ds:List Dt) (n:Nat),(enumD n ds).length = ds.length
  | [],_=>rfl
  | _ :: r,n=>by rw [enumD,qAu,qAu,zJ9 r]
theorem zMD {a b:Nat} {s:SM} {r:Ro} {X:Ro→Prop} (xs:List Dt) (Pv:Nat→Ro→Prop) (h:Pv 0 r) (hs:∀ k x,xs[k]? = some x→∀ r,Pv k r→nxR (s ((r.set a (some (.int (k:Nat),0))).set b (some (x,0)))) (Pv (k + 1))) (hK:∀ r',Pv xs.length r'→X r'):nxR (forGo (.tup [a,b]) s (enumD 0 xs) r) X:=by
  obtain ⟨r',h1,h2⟩:=zJ7 (tg:=.tup [a,b]) (b:=s) Pv (enumD 0 xs) 0 r h fun k d r hd hp=>by
    obtain ⟨e,g1,rfl⟩:=zNZ xs 0 k d hd
    rw [qBt] at hp
    obtain ⟨r',g2,g3⟩:=zBQ (hs k e g1 r hp)
    refine ⟨_,r',rfl,?_,by rw [qBt]; exact g3⟩
    rw [qBt]
    exact g2
  rw [h1]
  exact hK r' (by simpa [zJ9] using h2)
end Mi
namespace Mi
open PySem
section
variable (ρ:Rh) (a:EM) (am:AM) (lo hi:OM)
@[simp] theorem x_eSl:eSl a lo hi ρ = zA3 (a ρ) fun x=>zA3 (lo ρ) fun l=>zA3 (hi ρ) fun h=>optR (slD x l h):=rfl
@[simp] theorem x_oNo:oNo ρ = okR none:=rfl
@[simp] theorem x_oE:oE a ρ = zA3 (a ρ) fun d=>match d with | .int i=>okR (some i) | _=>none:=rfl
@[simp] theorem zRY (f:Dt→List Dt→Option Dt):eMt f a am ρ = zA3 (a ρ) fun x=>if zNT x = true then zA3 (am ρ) fun xs=>optR (f x xs) else none:=rfl
@[simp] theorem v_isStr (z:Str):zNT (.str z) = true:=rfl
end
@[simp] theorem v_slL (xs:List Dt) (l h:Option Int):slD (.lst xs) l h = some (.lst (cutA xs l h)):=rfl
@[simp] theorem v_slS (z:Str) (l h:Option Int):slD (.str z) l h = @ite _ (z.length≤100000) (qA4 _) (some (.str ⟨(cutA z.cps.toList l h).toArray⟩)) none:=rfl
@[simp] theorem zWH (z:Str) (i:Int):ixD (.str z) (.int i) = @ite _ (z.length≤100000) (qA4 _) ((itA z.cps.toList i).map fun c=>.str ⟨#[c]⟩) none:=rfl
@[simp] theorem v_lenSt (z:Str):lenD [.str z] = @ite _ (z.length≤100000) (qA4 _) (some (.int z.length)) none:=rfl
@[simp] theorem v_count1 (z:Str) (c:Nat):zYY (.str z) [.str ⟨#[c]⟩] = some (.int (z.cps.toList.count c:Nat)):=rfl
@[simp] theorem v_in1 (ng:Bool) (z:Str) (c:Nat):inD ng (.str ⟨#[c]⟩) (.str z) = some (.bl (if ng = true then !decide (c∈z.cps.toList) else decide (c∈z.cps.toList))):=rfl
@[simp] theorem v_find1 (z:Str) (c:Nat):findD (.str z) [.str ⟨#[c]⟩] = some (.int (match posC c z.cps.toList with | some i=>(i:Int) | none=>-1)):=rfl
theorem zLV (a b:Str):(a ++ b).cps.toList = a.cps.toList ++ b.cps.toList:=by
  show (Str.mk (a.cps ++ b.cps)).cps.toList = _
  simp
theorem zQI (z:Str):z.length = z.cps.toList.length:=by
  unfold Str.length
  simp
theorem zKW (l:List Nat):(Str.mk l.toArray).length = l.length:=by rw [zQI]
end Mi
namespace Mi
open PySem
end Mi
namespace Mp
open Mi PySem
theorem sg {i n:Nat} {vs:List Nat} {e:EM} {b:SM} {r:Ro} {d:Dt} {X:R Out} (he:e (full r) = okR d) (hd:d.dep≤n) (h:b (r.set i (some (d,n))) = X):sSeq (sSet i n vs e) b r = X:=by
  rw [zHM,zJS,he,zA0,if_pos hd,zA0]; exact h
theorem sp {c:TM} {a b:SM} {r:Ro} {X:R Out} (hc:c (full r) = okR false) (h:b r = X):sSeq (sIf c a sNil) b r = X:=by
  rw [zHM,zP9,hc,zA0,if_neg (by simp),zTC,zA0]; exact h
theorem st {c:TM} {a b:SM} {r r':Ro} {X:R Out} (hc:c (full r) = okR true) (ha:a r = okR (.nx r')) (h:b r' = X):sSeq (sIf c a sNil) b r = X:=by
  rw [zHM,zP9,hc,zA0,if_pos rfl,ha,zA0]; exact h
theorem su {is vs:List Nat} {e:EM} {b:SM} {r:Ro} {ds:List Dt} {X:R Out} (he:e (frz (frzAt vs r)) = okR (.tup ds)) (hl:ds.length = is.length) (h:b (zAZ (frzAt vs r) (is.zip ds)) = X):sSeq (sUnp is vs e) b r = X:=by
  rw [zHM]
  unfold sUnp
  rw [he,zA0,zAU,if_pos hl]
  exact h
theorem c2 {m:FM} {e1 e2:EM} {ρ:Rh} {d1 d2:Dt} {X:R Dt} (h1:e1 ρ = okR d1) (h2:e2 ρ = okR d2) (h:m [d1,d2] = X):eCall m (aCons e1 (aCons e2 aNil)) ρ = X:=by
  simp only [zGA,zB7,zCO,h1,h2,zA0]; exact h
theorem c1 {m:FM} {e1:EM} {ρ:Rh} {d1:Dt} {X:R Dt} (h1:e1 ρ = okR d1) (h:m [d1] = X):eCall m (aCons e1 aNil) ρ = X:=by
  simp only [zGA,zB7,zCO,h1,zA0]; exact h
theorem b2 {o:Dt→Dt→Option Dt} {e1 e2:EM} {ρ:Rh} {d1 d2 d:Dt} (h1:e1 ρ = okR d1) (h2:e2 ρ = okR d2) (h:o d1 d2 = some d):eB o e1 e2 ρ = okR d:=by
  rw [x_eB,h1,zA0,h2,zA0,h]; rfl
theorem bi1 {o:List Dt→Option Dt} {e1:EM} {ρ:Rh} {d1 d:Dt} (h1:e1 ρ = okR d1) (h:o [d1] = some d):eBi o (aCons e1 aNil) ρ = okR d:=by
  simp only [zUD,zB7,zCO,h1,zA0,h]; rfl
theorem el2 {e1 e2:EM} {ρ:Rh} {d1 d2:Dt} (h1:e1 ρ = okR d1) (h2:e2 ρ = okR d2):eLst (aCons e1 (aCons e2 aNil)) ρ = okR (.lst [d1,d2]):=by simp [h1,h2]
theorem tb1 {e:EM} {ρ:Rh} {k:Bool} (h:e ρ = okR (.bl k)):tB e ρ = okR k:=by rw [x_tB,h,zA0]
theorem tm1 {e:EM} {ρ:Rh} {k:Bool} (h:e ρ = okR (.bl k)):tM e ρ = okR k:=by rw [x_tM,h,zA0]
theorem tn1 {t:TM} {ρ:Rh} {k:Bool} (h:t ρ = okR k):tNo t ρ = okR (!k):=by rw [zZ6,h,zA0]
theorem to0 {t t':TM} {ρ:Rh} {k:Bool} (h:t ρ = okR false) (h':t' ρ = okR k):Mi.tOr t t' ρ = okR k:=by rw [zZ5,h,zA0,if_neg (by simp),h']
theorem ss {i n:Nat} {vs:List Nat} {e:EM} {r:Ro} {d:Dt} (he:e (full r) = okR d) (hd:d.dep≤n):sSet i n vs e r = okR (.nx (r.set i (some (d,n)))):=by
  rw [zJS,he,zA0,if_pos hd]
theorem sr {L n:Nat} {vs:List Nat} {e:EM} {r:Ro} {d:Dt} (he:e (full r) = okR d) (hd:d.dep≤n∧d.dep≤L):sRet L n vs e r = okR (.rt d):=by
  rw [zP8,he,zA0,if_pos hd]
theorem tl {k k':Bool} {x:Option Dt} (h:x = some (.bl k)) (e:k = k'):x = some (.bl k'):=e ▸ h
theorem sf {c:TM} {a:SM} {r:Ro} (hc:c (full r) = okR false):sIf c a sNil r = okR (.nx r):=by
  rw [zP9,hc,zA0,if_neg (by simp),zTC]
theorem et2 {e1 e2:EM} {ρ:Rh} {d1 d2:Dt} (h1:e1 ρ = okR d1) (h2:e2 ρ = okR d2):eTup (aCons e1 (aCons e2 aNil)) ρ = okR (.tup [d1,d2]):=by simp [h1,h2]
theorem mt1 {f:Dt→List Dt→Option Dt} {a e:EM} {ρ:Rh} {x y d:Dt} (h1:a ρ = okR x) (hs:zNT x = true) (h2:e ρ = okR y) (h:f x [y] = some d):eMt f a (aCons e aNil) ρ = okR d:=by
  rw [zRY,h1,zA0,if_pos hs,zB7,h2,zA0,zCO,zA0,zA0,h]; rfl
theorem eqi {e1 e2:EM} {ρ:Rh} {a b:Int} {k:Bool} (h1:e1 ρ = okR (.int a)) (h2:e2 ρ = okR (.int b)) (h:decide (a = b) = k):tB (eB eqD e1 e2) ρ = okR k:=by
  refine tb1 (b2 h1 h2 ?_)
  rw [← h]
  simp [Dt.eq]
  rfl
theorem nei {e1 e2:EM} {ρ:Rh} {a b:Int} {k:Bool} (h1:e1 ρ = okR (.int a)) (h2:e2 ρ = okR (.int b)) (h:(!decide (a = b)) = k):tB (eB neD e1 e2) ρ = okR k:=by
  refine tb1 (b2 h1 h2 ?_)
  rw [← h]
  simp [Dt.eq]
  rfl
theorem sx {c:TM} {a b:SM} {r:Ro} {d:Dt} (hc:c (full r) = okR true) (ha:a r = okR (.rt d)):sSeq (sIf c a sNil) b r = okR (.rt d):=by
  rw [zHM,zP9,hc,zA0,if_pos rfl,ha,zA0]
theorem mdi {i j k:Int} (h:0 < j) (e:i % j = k):modD (.int i) (.int j) = some (.int k):=by rw [← e]; exact if_pos h
theorem dvi {i j:Int} (h:0 < j∧j < 1000000000000000000000000):divD (.int i) (.int j) = some (.int (i / j)):=@if_pos _ (qA4 _) h _ _ _
theorem c3 {m:FM} {e1 e2 e3:EM} {ρ:Rh} {d1 d2 d3:Dt} {X:R Dt} (h1:e1 ρ = okR d1) (h2:e2 ρ = okR d2) (h3:e3 ρ = okR d3) (h:m [d1,d2,d3] = X):eCall m (aCons e1 (aCons e2 (aCons e3 aNil))) ρ = X:=by
  simp only [zGA,zB7,zCO,h1,h2,h3,zA0]; exact h
theorem ned {e1 e2:EM} {ρ:Rh} {x y:Dt} {b k:Bool} (h1:e1 ρ = okR x) (h2:e2 ρ = okR y) (d1:x.dep≤40) (d2:y.dep≤40) (h:Dt.eq x y = b) (hk:(!b) = k):tB (eB neD e1 e2) ρ = okR k:=by
  refine tb1 (b2 h1 h2 ?_)
  unfold neD
  rw [if_pos ⟨d1,d2⟩,h,hk]
theorem rt1 {e:EM} {d:Dt} {ρ:Ro} {vs:List Nat} (h1:e (full ρ) = okR d) (h2:e (frz (frzAt vs ρ)) = okR d):sRet 1 1 vs e ρ = okR (.rt d):=by
  rw [zP8,h1,zA0]
  by_cases z:d.dep≤1∧d.dep≤1
  · rw [if_pos z]
  · rw [if_neg z,if_pos rfl,h2,zA0]
theorem el0 {ρ:Rh}:eLst aNil ρ = okR (.lst []):=by simp
theorem sw {s t:SM} {r r':Ro} {X:R Out} (h:s r = okR (.nx r')) (h2:t r' = X):sSeq s t r = X:=by rw [zHM,h,zA0]; exact h2
theorem s2s {i n:Nat} {vs:List Nat} {e:EM} {r:Ro} {d:Dt} (h1:e (full r) = okR d) (h2:e (frz (frzAt vs r)) = okR d) (hr:frzAt vs r = r):sSet i n vs e r = okR (.nx (r.set i (some (d,n)))):=by
  rw [zJS,h1,zA0]
  by_cases z:d.dep≤n
  · rw [if_pos z]
  · rw [if_neg z,h2,zA0,hr]
theorem v1 {i:Nat} {ρ:Rh} {d:Dt} (h:ρ[i]? = some (some d)):eV i ρ = okR d:=by rw [x_eV,h]
theorem al0 {e:EM} {ρ:Rh} {d:Dt} (h:e ρ = okR d):aCons e aNil ρ = okR [d]:=by rw [zB7,h]; rfl
theorem adi {a b c:Int} (h:a + b = c):addD (.int a) (.int b) = some (.int c):=by rw [← h]; rfl
theorem k1 {d d':Dt} {ρ:Rh} (h:d = d'):eC d ρ = okR d':=by rw [← h]; rfl
theorem cmi {p:Int→Int→Bool} {a b:Int} {k:Bool} (h:p a b = k):cmpD p (.int a) (.int b) = some (.bl k):=by rw [← h]; rfl
noncomputable def rowD (r:List Int):Dt:=.lst (r.map .int)
def mat (A:List (List Int)):Dt:=.lst (A.map rowD)
@[simp] theorem zJD (r:List Int):(rowD r).dep = 1:=by simp [rowD]
@[simp] theorem lenR (r:List Int):lenD [rowD r] = some (.int r.length):=by
  show some (Dt.int ((r.map Dt.int).length:Int)) = _
  rw [qAj]
@[simp] theorem listR (r:List Int):listD [rowD r] = some (rowD r):=rfl
@[simp] theorem lenM (A:List (List Int)):lenD [mat A] = some (.int A.length):=by
  show some (Dt.int ((A.map rowD).length:Int)) = _
  rw [qAj]
theorem zNY:∀ A B:List (List Int),Dt.eqL (A.map rowD) (B.map rowD) = decide (A = B)
  | [],[]=>by simp [Dt.eqL]
  | [],_ :: _=>by simp [Dt.eqL]
  | _ :: _,[]=>by simp [Dt.eqL]
  | r :: A,q :: B=>by
    rw [qAi,qAi,Dt.eqL,zNY A B]
    unfold rowD
    rw [v_e4,zF2]
    simp
theorem zYN (A B:List (List Int)):Dt.eq (mat A) (mat B) = decide (A = B):=by
  unfold mat
  rw [v_e4,zNY]
theorem zYM (a b:List Int):Dt.eq (rowD a) (rowD b) = decide (a = b):=by
  unfold rowD
  rw [v_e4,zF2]
theorem zO8 {ρ:Rh} {e:EM} {it:IM} {i n:Nat} (g:Nat→Int) (hi:i = ρ.length) (hn:n≤1000) (h1:it ρ = okR (nums 0 n)) (h:∀ a,a < n→e (ρ ++ [some (.int (a:Nat))]) = okR (.int (g a))):eComp it 1 (.one i) tYes e ρ = okR (rowD ((qA9 n).map g)):=by
  rw [zHZ (fun b=>.int (g b)) n rfl hi (fun b hb=>h b hb) it h1 (by omega)]
  unfold rowD
  rw [qB3]
  rfl
theorem zRO (ns:List Int) (k:Int) (h0:0≤k) (h1:k < 100000):∃ c:Int,zAG [.scr ns,.int k] = okR (.int c):=by
  unfold zAG zE5
  have m1:mulD (.int 104729) (.int (k + 1)) = some (.int (104729 * (k + 1))):=zIT (by omega) (by omega)
  by_cases hk:k < ns.length
  · simp [hk,zVM h0 hk,m1,-zOE,zV5]
  · simp [hk,m1,-zOE,zV5]
noncomputable def cellv (ns:List Int) (k:Int):Int:=match zAG [.scr ns,.int k] with
  | some (.ok (.int c))=>c
  | _=>0
theorem zW4 (ns:List Int) (k:Int) (h0:0≤k) (h1:k < 100000):zAG [.scr ns,.int k] = okR (.int (cellv ns k)):=by
  obtain ⟨c,hc⟩:=zRO ns k h0 h1
  unfold cellv
  rw [hc]
  rfl
def Bit (x:Int):Prop:=x = 0∨x = 1
def RowN (n:Nat) (r:List Int):Prop:=r.length = n∧∀ x∈r,Bit x
theorem za4 (r:List Int) (i:Nat) (h:i < r.length):ixD (rowD r) (.int (i:Int)) = some (.int (r.getD i 0)):=by
  have:=zSW (ns:=r) (i:=(i:Int)) (by omega) (by omega)
  rw [qC4] at this
  exact this
theorem zYK {ds:List Dt} (h:∀ d∈ds,d.dep = 0):Dt.depL ds = 0:=by
  induction ds with
  | nil=>simp
  | cons a r ih=>rw [zI8,h a (by simp),ih fun d hd=>h d (by simp [hd])]; rfl
noncomputable def zZY (i:Nat) (r:Ro):Nat:=match r[i]? with
  | some (some (Dt.lst lf,_))=>lf.length
  | _=>0
noncomputable def numL (ks:List Nat):List Int:=ks.map fun k:Nat=>(k:Int)
theorem numD (ks:List Nat):rowD (numL ks) = .lst (ks.map fun k:Nat=>Dt.int (k:Int)):=by
  unfold rowD numL
  rw [qB3]
  rfl
theorem zH0 {ks:List Nat} {n a:Nat} (hk:∀ k∈ks,k < n) (ha:a < ks.length):ks.getD a 0 < n:=by
  refine hk _ ?_
  rw [qA0,qA3 ha]
  simp
noncomputable def sub (ks:List Nat) (f:Nat→Nat→Int):Nat→Nat→Int:=fun a b=>f (ks.getD a 0) (ks.getD b 0)
theorem zP5 {α:Type} (l:List α):allD [.lst (l.map fun _=>Dt.bl true)] = some (.bl true):=by
  have hall:∀ l:List α,boolsD (l.map fun _=>Dt.bl true) = some (l.map fun _=>true):=by
    intro l
    induction l with
    | nil=>rfl
    | cons a r ih=>simp [boolsD,ih]
  simp [allD,hall]
noncomputable def sgn (c:Nat):Dt:=.str ⟨#[c]⟩
theorem zNV (cs:List Nat):∀ d∈cs.map sgn,d.dep = 0:=by
  intro d hd
  obtain ⟨c,_,rfl⟩:=qAv.mp hd
  rfl
@[simp] theorem depL_sgn (cs:List Nat):Dt.depL (cs.map sgn) = 0:=zYK (zNV cs)
theorem zN3:∀ cs:List Nat,strsD (cs.map sgn) = some (cs.map fun c=>⟨#[c]⟩)
  | []=>rfl
  | c :: r=>by
    show (strsD (r.map sgn)).map _ = _
    rw [zN3 r]
    rfl
theorem zHA:(Str.ofString "").cps.toList = []:=by
  rw [Str.ofString_eq_toList]
  rfl
theorem zNR:∀ zs:List Str,(Str.join (Str.ofString "") zs).cps.toList = (zs.map (·.cps.toList)).flatten
  | []=>rfl
  | [x]=>by simp [Str.join]
  | x :: y :: r=>by
    rw [Str.join,zLV,zLV,zHA,zNR (y :: r)]
    · simp
    · simp
theorem zS4 (cs:List Nat):((cs.map fun c=>(⟨#[c]⟩:Str)).map (·.length)).sum = cs.length:=by
  induction cs with
  | nil=>rfl
  | cons c r ih=>simp only [qAi,List.sum_cons,ih,qAu]; show 1 + r.length = _; omega
theorem zQH:(Str.ofString "").length = 0:=by rw [zQI,zHA]; rfl
theorem zNQ (cs:List Nat) (hz:cs.length≤100000):joinD (.str (Str.ofString "")) [.lst (cs.map sgn)] = some (.str ⟨cs.toArray⟩):=by
  show (match strsD (cs.map sgn) with | some zs=>_ | none=>none) = _
  rw [zN3]
  dsimp only
  rw [if_pos (by rw [zS4,zQH]; omega)]
  congr 2
  have h:=zNR (cs.map fun c=>(⟨#[c]⟩:Str))
  have e:(List.map (·.cps.toList) (cs.map fun c=>(⟨#[c]⟩:Str))).flatten = cs:=by
    rw [qB3]
    clear h hz
    induction cs with
    | nil=>rfl
    | cons c r ih=>simpa using ih
  rw [e] at h
  generalize Str.join (Str.ofString "") (cs.map fun c=>(⟨#[c]⟩:Str)) = z at h ⊢
  obtain ⟨a⟩:=z
  simp at h
  rw [← h]
end Mp
namespace Mp
noncomputable def ords (row:List Nat):List Nat:=row.foldl (fun o p=>if p∈o then o else o ++ [p]) []
theorem zEU (row:List Nat) (p:Nat):ords (row ++ [p]) = if p∈ords row then ords row else ords row ++ [p]:=by
  unfold ords
  rw [qC5]
  rfl
theorem zE7 {α:Type} {P:List α→Prop} (h0:P []) (h1:∀ l a,P l→P (l ++ [a])):∀ l,P l:=by
  intro l
  have:∀ m:List α,P m.reverse:=by
    intro m
    induction m with
    | nil=>exact h0
    | cons a r ih=>rw [List.reverse_cons]; exact h1 _ _ ih
  have h:=this l.reverse
  rwa [List.reverse_reverse] at h
theorem ords_mem:∀ (row:List Nat) (x:Nat),x∈ords row ↔ x∈row:=by
  refine zE7 (fun x=>by simp [ords]) fun l a ih x=>?_
  rw [zEU]
  split
  · rename_i h
    rw [ih x,qB8,qBe]
    constructor
    · exact .inl
    · rintro (h' | rfl)
      · exact h'
      · exact (ih x).mp h
  · rw [qB8,qB8,ih x]
theorem ords_nodup:∀ row:List Nat,(ords row).Nodup:=by
  refine zE7 (by simp [ords]) fun l a ih=>?_
  rw [zEU]
  split
  · exact ih
  · rename_i h
    rw [qFw]
    exact ⟨ih,by simp,fun x hx y hy z=>h (by rw [qBe] at hy; rw [← hy,← z]; exact hx)⟩
theorem zHT:∀ row:List Nat,ords row = ((qA9 row.length).filter fun k=>decide (row.idxOf (row.getD k 0) = k)).map fun k=>row.getD k 0:=by
  refine zE7 (by simp [ords]) fun l a ih=>?_
  rw [zEU,ih,qAr,qDv,qBn,List.filter_append,qB0]
  have e1:∀ k,k < l.length→(l ++ [a]).getD k 0 = l.getD k 0:=fun k hk=>by
    rw [qA0,qA0,qA7 hk]
  have e2:(l ++ [a]).getD l.length 0 = a:=by
    rw [qA0,qA6 (qAa _)]; simp
  have e3:((qA9 l.length).filter fun k=>decide ((l ++ [a]).idxOf ((l ++ [a]).getD k 0) = k)) = (qA9 l.length).filter fun k=>decide (l.idxOf (l.getD k 0) = k):=by
    refine qFx fun k hk=>?_
    have hk':k < l.length:=by simpa using hk
    have hm:l.getD k 0∈l:=by rw [qA0,qA3 hk']; simp
    rw [e1 k hk',qDt,if_pos hm]
  have e4:(((qA9 l.length).filter fun k=>decide (l.idxOf (l.getD k 0) = k)).map fun k=>(l ++ [a]).getD k 0) = ((qA9 l.length).filter fun k=>decide (l.idxOf (l.getD k 0) = k)).map fun k=>l.getD k 0:=by
    refine qC7 fun k hk=>?_
    have:=(qD5.mp hk).1
    exact e1 k (by simpa using this)
  rw [e3,e4,← ih]
  by_cases h:a∈ords l
  · have ha:=(ords_mem l a).mp h
    rw [if_pos h,qDe]
    · simp
    · rw [e2,qDt,if_pos ha]
      have:=qAo ha
      simp
      omega
  · have ha:¬ a∈l:=fun z=>h ((ords_mem l a).mpr z)
    rw [if_neg h,qDf]
    · simp [e2]
    · rw [e2,qDt,if_neg ha]
      simp
noncomputable def puts (S:List (Nat × Int)) (N:List Int):List Int:=S.foldl (fun N p=>N.set p.1 p.2) N
theorem zPV {S S':List (Nat × Int)} (h:S.Perm S') (hd:∀ x∈S,∀ y∈S,x.1 = y.1→x.2 = y.2) (N:List Int):puts S N = puts S' N:=by
  unfold puts
  refine List.Perm.foldl_eq' h (fun x hx y hy z=>?_) N
  by_cases e:x.1 = y.1
  · rw [e,hd x hx y hy e,qG5]
  · rw [qHj _ _ e]
def inA (row:List Nat) (a:Nat):Nat:=4 * (ords row).idxOf (row.getD a 0) + 2 * (row.take a).count (row.getD a 0)
theorem zVR {l:List Nat} {x y:Nat} (hx:x∈l) (h:l.idxOf x = l.idxOf y):x = y:=by
  have h1:=qAo hx
  have e1:=qDg h1
  have h2:l.idxOf y < l.length:=by rw [← h]; exact h1
  have e2:=qDg h2
  rw [← e1,← e2]
  congr 1
theorem zO7 {row:List Nat} {a b:Nat} (hab:a < b) (hb:b < row.length) (h:row.getD a 0 = row.getD b 0):(row.take a).count (row.getD a 0) < (row.take b).count (row.getD b 0):=by
  have ha:a < row.length:=by omega
  have e:row.take b = row.take a ++ (row.drop a).take (b - a):=by
    rw [← List.take_add]
    congr 1
    omega
  rw [← h,e,qEl]
  have hd:(row.drop a).take (b - a) = row[a] :: (row.drop (a + 1)).take (b - a - 1):=by
    rw [qAx ha,show b - a = (b - a - 1) + 1 by omega,qFj]
    simp
  have hg:row.getD a 0 = row[a]:=by rw [qA0,qA3 ha]; rfl
  rw [hd,hg,qFe]
  omega
theorem zMK {row:List Nat} (h1:∀ a,a < row.length→(row.take a).count (row.getD a 0)≤1) {a b:Nat} (ha:a < row.length) (hb:b < row.length) (h:inA row a = inA row b):a = b:=by
  unfold inA at h
  have ca:=h1 a ha
  have cb:=h1 b hb
  have hi:(ords row).idxOf (row.getD a 0) = (ords row).idxOf (row.getD b 0):=by omega
  have hc:(row.take a).count (row.getD a 0) = (row.take b).count (row.getD b 0):=by omega
  have hm:row.getD a 0∈ords row:=(ords_mem row _).mpr (by rw [qA0,qA3 ha]; simp)
  have he:=zVR hm hi
  rcases qFu a b with z | z | z
  · have:=zO7 z hb he; omega
  · exact z
  · have:=zO7 z ha he.symm; omega
def tieP (row:List Nat) (a:Nat):List (Nat × Int):=[(inA row ((a + row.length - 1) % row.length) + 1,(inA row a:Int)),(inA row a,((inA row ((a + row.length - 1) % row.length) + 1:Nat):Int))]
theorem zPF {row:List Nat} (h1:∀ a,a < row.length→(row.take a).count (row.getD a 0)≤1) {a b:Nat} (ha:a < row.length) (hb:b < row.length):∀ x∈tieP row a,∀ y∈tieP row b,x.1 = y.1→x.2 = y.2:=by
  have hL:0 < row.length:=by omega
  have ma:=qBo (a + row.length - 1) hL
  have mb:=qBo (b + row.length - 1) hL
  have pinj:(a + row.length - 1) % row.length = (b + row.length - 1) % row.length→a = b:=fun h=>by
    by_cases za:a = 0
    · subst za
      rw [show 0 + row.length - 1 = row.length - 1 by omega,qB2 (show row.length - 1 < row.length by omega)] at h
      by_cases zb:b = 0
      · exact zb.symm
      · rw [show b + row.length - 1 = (b - 1) + row.length by omega,qCe,qB2 (by omega)] at h
        omega
    · rw [show a + row.length - 1 = (a - 1) + row.length by omega,qCe,qB2 (by omega)] at h
      by_cases zb:b = 0
      · subst zb
        rw [show 0 + row.length - 1 = row.length - 1 by omega,qB2 (show row.length - 1 < row.length by omega)] at h
        omega
      · rw [show b + row.length - 1 = (b - 1) + row.length by omega,qCe,qB2 (by omega)] at h
        omega
  have ev:∀ c,inA row c % 2 = 0:=fun c=>by unfold inA; omega
  intro x hx y hy hxy
  simp only [tieP,qAb,qAp,or_false] at hx hy
  have eva:=ev a
  have evb:=ev b
  have evpa:=ev ((a + row.length - 1) % row.length)
  have evpb:=ev ((b + row.length - 1) % row.length)
  rcases hx with rfl | rfl <;> rcases hy with rfl | rfl
  · have:=pinj (zMK h1 ma mb (by simpa using hxy))
    subst this; rfl
  · simp at hxy; omega
  · simp at hxy; omega
  · have:=zMK h1 ha hb (by simpa using hxy)
    subst this; rfl
end Mp
namespace Mp
open Mi PySem
theorem zBM {α:Type} [DecidableEq α]:∀ (l1 l2:List α),l1.Nodup→(∀ x∈l1,x∈l2)→l1.length≤l2.length
  | [],_,_,_=>by simp
  | a :: r,l2,h,hs=>by
    have ha:=hs a (by simp)
    rw [qBl] at h
    have:=zBM r (l2.erase a) h.2 fun x hx=>(qFf (fun z:x = a=>h.1 (by rw [← z]; exact hx))).mpr (hs x (by simp [hx]))
    rw [qEm ha] at this
    have:=qF1 ha
    simp
    omega
theorem zNU (ng:Bool) (i:Nat) (ks:List Nat):inD ng (.int (i:Int)) (rowD (numL ks)) = some (.bl (if ng = true then !decide (i∈ks) else decide (i∈ks))):=by
  show (hasD (.int (i:Int)) ((numL ks).map Dt.int)).map _ = _
  rw [hasD,if_pos ⟨rfl,zD3 _⟩]
  have:((numL ks).map Dt.int).any (fun y=>Dt.eq y (.int (i:Int))) = decide (i∈ks):=by
    unfold numL
    rw [qB3]
    induction ks with
    | nil=>rfl
    | cons k r ih =>
      rw [qAi,qCj,ih]
      by_cases h:i = k
      · subst h; simp
      · simp [h,show ¬ (k:Int) = (i:Int) by omega]
  show some (Dt.bl (if ng = true then !(((numL ks).map Dt.int).any fun y=>Dt.eq y (.int (i:Int))) else ((numL ks).map Dt.int).any fun y=>Dt.eq y (.int (i:Int)))) = _
  rw [this]
theorem zL0 {r:Ro} {i m l a:Nat} {xs:List Int} {v:Int} {e1 e2:EM} (h:r[i]? = some (some (rowD xs,l + 1))) (h2:e2 (full r) = okR (.int v)) (h1:e1 (full r) = okR (.int (a:Nat))) (ha:a < xs.length):sItem i m e1 e2 r = okR (.nx (r.set i (some (rowD (xs.set a v),l + 1)))):=by
  unfold sItem
  rw [h2,zA0,h]
  show zA3 (e1 (full r)) _ = _
  rw [h1,zA0]
  dsimp only
  rw [zTO (by omega) (by simp; omega)]
  dsimp only
  rw [if_pos ⟨qAs _,qAs _⟩,qC4]
  unfold rowD
  rw [qHm]
theorem zKY (ks:List Nat) (a:Nat) (h:a < ks.length):ixD (rowD (numL ks)) (.int (a:Int)) = some (.int (ks.getD a 0:Nat)):=by
  have i1:=za4 (numL ks) a (by simp [numL]; exact h)
  rw [show (numL ks).getD a 0 = ((ks.getD a 0:Nat):Int) by
    unfold numL
    simp [qA0,qA3 h]] at i1
  exact i1
theorem zS9 (n:Nat) (hn:n≤10000):repD (.lst [.int 0]) (.int (n:Int)) = some (rowD (qA8 n 0)):=by
  rw [zZA,if_pos (by simp; omega)]
  have:∀ m:Nat,(qA8 m [Dt.int 0]).flatten = qA8 m (Dt.int 0):=by
    intro m
    induction m with
    | zero=>rfl
    | succ m ih=>rw [qBg,qAy,ih]; rfl
  rw [qC4,this]
  unfold rowD
  rw [List.map_replicate]
def lawS (row:List Nat) (k:Nat):List (Nat × Int):=((qA9 k).map fun k=>tieP row ((k + 1) % row.length)).flatten
theorem zFY (S:List (Nat × Int)):∀ N:List Int,(puts S N).length = N.length:=by
  unfold puts
  induction S with
  | nil=>intro N; rfl
  | cons a r ih=>intro N; rw [qD9,ih,qEb]
theorem zKD {k L:Nat} (hk:k < L):((k + 1) % L + L - 1) % L = k:=by
  by_cases h:k + 1 = L
  · subst h
    rw [qHo,show 0 + (k + 1) - 1 = k by omega]
    exact qB2 (by omega)
  · rw [qB2 (show k + 1 < L by omega),show k + 1 + L - 1 = k + L by omega,qCe]
    exact qB2 hk
theorem zDE {ρ:Rh} {e:EM} {c:TM} {i j:Nat} (xs:List Dt) (g:Nat→Dt) (f:Nat→Bool) (hi:i = ρ.length) (hj:j = ρ.length + 1) (it:IM) (hit:it ρ = okR (enumD 0 xs)) (hn:xs.length≤100000) (hc:∀ k x,xs[k]? = some x→c (ρ ++ [some (.int (k:Nat)),some x]) = okR (f k)) (h:∀ k x,xs[k]? = some x→e (ρ ++ [some (.int (k:Nat)),some x]) = okR (g k)):eComp it 2 (.tup [i,j]) c e ρ = okR (.lst (((qA9 xs.length).filter f).map g)):=by
  subst hi hj
  unfold eComp
  rw [hit,zA0,if_pos ⟨by rw [zJ9]; exact hn,by simp [Tg.idx]⟩]
  have go:∀ (m k:Nat) (acc:List Dt),k + m = xs.length→compGo ρ 2 (.tup [ρ.length,ρ.length + 1]) c e (enumD k (xs.drop k)) acc = okR (acc ++ ((qGj k m).filter f).map g):=by
    intro m
    induction m with
    | zero =>
      intro k acc hk
      rw [List.drop_of_length_le (by omega)]
      simp [enumD,compGo]
    | succ m ih =>
      intro k acc hk
      have hx:xs[k]? = some xs[k]:=qA3 (by omega)
      rw [qAx (by omega),enumD,compGo]
      have es:zAS (ρ ++ qA8 2 none) [(ρ.length,.int (k:Nat)),(ρ.length + 1,xs[k])] = ρ ++ [some (.int (k:Nat)),some xs[k]]:=by
        simp [zAS]
      show zA3 (c (zAS (ρ ++ qA8 2 none) [(ρ.length,.int (k:Nat)),(ρ.length + 1,xs[k])])) _ = _
      rw [es,hc k _ hx,zA0,List.range'_succ]
      cases hf:f k with
      | true =>
        rw [if_pos rfl]
        show zA3 (e (zAS (ρ ++ qA8 2 none) [(ρ.length,.int (k:Nat)),(ρ.length + 1,xs[k])])) _ = _
        rw [es,h k _ hx,zA0,ih (k + 1) _ (by omega),qDf hf]
        simp
      | false =>
        rw [if_neg (by simp),ih (k + 1) _ (by omega),qDe (by simp [hf])]
  have:=go xs.length 0 [] (by omega)
  rw [qFh] at this
  rw [this,zA0,List.range_eq_range']
  simp
noncomputable def wrd (ls row:List Nat):List Nat:=row.map fun p=>ls.getD p 0
theorem zIM {c:Nat}:∀ {l:List Nat},c∈l→posC c l = some (l.idxOf c)
  | a :: r,h=>by
    show (if a = c then some 0 else (posC c r).map (· + 1)) = _
    by_cases z:a = c
    · subst z; simp
    · have:=zIM (l:=r) ((qAb.mp h).elim (fun y=>absurd y.symm z) fun y=>y)
      rw [if_neg z,this,qDh,show (a == c) = false by simpa using z]
      rfl
theorem zG6 {c:Nat} {cs:List Nat} (h:c∈cs):findD (.str ⟨cs.toArray⟩) [sgn c] = some (.int (cs.idxOf c:Nat)):=by
  show some (Dt.int (match posC c cs with | some i=>(i:Int) | none=>-1)) = _
  rw [zIM h]
theorem zNS {cs:List Nat} {k:Nat} (h:k < cs.length) (hz:cs.length≤1000):ixD (.str ⟨cs.toArray⟩) (.int (k:Int)) = some (sgn (cs.getD k 0)):=by
  show (@ite _ ((Str.mk cs.toArray).length≤100000) (qA4 _) ((itA cs (k:Int)).map fun c=>Dt.str ⟨#[c]⟩) none) = _
  rw [if_pos (by rw [zKW]; omega),zC7 (j:=k) (v:=cs.getD k 0) rfl (by rw [qA0,qA3 h]; rfl)]
  rfl
noncomputable def fsts (cs:List Nat):List Nat:=(qA9 cs.length).filter fun k=>decide (cs.idxOf (cs.getD k 0) = k)
theorem zD1 (cs:List Nat) (hz:cs.length≤1000):zAR [.str ⟨cs.toArray⟩] = okR (.str ⟨((fsts cs).map fun k=>cs.getD k 0).toArray⟩):=by
  have hc:eComp (iEnX (aCons (eV 0) aNil)) 2 (.tup [1,2]) (tB (eB eqD (eMt findD (eV 0) (aCons (eV 2) aNil)) (eV 1))) (eV 2) [some (.str ⟨cs.toArray⟩)] = okR (.lst (((fsts cs).map fun k=>cs.getD k 0).map sgn)):=by
    have:=zDE (ρ:=[some (.str ⟨cs.toArray⟩)]) (c:=tB (eB eqD (eMt findD (eV 0) (aCons (eV 2) aNil)) (eV 1))) (e:=eV 2) (i:=1) (j:=2) (cs.map sgn) (fun k=>sgn (cs.getD k 0)) (fun k=>decide (cs.idxOf (cs.getD k 0) = k)) rfl rfl (iEnX (aCons (eV 0) aNil)) (by simp [iEnX]; rfl) (by simp; omega) (fun k x hx=>by
      have hk:k < cs.length:=by have:=(qA1.mp hx).1; simpa using this
      have hx':x = sgn (cs.getD k 0):=by
        rw [qAd,qA3 hk] at hx
        cases hx
        simp [qA0,qA3 hk]
      subst hx'
      have hf:=zG6 (c:=cs.getD k 0) (cs:=cs) (by rw [qA0,qA3 hk]; simp)
      have hdd:decide (((cs.idxOf (cs.getD k 0):Nat):Int) = (k:Int)) = decide (cs.idxOf (cs.getD k 0) = k):=by
        by_cases h:cs.idxOf (cs.getD k 0) = k
        · rw [h]; simp
        · rw [decide_eq_false h,decide_eq_false (by omega)]
      have hf':eMt findD (eV 0) (aCons (eV 2) aNil) [some (.str ⟨cs.toArray⟩),some (.int (k:Nat)),some (sgn (cs.getD k 0))] = okR (.int (cs.idxOf (cs.getD k 0):Nat)):=by
        simp only [zRY,x_eV,zB7,zCO,qBd,qB4,zA0,hf,zA8]
        rfl
      generalize cs.idxOf (cs.getD k 0) = w at *
      show tB (eB eqD (eMt findD (eV 0) (aCons (eV 2) aNil)) (eV 1)) [some (.str ⟨cs.toArray⟩),some (.int (k:Nat)),some (sgn (cs.getD k 0))] = _
      simp only [x_tB,x_eB,hf',zA0,x_eV,qBd,qB4]
      simp [← hdd]) (fun k x hx=>by
      have hk:k < cs.length:=by have:=(qA1.mp hx).1; simpa using this
      have hx':x = sgn (cs.getD k 0):=by
        rw [qAd,qA3 hk] at hx
        cases hx
        simp [qA0,qA3 hk]
      subst hx'
      simp [-qA0])
    rw [this,qAj,qB3]
    rfl
  have hfl:(fsts cs).length≤cs.length:=qAq (qDy _ _) (by simp)
  have hj:=zNQ ((fsts cs).map fun k=>cs.getD k 0) (by simp; omega)
  unfold zAR zF8
  generalize ((fsts cs).map fun k=>cs.getD k 0) = out at *
  refine zBG rfl ?_
  simp [startO,hc,hj]
theorem zML {f:Nat→Nat} {x:Nat}:∀ {l:List Nat},(∀ y∈l,f y = f x→y = x)→(l.map f).idxOf (f x) = l.idxOf x
  | [],_=>rfl
  | a :: r,h=>by
    rw [qAi,qDh,qDh,zML (l:=r) fun y hy=>h y (by simp [hy])]
    by_cases z:a = x
    · subst z; simp
    · have hne:¬ f a = f x:=fun w=>z (h a (by simp) w)
      rw [show (f a == f x) = false by simpa using hne,show (a == x) = false by simpa using z]
def zP7 (ls row:List Nat):Prop:=∀ x∈row,∀ y∈row,ls.getD x 0 = ls.getD y 0→x = y
theorem zDI (ls row:List Nat):(wrd ls row).length = row.length:=by simp [wrd]
theorem zLS {ls row:List Nat} {k:Nat} (h:k < row.length):(wrd ls row).getD k 0 = ls.getD (row.getD k 0) 0:=by
  unfold wrd
  simp [qA0,qA3 h]
theorem zEP {row:List Nat} {k:Nat} (h:k < row.length):row.getD k 0∈row:=by
  rw [qA0,qA3 h]; simp
theorem zLR {ls row:List Nat} (ha:zP7 ls row) {k:Nat} (h:k < row.length):(wrd ls row).idxOf ((wrd ls row).getD k 0) = row.idxOf (row.getD k 0):=by
  rw [zLS h]
  exact zML (f:=fun p=>ls.getD p 0) fun y hy e=>ha y hy _ (zEP h) e
theorem zGN {ls row:List Nat} (ha:zP7 ls row):((fsts (wrd ls row)).map fun k=>(wrd ls row).getD k 0) = wrd ls (ords row):=by
  have hf:fsts (wrd ls row) = (qA9 row.length).filter fun k=>decide (row.idxOf (row.getD k 0) = k):=by
    unfold fsts
    rw [zDI]
    refine qFx fun k hk=>?_
    rw [zLR ha (by simpa using hk)]
  rw [hf,zHT row]
  unfold wrd
  rw [qB3]
  refine qC7 fun k hk=>?_
  have hk':k < row.length:=by
    have:=(qD5.mp hk).1
    simpa using this
  exact zLS hk'
theorem zH3 {row:List Nat} {a:Nat} (h:a < row.length):row.idxOf (row.getD a 0) = a ↔ (row.take a).count (row.getD a 0) = 0:=by
  have hm:=zEP h
  have hlt:=qAo hm
  have e:row[row.idxOf (row.getD a 0)] = row.getD a 0:=qDg hlt
  rw [qFo]
  constructor
  · intro h1 h2
    have h3:=qAo h2
    have h4:row.idxOf (row.getD a 0) = (row.take a).idxOf (row.getD a 0):=by
      conv=>lhs; rw [← qCr a row]
      rw [qDt,if_pos]
      · rw [qCr]
      · rw [qCr]; exact h2
    rw [h1] at h4
    rw [qE1] at h3
    omega
  · intro h1
    have h2:row.idxOf (row.getD a 0)≤a:=by
      rcases qHp a (row.idxOf (row.getD a 0)) with z | z
      · have:=List.not_of_lt_findIdx (p:=(· == row.getD a 0)) (xs:=row) (i:=a) z
        rw [show row[a] = row.getD a 0 by rw [qA0,qA3 h]; rfl] at this
        simp at this
      · exact z
    rcases qHp (row.idxOf (row.getD a 0)) a with z | z
    · exfalso
      apply h1
      rw [List.mem_take_iff_getElem]
      exact ⟨row.idxOf (row.getD a 0),by omega,e⟩
    · omega
theorem zP1 {ls row:List Nat} (ha:zP7 ls row) (hz:row.length≤100) (hc:∀ a,a < row.length→(row.take a).count (row.getD a 0)≤1) {a:Nat} (h:a < row.length):zCE [.str ⟨(wrd ls row).toArray⟩,.int (a:Int)] = okR (.int (inA row a:Nat)):=by
  have hwl:=zDI ls row
  have ho:=zD1 (wrd ls row) (by omega)
  rw [zGN ha] at ho
  have hi:=zNS (cs:=wrd ls row) (k:=a) (by omega) (by omega)
  have hwm:(wrd ls row).getD a 0∈wrd ls row:=zEP (by omega)
  have hom:row.getD a 0∈ords row:=(ords_mem row _).mpr (zEP h)
  have hg:=zLS (ls:=ls) h
  have hwo:(wrd ls row).getD a 0∈wrd ls (ords row):=by rw [hg]; exact qAv.mpr ⟨_,hom,rfl⟩
  have f1:=zG6 hwo
  have f2:=zG6 hwm
  have e1:(wrd ls (ords row)).idxOf ((wrd ls row).getD a 0) = (ords row).idxOf (row.getD a 0):=by
    rw [hg]
    exact zML (f:=fun p=>ls.getD p 0) fun y hy e=>ha y ((ords_mem row y).mp hy) _ (zEP h) e
  have e2:=zLR ha h
  rw [e1] at f1
  rw [e2] at f2
  have hil:(ords row).idxOf (row.getD a 0)≤100:=by
    have h1:=qAo hom
    have h2:=zBM (ords row) row (ords_nodup _) fun y hy=>(ords_mem _ y).mp hy
    omega
  have hA:inA row a = 4 * (ords row).idxOf (row.getD a 0) + 2 * (row.take a).count (row.getD a 0):=rfl
  have hfc:=zH3 h
  have hca:=hc a h
  generalize (wrd ls row).getD a 0 = ch at *
  generalize row.getD a 0 = x at *
  generalize (row.take a).count x = cn at *
  generalize (ords row).idxOf x = ix at *
  generalize row.idxOf x = fx at *
  have m1:mulD (.int (ix:Int)) (.int 4) = some (.int ((ix:Int) * 4)):=zIT (by omega) (by omega)
  unfold zCE zI2
  refine zBG rfl (zB5 fun bb hb=>?_)
  refine zAL (r:=[some (.str ⟨(wrd ls row).toArray⟩,0),some (.int (a:Int),0),some (.int (ix:Nat),0)]) ?_ ?_
  · have e:eMt findD (eCall zAR (aCons (eV 0) aNil)) (aCons (eB ixD (eV 0) (eV 1)) aNil) [some (.str ⟨(wrd ls row).toArray⟩),some (.int (a:Int)),none] = okR (.int (ix:Nat)):=by
      simp only [zRY,zGA,x_eV,x_eB,zB7,zCO,qBd,qB4,zA0,ho,hi,f1,zA8]
      rfl
    show sSet 2 0 [0,1] _ [some (.str ⟨(wrd ls row).toArray⟩,0),some (.int (a:Int),0),none] = _
    rw [zJS]
    show zA3 (eMt findD (eCall zAR (aCons (eV 0) aNil)) (aCons (eB ixD (eV 0) (eV 1)) aNil) [some (.str ⟨(wrd ls row).toArray⟩),some (.int (a:Int)),none]) _ = _
    rw [e,zA0]
    rfl
  subst hb
  have e:eMt findD (eV 0) (aCons (eB ixD (eV 0) (eV 1)) aNil) [some (.str ⟨(wrd ls row).toArray⟩),some (.int (a:Int)),some (.int (ix:Nat))] = okR (.int (fx:Nat)):=by
    simp only [zRY,x_eV,x_eB,zB7,zCO,qBd,qB4,zA0,hi,f2,zA8]
    rfl
  have e3:eB addD (eB mulD (eV 2) (eC (.int 4))) (eIf (tB (eB eqD (eMt findD (eV 0) (aCons (eB ixD (eV 0) (eV 1)) aNil)) (eV 1))) (eC (.int 0)) (eC (.int 2))) [some (.str ⟨(wrd ls row).toArray⟩),some (.int (a:Int)),some (.int (ix:Nat))] = okR (.int (inA row a:Nat)):=by
    simp only [x_eB,zZ7,x_tB,e,x_eV,x_eC,qBd,qB4,zA0,m1,zA8]
    by_cases hf:fx = a
    · have:cn = 0:=hfc.mp hf
      subst hf
      simp
      omega
    · have:cn = 1:=by
        have:¬ cn = 0:=fun z=>hf (hfc.mpr z)
        omega
      simp [show ¬ (fx:Int) = (a:Int) by omega]
      omega
  show sRet 1 1 [2,1,0] _ [some (.str ⟨(wrd ls row).toArray⟩,0),some (.int (a:Int),0),some (.int (ix:Nat),0)] = _
  unfold sRet
  show zA3 (eB addD _ _ [some (.str ⟨(wrd ls row).toArray⟩),some (.int (a:Int)),some (.int (ix:Nat))]) _ = _
  rw [e3,zA0]
  rfl
def proS (row:List Nat) (k:Nat):List (Nat × Int):=((qA9 k).map (tieP row)).flatten
theorem zQ0 {α:Type} {l l':List (List α)} (h:l.Perm l'):l.flatten.Perm l'.flatten:=by
  induction h with
  | nil=>exact qEj _
  | cons x _ ih=>rw [qAy,qAy]; exact ih.append_left x
  | swap x y l =>
    rw [qAy,qAy,qAy,qAy,← qBh,← qBh]
    exact qFc.append_right _
  | trans _ _ ih1 ih2=>exact ih1.trans ih2
theorem zSJ (L:Nat):((qA9 L).map fun k=>(k + 1) % L).Perm (qA9 L):=by
  cases L with
  | zero=>exact qEj _
  | succ m =>
    have e:(qA9 (m + 1)).map (fun k=>(k + 1) % (m + 1)) = (qA9 m).map (· + 1) ++ [0]:=by
      rw [qBn,qB0]
      congr 1
      · refine qC7 fun k hk=>?_
        have:k < m:=by simpa using hk
        exact qB2 (by omega)
      · simp
    rw [e,qDm]
    exact qFc
theorem zVD {row:List Nat} (h1:∀ a,a < row.length→(row.take a).count (row.getD a 0)≤1) (N:List Int):puts (lawS row row.length) N = puts (proS row row.length) N:=by
  refine zPV ?_ (fun x hx y hy=>?_) N
  · unfold lawS proS
    refine zQ0 ?_
    have:=(zSJ row.length).map (tieP row)
    rw [qB3] at this
    exact this
  · obtain ⟨l,hl,hx⟩:=qCl.mp hx
    obtain ⟨k,hk,rfl⟩:=qAv.mp hl
    obtain ⟨l,hl,hy⟩:=qCl.mp hy
    obtain ⟨j,hj,rfl⟩:=qAv.mp hl
    have hL:0 < row.length:=qCo (qAs k) (by simpa using hk)
    exact zPF h1 (qBo _ hL) (qBo _ hL) x hx y hy
theorem zCS {cs:List Nat} (h:cs.length≤1000):lenD [.str ⟨cs.toArray⟩] = some (.int (cs.length:Int)):=by
  have:=zKW cs
  simp [lenD,this]
  try omega
theorem zSN {ls row:List Nat} (ha:zP7 ls row) (h0:0 < row.length) (hz:row.length≤100) (hc:∀ a,a < row.length→(row.take a).count (row.getD a 0)≤1) (hpos:∀ a,a < row.length→inA row a + 1 < 2 * row.length) (h8:(ords row).length≤8):zBY [.str ⟨(wrd ls row).toArray⟩] = okR (rowD (puts (lawS row row.length) (qA8 (2 * row.length) 0))):=by
  rw [zVD hc]
  have hwl:=zDI ls row
  have hlen:lenD [.str ⟨(wrd ls row).toArray⟩] = some (.int (row.length:Int)):=by
    rw [zCS (by omega),hwl]
  have ho:=zD1 (wrd ls row) (by omega)
  rw [zGN ha] at ho
  have hlo:lenD [.str ⟨(wrd ls (ords row)).toArray⟩] = some (.int ((ords row).length:Int)):=by
    rw [zCS (by rw [zDI]; omega),zDI]
  have hen:∀ o1 o2 o3 o4 o5:Option Dt,eComp (iR1 (aCons (eBi lenD (aCons (eV 0) aNil)) aNil)) 1 (.one 6) Mi.tYes (eCallN zCE (aCons (eV 0) (aCons (eV 6) aNil))) [some (.str ⟨(wrd ls row).toArray⟩),o1,o2,o3,o4,o5] = okR (rowD (numL ((qA9 row.length).map (inA row)))):=by
    intro o1 o2 o3 o4 o5
    have:=zO8 (ρ:=[some (.str ⟨(wrd ls row).toArray⟩),o1,o2,o3,o4,o5]) (e:=eCallN zCE (aCons (eV 0) (aCons (eV 6) aNil))) (it:=iR1 (aCons (eBi lenD (aCons (eV 0) aNil)) aNil)) (i:=6) (n:=row.length) (fun k=>((inA row k:Nat):Int)) rfl (by omega) (zI4 (by simp [hlen]) (by omega)) fun a h=>by
        have e:=zP1 ha hz hc h
        simp [e]
    rw [this]
    unfold numL
    rw [qB3]
    rfl
  have hrz:=zS9 (2 * row.length) (by omega)
  have m3:mulD (.int 2) (.int (row.length:Int)) = some (.int ((2 * row.length:Nat):Int)):=by
    rw [zIT (by omega) (by omega)]
    congr 2
  unfold zBY zJI
  refine zBG rfl (zB5 fun bb hb=>?_)
  refine zAL (r:=[some (.str ⟨(wrd ls row).toArray⟩,0),none,none,none,none,none]) (by simp [startO,ho,hlo]; omega) ?_
  subst hb
  refine zB5 fun bb hb=>?_
  refine zAL (r:=[some (.str ⟨(wrd ls row).toArray⟩,0),some (rowD (numL ((qA9 row.length).map (inA row))),2),none,none,none,none]) (by simp [hen]) ?_
  subst hb
  refine zB5 fun bb hb=>?_
  refine zAL (r:=[some (.str ⟨(wrd ls row).toArray⟩,0),some (rowD (numL ((qA9 row.length).map (inA row))),2),some (rowD (puts (proS row 0) (qA8 (2 * row.length) 0)),1),none,none,none]) ?_ ?_
  · simp only [zJS,zE6,zFB,qEc,qFd,x_eB,x_eC,x_eV,zWE,zB7,zCO,zUD,zA0,qB4,hlen,zA8,m3,hrz]
    rw [if_pos (by simp)]
    simp only [zA0,hrz,zA8]
    rw [if_pos (by rw [zJD]; exact qAa _)]
    rfl
  subst hb
  refine zB5 fun bb hb=>?_
  unfold sFor
  rw [show iEn (aCons (eV 1) aNil) (frz (frzAt [1] [some (.str ⟨(wrd ls row).toArray⟩,0),some (rowD (numL ((qA9 row.length).map (inA row))),2),some (rowD (puts (proS row 0) (qA8 (2 * row.length) 0)),1),none,none,none])) = okR (enumD 0 (((qA9 row.length).map (inA row)).map fun k:Nat=>Dt.int (k:Int))) by simp [numD],zA0]
  show nxR (forGo (.tup [3,4]) _ (enumD 0 (((qA9 row.length).map (inA row)).map fun k:Nat=>Dt.int (k:Int))) [some (.str ⟨(wrd ls row).toArray⟩,0),some (rowD (numL ((qA9 row.length).map (inA row))),0),some (rowD (puts (proS row 0) (qA8 (2 * row.length) 0)),1),none,none,none]) _
  refine zMD _ (fun k r=>∃ o3 o4 o5,r = [some (.str ⟨(wrd ls row).toArray⟩,0),some (rowD (numL ((qA9 row.length).map (inA row))),0),some (rowD (puts (proS row k) (qA8 (2 * row.length) 0)),1),o3,o4,o5]) ⟨none,none,none,rfl⟩ (fun k x hx r hr=>?_) fun r hr=>?_
  · obtain ⟨o3,o4,o5,rfl⟩:=hr
    have hk:k < row.length:=by have:=(qA1.mp hx).1; simpa using this
    have hx':x = .int (inA row k:Nat):=by
      rw [qAd,qAd,qD3 hk] at hx
      cases hx
      rfl
    subst hx'
    have hn:=qBo (k + row.length - 1) h0
    have hix:ixD (rowD (numL ((qA9 row.length).map (inA row)))) (.int ((k:Int) - 1)) = some (.int (inA row ((k + row.length - 1) % row.length):Nat)):=by
      have hg:((qA9 row.length).map (inA row)).getD ((k + row.length - 1) % row.length) 0 = inA row ((k + row.length - 1) % row.length):=by simp [qA0,hn]
      by_cases z:k = 0
      · subst z
        have hm:(0 + row.length - 1) % row.length = row.length - 1:=by rw [show 0 + row.length - 1 = row.length - 1 by omega]; exact qB2 (by omega)
        rw [hm]
        have hq:ixA ((numL ((qA9 row.length).map (inA row))).map Dt.int).length (((0:Nat):Int) - 1) = some (row.length - 1):=by
          have hl:((numL ((qA9 row.length).map (inA row))).map Dt.int).length = row.length:=by simp [numL]
          rw [hl]
          unfold ixA
          simp
          omega
        show itA ((numL ((qA9 row.length).map (inA row))).map Dt.int) (((0:Nat):Int) - 1) = _
        unfold itA
        rw [hq]
        simp [numL,show row.length - 1 < row.length by omega]
      · have:=zKY ((qA9 row.length).map (inA row)) (k - 1) (by simp; omega)
        rw [show ((k - 1:Nat):Int) = (k:Int) - 1 by omega] at this
        rw [this,show (k + row.length - 1) % row.length = k - 1 by rw [show k + row.length - 1 = (k - 1) + row.length by omega,qCe]; exact qB2 (by omega)]
        simp [qA0,show k - 1 < row.length by omega]
    have hp1:=hpos _ hn
    have hp2:=hpos _ hk
    generalize hw:inA row ((k + row.length - 1) % row.length) = w at *
    refine zCG fun b2 hb2=>?_
    refine zAL (r:=[some (.str ⟨(wrd ls row).toArray⟩,0),some (rowD (numL ((qA9 row.length).map (inA row))),0),some (rowD (puts (proS row k) (qA8 (2 * row.length) 0)),1),some (.int (k:Nat),0),some (.int (inA row k:Nat),0),some (.int ((w + 1:Nat):Int),1)]) ?_ ?_
    · simp [hix]
    subst hb2
    refine zCG fun b2 hb2=>?_
    refine zAL (zL0 (l:=0) (a:=w + 1) (v:=(inA row k:Nat)) rfl (by simp) (by simp) (by rw [zFY,qCa]; exact hp1)) ?_
    subst hb2
    refine zAL (zL0 (l:=0) (a:=inA row k) (v:=((w + 1:Nat):Int)) rfl (by simp) (by simp) (by rw [qEb,zFY,qCa]; omega)) ⟨some (.int (k:Nat),0),some (.int (inA row k:Nat),0),some (.int ((w + 1:Nat):Int),1),?_⟩
    have hS:puts (proS row (k + 1)) (qA8 (2 * row.length) 0) = ((puts (proS row k) (qA8 (2 * row.length) 0)).set (w + 1) (inA row k:Nat)).set (inA row k) ((w + 1:Nat):Int):=by
      unfold proS
      rw [qBn,qB0,qEd]
      unfold puts
      rw [qC5]
      unfold tieP
      simp only [qAi,qG3,qAy,List.flatten_nil,qD8,qD9,List.foldl_nil,hw]
    rw [hS]
    rfl
  · obtain ⟨o3,o4,o5,rfl⟩:=hr
    subst hb
    simp only [qAj,qDr]
    simp [sRetV]
structure Twice (n:Nat) (row:List Nat):Prop where
  len:row.length = 2 * n
  cnt:∀ v,row.count v = if v < n then 2 else 0
section
variable {n:Nat} {row:List Nat} (t:Twice n row)
include t
theorem Twice.mem (v:Nat):v∈row ↔ v < n:=by
  rw [← List.count_pos_iff,t.cnt v]
  split <;> omega
theorem Twice.le1 {a:Nat} (h:a < row.length):(row.take a).count (row.getD a 0)≤1:=by
  have h1:=t.cnt (row.getD a 0)
  have hg:row.getD a 0 = row[a]:=by rw [qA0,qA3 h]; rfl
  have h2:row.count (row.getD a 0) = (row.take a).count (row.getD a 0) + (row.drop a).count (row.getD a 0):=by
    rw [← qEl,qCr]
  rw [qAx h,hg,qFe] at h2
  rw [hg] at h1 ⊢
  split at h1 <;> omega
theorem Twice.ords:(ords row).length = n:=by
  have h1:=zBM (Mp.ords row) (qA9 n) (ords_nodup row) fun x hx=>by
    have:=(t.mem x).mp ((ords_mem row x).mp hx)
    simpa using this
  have h2:=zBM (qA9 n) (Mp.ords row) qE6 fun x hx=>(ords_mem row x).mpr ((t.mem x).mpr (by simpa using hx))
  simp at h1 h2
  omega
theorem Twice.pos {a:Nat} (h:a < row.length):inA row a + 1 < 2 * row.length:=by
  have h1:=t.le1 h
  have h2:=qAo ((ords_mem row _).mpr (zEP h))
  have h3:=t.ords
  have h4:=t.len
  unfold inA
  omega
end
end Mp
namespace Mp
open Mi PySem
noncomputable def addB:List Int→List Int→List Int
  | a :: r,b :: s=>(a + b) % 2 :: addB r s
  | _,_=>[]
noncomputable def dot:List Int→List Int→Int
  | a :: r,b :: x=>a * b + dot r x
  | _,_=>0
def Ker (A:List (List Int)) (x:List Int):Prop:=∀ r∈A,dot r x % 2 = 0
noncomputable def ent (A:List (List Int)) (i k:Nat):Int:=(A.getD i []).getD k 0
theorem zJ6 {α:Type} {l:List α} {d:α} {i:Nat} (h:i < l.length):l.getD i d∈l:=by
  rw [qA0,qA3 h]; simp
def oth (A:List (List Int)) (c:Nat) (lead:List Int):List (List Int):=A.map fun r=>if r.getD c 0 = 1 then addB r lead else r
section
variable {A:List (List Int)} {c t m:Nat} (hm:∀ r∈A,RowN m r) (ht:t < A.length) (hc:c≤t) (hl:ent A t c = 1) (hcm:c < m)
include hm ht in
include hm ht hc in
include ht hc in
include hm ht hc in
end
def zaA (A:List (List Int)) (c:Nat):Prop:=∀ i k,i < A.length→k < c→ent A i k = if i = k then 1 else 0
structure Rk (n:Nat) (T A:List (List Int)) (p q:Nat):Prop where
  rows:∀ r∈A,RowN n r
  zero:∀ r∈A,∀ k,k < p→r.getD k 0 = 0
  le:q≤p
  all:q = p→∀ x,RowN n x→Ker T x→Ker A x∧((∀ j,p≤j→x.getD j 0 = 0)→∀ j,x.getD j 0 = 0)
  some:q < p→∃ x,RowN n x∧Ker T x∧∃ j,j < n∧x.getD j 0 = 1
  lift:∀ x,RowN n x→Ker A x→∃ y,RowN n y∧Ker T y∧∀ j,p≤j→y.getD j 0 = x.getD j 0
end Mp
namespace Mp
open Mi PySem
theorem zPN {r:Ro} {i n:Nat} {vs:List Nat} {e:EM} {d:Dt} {P:Ro→Prop} (h1:e (full r) = okR d) (h2:e (frz (frzAt vs r)) = okR d) (p1:P (r.set i (some (d,n)))) (p2:P ((frzAt vs r).set i (some (d,n)))):nxR (sSet i n vs e r) P:=by
  unfold sSet
  rw [h1,zA0]
  split
  · exact p1
  · rw [h2,zA0]; exact p2
theorem zDD {ρ:Rh} {c:TM} {e:EM} {i:Nat} {β:Type} (en:β→Dt) (g:β→Dt) (f:β→Bool) (ns:List β) (hi:i = ρ.length) (hc:∀ k,k∈ns→c (ρ ++ [some (en k)]) = okR (f k)) (h:∀ k,k∈ns→f k = true→e (ρ ++ [some (en k)]) = okR (g k)) (it:IM) (hit:it ρ = okR (ns.map en)) (hn:ns.length≤100000):eComp it 1 (.one i) c e ρ = okR (.lst ((ns.filter f).map g)):=by
  subst hi
  unfold eComp
  rw [hit,zA0,if_pos ⟨by simpa using hn,by simp [Tg.idx]⟩]
  have go:∀ (l:List β) (acc:List Dt),(∀ k∈l,k∈ns)→compGo ρ 1 (.one ρ.length) c e (l.map en) acc = okR (acc ++ (l.filter f).map g):=by
    intro l
    induction l with
    | nil=>intro acc _; simp [compGo]
    | cons a r ih =>
      intro acc hl
      have h1:=hc a (hl a (by simp))
      have h2:=h a (hl a (by simp))
      have ih':=fun acc=>ih acc fun k hk=>hl k (by simp [hk])
      have es:zAS (ρ ++ qA8 1 none) [(ρ.length,en a)] = ρ ++ [some (en a)]:=by
        simp [zAS]
      rw [qAi,compGo]
      show zA3 (c (zAS (ρ ++ qA8 1 none) [(ρ.length,en a)])) _ = _
      rw [es,h1,zA0]
      cases hf:f a with
      | true =>
        rw [if_pos rfl]
        rw [h2 hf,zA0,ih',qDf hf]
        simp
      | false =>
        rw [if_neg (by simp),ih',qDe (by simp [hf])]
  rw [go _ _ fun k hk=>hk,zA0]
  simp
noncomputable def zZC (n i:Nat):List Int:=(qA9 n).map fun j=>if j = i then 1 else 0
def aug (n:Nat) (T:List (List Int)):List (List Int):=(qA9 n).map fun i=>T.getD i [] ++ zZC n i
structure Un (n:Nat) (T A:List (List Int)) (c:Nat):Prop where
  len:A.length = n
  rows:∀ r∈A,RowN (n + n) r
  unit:zaA A c
  ker:∀ x,(∀ y∈x,Bit y)→(Ker A x ↔ Ker (aug n T) x)
theorem zPJ {z:Str} {l:List Nat} (h:z.cps.toList = l):z = ⟨l.toArray⟩:=by
  cases z with
  | mk a=>subst h; simp
theorem add_str {a b:List Nat} (h:a.length + b.length≤1000):addD (.str ⟨a.toArray⟩) (.str ⟨b.toArray⟩) = some (.str ⟨(a ++ b).toArray⟩):=by
  rw [zWI,if_pos (by rw [zKW,zKW]; omega)]
  congr 2
  exact zPJ (by rw [zLV])
theorem zEQ {α:Type}:∀ (l:List α) {i:Nat} (h:i < l.length),l.Perm (l[i] :: l.eraseIdx i)
  | a :: r,0,h=>by simp
  | a :: r,i + 1,h=>by
    have:=zEQ r (i:=i) (by simpa using h)
    simp only [qEz,qC0]
    exact (this.cons a).trans (qH0 _ _ _)
theorem zW9:(Str.ofString "abcdefghijklmnopqrstuvwxyz").cps.toList = (qA9 26).map (97 + ·):=by
  rw [Str.ofString_eq_toList]
  decide
end Mp
namespace Mp
def wr (cs:List Nat):List Nat:=cs.map fun c=>97 + (ords cs).idxOf c
end Mp
namespace Mp
open Mi PySem
theorem zW8:(Str.ofString "abcdefghijklmnopqrstuvwxyz") = ⟨((qA9 26).map (97 + ·)).toArray⟩:=zPJ zW9
theorem zVT {n k:Nat} (h:k < n):((qA9 n).map (97 + ·)).getD k 0 = 97 + k:=by
  rw [qA0,qAd,qD3 h]
  rfl
theorem zSQ {k:Nat} (h:k < 26):ixD (.str "abcdefghijklmnopqrstuvwxyz") (.int (k:Int)) = some (sgn (97 + k)):=by
  rw [zW8,zNS (by simpa using h) (by simp),zVT h]
noncomputable def ltr (q st i:Nat):Nat:=97 + (q + st * i) % 26
theorem zKR {α β:Type} (g:α→β):∀ (l:List α) (q:Nat),(l.eraseIdx q).map g = (l.map g).eraseIdx q
  | [],_=>rfl
  | _ :: _,0=>rfl
  | a :: r,q + 1=>by rw [qC0,qAi,qAi,qC0,zKR g r q]
theorem zRZ {j i:Nat} {e:EM} {r:Ro} {z u:Str} {l0 k q:Nat} {ds:List Dt} (hj:r[j]? = some (some (.str z,l0))) (hi:r[i]? = some (some (.lst ds,k + 1))) (he:e (full r) = okR (.int (q:Int))) (hd:ds[q]? = some (.str u)) (hij:i≠j) (h1:ds.length≤1000000) (h2:z.length + u.length≤100000):sAddPop j i e r = okR (.nx ((r.set i (some (.lst (ds.eraseIdx q),k + 1))).set j (some (.str (z ++ u),0)))):=by
  have hq:q < ds.length:=(qA1.mp hd).1
  unfold sAddPop
  rw [hj,hi]
  dsimp only
  rw [he,zA0]
  dsimp only
  rw [zTO (by omega) (by omega)]
  dsimp only
  rw [qC4,hd]
  dsimp only
  rw [if_pos ⟨hij,h1,h2⟩]
theorem zUC {i n:Nat} {e:EM} {r:Ro} {ds es:List Dt} {k:Nat} (h:r[i]? = some (some (.lst ds,k + 1))) (he:e (full r) = okR (.lst es)) (h1:ds.length + es.length≤100000) (h2:Dt.depL es≤n) (h3:Dt.depL es≤k):sExt i n e r = okR (.nx (r.set i (some (.lst (ds ++ es),k + 1)))):=by
  unfold sExt
  rw [h]
  dsimp only
  rw [he,zA0]
  dsimp only
  rw [if_pos ⟨h1,h2,h3⟩]
theorem zMH:∀ st,st∈[1,3,5,7,9,11,15,17,19,21,23,25]→∀ r,r < 26→∀ i,i < 10→∀ j,j < 10→(r + st * i) % 26 = (r + st * j) % 26→i = j:=by decide +kernel
theorem zMG {q st n:Nat} (hs:st∈[1,3,5,7,9,11,15,17,19,21,23,25]) (hn:n≤10):((qA9 n).map (ltr q st)).Nodup:=by
  rw [qHg,qDs]
  refine qEn (R:=(·≠·)) (fun {i j} hi hj hne e=>hne ?_) qE6
  have hi':=qCn.mp hi
  have hj':=qCn.mp hj
  have e':(q + st * i) % 26 = (q + st * j) % 26:=by unfold ltr at e; omega
  exact zMH st hs (q % 26) (qBo _ (by decide)) i (by omega) j (by omega) (by rw [qGl,qGl]; exact e')
theorem zLW (z:Int) (h0:0≤z) (h6:z < 12):∃ st:Nat,st∈[1,3,5,7,9,11,15,17,19,21,23,25]∧ixD (.lst [.int 1,.int 3,.int 5,.int 7,.int 9,.int 11,.int 15,.int 17,.int 19,.int 21,.int 23,.int 25]) (.int z) = some (.int (st:Int)):=by
  obtain ⟨n,rfl⟩:∃ n:Nat,z = (n:Int):=⟨z.toNat,by omega⟩
  have hn:n < 12:=by omega
  match n,hn with
  | 0,_=>exact ⟨1,by simp,by rw [zFC]; exact zC7 (j:=0) rfl rfl⟩
  | 1,_=>exact ⟨3,by simp,by rw [zFC]; exact zC7 (j:=1) rfl rfl⟩
  | 2,_=>exact ⟨5,by simp,by rw [zFC]; exact zC7 (j:=2) rfl rfl⟩
  | 3,_=>exact ⟨7,by simp,by rw [zFC]; exact zC7 (j:=3) rfl rfl⟩
  | 4,_=>exact ⟨9,by simp,by rw [zFC]; exact zC7 (j:=4) rfl rfl⟩
  | 5,_=>exact ⟨11,by simp,by rw [zFC]; exact zC7 (j:=5) rfl rfl⟩
  | 6,_=>exact ⟨15,by simp,by rw [zFC]; exact zC7 (j:=6) rfl rfl⟩
  | 7,_=>exact ⟨17,by simp,by rw [zFC]; exact zC7 (j:=7) rfl rfl⟩
  | 8,_=>exact ⟨19,by simp,by rw [zFC]; exact zC7 (j:=8) rfl rfl⟩
  | 9,_=>exact ⟨21,by simp,by rw [zFC]; exact zC7 (j:=9) rfl rfl⟩
  | 10,_=>exact ⟨23,by simp,by rw [zFC]; exact zC7 (j:=10) rfl rfl⟩
  | 11,_=>exact ⟨25,by simp,by rw [zFC]; exact zC7 (j:=11) rfl rfl⟩
theorem zOD (ns:List Int) (k:Nat) (h1:k < 1000):∃ cs ls:List Nat,zCY [.scr ns,.int (k:Int),.int 10] = okR (.str ⟨cs.toArray⟩)∧cs.Perm (ls ++ ls)∧ls.Nodup∧1≤ls.length∧ls.length≤10∧∀ c∈ls,97≤c∧c < 123:=by
  have e0:(Str.ofString "") = ⟨([]:List Nat).toArray⟩:=zPJ zHA
  have c0:=zW4 ns (k:Int) (by omega) (by omega)
  generalize cellv ns (k:Int) = c at c0
  obtain ⟨n,hn⟩:∃ n:Nat,1 + c % 10 = (n:Int):=⟨(1 + c % 10).toNat,by omega⟩
  have hn1:1≤n:=by omega
  have hn2:n≤10:=by omega
  obtain ⟨f,hf⟩:∃ f:Nat,c / 10 % 26 = (f:Int):=⟨(c / 10 % 26).toNat,by omega⟩
  obtain ⟨st,hst,ist⟩:=zLW (c / 260 % 12) (by omega) (by omega)
  have hst12:st < 26:=by simp at hst; omega
  have d1:modD (.int c) (.int 10) = some (.int (c % 10)):=by rw [zS0,if_pos (by omega)]
  have key:∃ cs:List Nat,zBZ [some (.scr ns,0),some (.int (k:Int),0),some (.int 10,0),none,none,none,none,none,none,none] = okR (.rt (.str ⟨cs.toArray⟩))∧cs.Perm ((qA9 n).map (ltr f st) ++ (qA9 n).map (ltr f st)):=by
    suffices h:∃ cs:List Nat,cs.Perm ((qA9 n).map (ltr f st) ++ (qA9 n).map (ltr f st))∧zBZ [some (.scr ns,0),some (.int (k:Int),0),some (.int 10,0),none,none,none,none,none,none,none] = okR (.rt (.str ⟨cs.toArray⟩)) from let ⟨cs,a,b⟩:=h; ⟨cs,b,a⟩
    have L1:nxR (forGo (.one 7) (sSeq (sSet 8 0 [4,7,5] (eB ixD (eC (.str "abcdefghijklmnopqrstuvwxyz")) (eB modD (eB addD (eV 4) (eB mulD (eV 7) (eV 5))) (eC (.int 26))))) (sExt 6 0 (eLst (aCons (eV 8) (aCons (eV 8) aNil))))) (nums 0 n) [some (.scr ns,0),some (.int (k:Int),0),some (.int 10,0),some (.int (n:Int),1),some (.int (f:Int),0),some (.int (st:Int),0),some (.lst [],9),none,none,none]) (fun r=>∃ (o7 o8:Option Sl) (ps:List Nat),r = [some (.scr ns,0),some (.int (k:Int),0),some (.int 10,0),some (.int (n:Int),1),some (.int (f:Int),0),some (.int (st:Int),0),some (.lst (ps.map sgn),9),o7,o8,none]∧ps.Perm ((qA9 n).map (ltr f st) ++ (qA9 n).map (ltr f st))):=by
      refine zOR (fun i r=>∃ (o7 o8:Option Sl) (ps:List Nat),r = [some (.scr ns,0),some (.int (k:Int),0),some (.int 10,0),some (.int (n:Int),1),some (.int (f:Int),0),some (.int (st:Int),0),some (.lst (ps.map sgn),9),o7,o8,none]∧ps.Perm ((qA9 i).map (ltr f st) ++ (qA9 i).map (ltr f st))) ⟨none,none,[],rfl,by simp⟩ (fun i hi r hr=>?_) fun r h=>h
      obtain ⟨o7,o8,ps,rfl,hps⟩:=hr
      have hpl:=hps.length_eq
      simp at hpl
      generalize hx:ltr f st i = x
      have m1:mulD (.int (i:Int)) (.int (st:Int)) = some (.int ((i:Int) * (st:Int))):=zIT (by omega) (by omega)
      have ilt:ixD (.str "abcdefghijklmnopqrstuvwxyz") (.int (((f:Int) + (i:Int) * (st:Int)) % 26)) = some (sgn x):=by
        have:((f:Int) + (i:Int) * (st:Int)) % 26 = (((f + st * i) % 26:Nat):Int):=by
          push_cast
          rw [Int.mul_comm]
        rw [this,zSQ (qBo _ (by decide)),← hx]
        rfl
      refine zCG fun bb hb=>?_
      refine zAL (r:=[some (.scr ns,0),some (.int (k:Int),0),some (.int 10,0),some (.int (n:Int),1),some (.int (f:Int),0),some (.int (st:Int),0),some (.lst (ps.map sgn),9),some (.int (i:Nat),0),some (sgn x,0),none]) (by
        simp [m1,ilt,-zOE,-zWH]) ?_
      subst hb
      refine zAL (r:=[some (.scr ns,0),some (.int (k:Int),0),some (.int 10,0),some (.int (n:Int),1),some (.int (f:Int),0),some (.int (st:Int),0),some (.lst ((ps ++ [x,x]).map sgn),9),some (.int (i:Nat),0),some (sgn x,0),none]) (by
        rw [zUC (n:=0) (ds:=ps.map sgn) (es:=[sgn x,sgn x]) (k:=8) rfl (by simp) (by simp; omega) (qAa _) (qAs _)]
        simp) ⟨_,_,ps ++ [x,x],rfl,?_⟩
      rw [qBn,qB0]
      have hx':[i].map (ltr f st) = [x]:=by simp [hx]
      rw [hx']
      refine (List.Perm.append_right _ hps).trans ?_
      generalize (qA9 i).map (ltr f st) = l
      have e1:l ++ l ++ [x,x] = l ++ (l ++ [x,x]):=by simp
      have e2:l ++ [x] ++ (l ++ [x]) = l ++ ([x] ++ (l ++ [x])):=by simp
      rw [e1,e2]
      refine qDx _ ?_
      have e3:l ++ [x,x] = l ++ x :: [x]:=rfl
      rw [e3]
      refine List.perm_middle.trans ?_
      simp
    obtain ⟨r1,g1,o7,o8,ps,rfl,hps⟩:=zBQ L1
    have hpl:=hps.length_eq
    simp at hpl
    have L2:nxR (forGo (.one 7) (sAddPop 9 6 (eB modD (eCall zAG (aCons (eV 0) (aCons (eB addD (eB addD (eV 1) (eC (.int 1))) (eV 7)) aNil))) (eBi lenD (aCons (eV 6) aNil)))) (nums 0 (2 * n)) [some (.scr ns,0),some (.int (k:Int),0),some (.int 10,0),some (.int (n:Int),1),some (.int (f:Int),0),some (.int (st:Int),0),some (.lst (ps.map sgn),9),o7,o8,some (.str ⟨([]:List Nat).toArray⟩,0)]) (fun r=>∃ (o7:Option Sl) (qs ws:List Nat),r = [some (.scr ns,0),some (.int (k:Int),0),some (.int 10,0),some (.int (n:Int),1),some (.int (f:Int),0),some (.int (st:Int),0),some (.lst (qs.map sgn),9),o7,o8,some (.str ⟨ws.toArray⟩,0)]∧ws.Perm ps):=by
      refine zOR (fun i r=>∃ (o7:Option Sl) (qs ws:List Nat),r = [some (.scr ns,0),some (.int (k:Int),0),some (.int 10,0),some (.int (n:Int),1),some (.int (f:Int),0),some (.int (st:Int),0),some (.lst (qs.map sgn),9),o7,o8,some (.str ⟨ws.toArray⟩,0)]∧(ws ++ qs).Perm ps∧qs.length + i = 2 * n) ⟨o7,ps,[],rfl,by simp,by omega⟩ (fun i hi r hr=>?_) fun r hr=>?_
      · obtain ⟨o7,qs,ws,rfl,hw,hq⟩:=hr
        have hwl:=hw.length_eq
        simp at hwl
        have ci:=zW4 ns ((k:Int) + 1 + (i:Int)) (by omega) (by omega)
        generalize cellv ns ((k:Int) + 1 + (i:Int)) = ce at ci
        obtain ⟨q,hqe⟩:∃ q:Nat,ce % (qs.length:Int) = (q:Int):=⟨(ce % (qs.length:Int)).toNat,by have:=Int.emod_nonneg ce (show (qs.length:Int)≠0 by omega); omega⟩
        have hql:q < qs.length:=by have:=Int.emod_lt_of_pos ce (show (0:Int) < qs.length by omega); omega
        have dq:modD (.int ce) (.int (qs.length:Int)) = some (.int (q:Int)):=by rw [zS0,if_pos (by omega),hqe]
        have hlen:lenD [.lst (qs.map sgn)] = some (.int (qs.length:Int)):=by simp
        refine zAL (r:=[some (.scr ns,0),some (.int (k:Int),0),some (.int 10,0),some (.int (n:Int),1),some (.int (f:Int),0),some (.int (st:Int),0),some (.lst ((qs.eraseIdx q).map sgn),9),some (.int (i:Nat),0),o8,some (.str ⟨(ws ++ [qs[q]]).toArray⟩,0)]) (by
          show (sAddPop 9 6 (eB modD (eCall zAG (aCons (eV 0) (aCons (eB addD (eB addD (eV 1) (eC (.int 1))) (eV 7)) aNil))) (eBi lenD (aCons (eV 6) aNil)))) [some (.scr ns,0),some (.int (k:Int),0),some (.int 10,0),some (.int (n:Int),1),some (.int (f:Int),0),some (.int (st:Int),0),some (.lst (qs.map sgn),9),some (.int (i:Nat),0),o8,some (.str ⟨ws.toArray⟩,0)] = _
          rw [zRZ (ds:=qs.map sgn) (k:=8) (q:=q) (z:=⟨ws.toArray⟩) (u:=⟨#[qs[q]]⟩) (l0:=0) rfl rfl (by
              generalize Dt.lst (qs.map sgn) = QS at hlen ⊢
              simp [ci,hlen,dq,-zS0]) (by rw [qAd,qA3 hql]; rfl) (by decide) (by simp; omega) (by
              rw [zKW]
              show ws.length + 1≤_
              omega)]
          have ez:(⟨ws.toArray⟩:Str) ++ ⟨#[qs[q]]⟩ = ⟨(ws ++ [qs[q]]).toArray⟩:=by
            show (⟨ws.toArray ++ #[qs[q]]⟩:Str) = _
            simp
          rw [ez,zKR]
          rfl) ⟨_,_,_,rfl,?_,?_⟩
        · refine List.Perm.trans ?_ hw
          rw [qBh]
          exact qDx _ (zEQ qs hql).symm
        · rw [qE7,if_pos hql]
          omega
      · obtain ⟨o7,qs,ws,rfl,hw,hq⟩:=hr
        have:qs = []:=qDc.mp (by omega)
        subst this
        exact ⟨o7,[],ws,rfl,by simpa using hw⟩
    obtain ⟨r2,g2,o7',qs,ws,rfl,hws⟩:=zBQ L2
    refine ⟨ws,hws.trans hps,?_⟩
    unfold zBZ
    refine zB5 fun bb hb=>?_
    refine zAL (r:=[some (.scr ns,0),some (.int (k:Int),0),some (.int 10,0),some (.int (n:Int),1),none,none,none,none,none,none]) (by simp [c0,d1,hn,-zS0]) ?_
    subst hb
    refine zB5 fun bb hb=>?_
    refine zAL (r:=[some (.scr ns,0),some (.int (k:Int),0),some (.int 10,0),some (.int (n:Int),1),some (.int (f:Int),0),none,none,none,none,none]) (by simp [c0,hf]) ?_
    subst hb
    refine zB5 fun bb hb=>?_
    refine zAL (r:=[some (.scr ns,0),some (.int (k:Int),0),some (.int 10,0),some (.int (n:Int),1),some (.int (f:Int),0),some (.int (st:Int),0),none,none,none,none]) (by simp [c0,ist,-zFC]) ?_
    subst hb
    refine zB5 fun bb hb=>?_
    refine zAL (r:=[some (.scr ns,0),some (.int (k:Int),0),some (.int 10,0),some (.int (n:Int),1),some (.int (f:Int),0),some (.int (st:Int),0),some (.lst [],9),none,none,none]) (by simp [startO]) ?_
    subst hb
    refine zB5 fun bb hb=>?_
    rw [zFA,zI4 (n:=n) (by simp) (by omega),zA0,g1]
    show bb _ = _
    subst hb
    refine zB5 fun bb hb=>?_
    refine zAL (r:=[some (.scr ns,0),some (.int (k:Int),0),some (.int 10,0),some (.int (n:Int),1),some (.int (f:Int),0),some (.int (st:Int),0),some (.lst (ps.map sgn),9),o7,o8,some (.str ⟨([]:List Nat).toArray⟩,0)]) (by simp [← e0]) ?_
    subst hb
    refine zB5 fun bb hb=>?_
    have m2:mulD (.int 2) (.int (n:Int)) = some (.int ((2:Int) * (n:Int))):=zIT (by omega) (by omega)
    rw [zFA,zI4 (n:=2 * n) (by simp [m2,-zOE]) (by omega),zA0,g2]
    show bb _ = _
    subst hb
    simp
  obtain ⟨cs,h2,h3⟩:=key
  refine ⟨cs,(qA9 n).map (ltr f st),zBG rfl h2,h3,zMG hst hn2,by simpa using hn1,by simpa using hn2,fun x hx=>?_⟩
  obtain ⟨i,_,rfl⟩:=qAv.mp hx
  unfold ltr
  have:=qBo (f + st * i) (show 0 < 26 by decide)
  omega
@[simp] theorem x_eNew0 (c:Str) (ρ:Rh):za6 c ρ = okR (.ins c []):=rfl
@[simp] theorem x_eNew (c:Str) (fl:List Str) (am:AM) (ρ:Rh):eNew c fl am ρ = zA3 (am ρ) fun ds=>match svsD ds with
  | some vs=>if vs.length = fl.length then okR (.ins c (fl.zip vs)) else none
  | none=>none:=rfl
@[simp] theorem x_eFld (hs:List Str) (f:Str) (e:EM) (ρ:Rh):eFld hs f e ρ = zA3 (e ρ) fun d=>match d with
  | .ins c fs=>if c∈hs then (match fs.lookup f with | some v=>okR (dSv v) | none=>none) else none
  | _=>none:=rfl
@[simp] theorem x_eMeth (tb:List (Str × FM)) (m:Str) (e:EM) (am:AM) (ρ:Rh):za7 tb m e am ρ = zA3 (e ρ) fun d=>match d with
  | .ins c fs=>match tb.lookup c with
    | some g=>match fs.lookup m with
      | none=>zA3 (am ρ) fun ds=>g (d :: ds)
      | some _=>none
    | none=>none
  | _=>none:=rfl
@[simp] theorem x_eIsO (ys ns:List Str) (e:EM) (ρ:Rh):eIsO ys ns e ρ = zA3 (e ρ) fun d=>match d with
  | .ins c _=>if c∈ys then okR (.bl true) else if c∈ns then okR (.bl false) else none
  | _=>none:=rfl
@[simp] theorem v_dins (c:Str) (fs:List (Str × Sv)):(Dt.ins c fs).dep = 1000:=rfl
theorem len1 (x:Nat):lenD [sgn x] = some (.int 1):=zCS (cs:=[x]) (by simp)
theorem zRM {ls cs:List Nat} (hp:cs.Perm (ls ++ ls)) (hn:ls.Nodup) {x:Nat} (hx:x∈cs):cs.count x = 2:=by
  have hl:x∈ls:=by have:=hp.mem_iff.mp hx; simpa using this
  rw [hp.count_eq,qEl,qHx hn,if_pos hl]
end Mp
namespace FW
structure NetL (ns:List Int) (n:Nat):Prop where
  len:ns.length = n
  tie:∀ i:Nat,i < n→∃ j:Nat,j < n∧j≠i∧ns[i]? = some (j:Int)∧ns[j]? = some (i:Int)
structure Part (left:List Nat) (ns:List Int) (n:Nat):Prop where
  len:ns.length = n
  nd:left.Nodup
  lt:∀ i∈left,i < n
  ev:left.length % 2 = 0
  tie:∀ i:Nat,i < n→i ∉ left→∃ j:Nat,j < n∧j ∉ left∧j≠i∧ns[i]? = some (j:Int)∧ns[j]? = some (i:Int)
theorem zGR {l:List Nat} {k:Nat} (h:k < l.length):(l.eraseIdx k).length + 1 = l.length:=by
  rw [qCw h]; omega
end FW
namespace Mp
open Mi PySem
theorem zSR {P:Nat→Prop}:∀ (n:Nat),P n→∃ p,p≤n∧P p∧∀ q,q < p→¬ P q:=by
  intro n
  induction n using qGm with
  | ind n ih =>
    intro h
    by_cases hq:∃ q,q < n∧P q
    · obtain ⟨q,h1,h2⟩:=hq
      obtain ⟨p,h3,h4,h5⟩:=ih q h1 h2
      exact ⟨p,by omega,h4,h5⟩
    · exact ⟨n,qAa _,h,fun q h1 h2=>hq ⟨q,h1,h2⟩⟩
noncomputable def itr (f:Nat→Nat):Nat→Nat→Nat
  | 0,x=>x
  | k + 1,x=>f (itr f k x)
theorem zEZ {f:Nat→Nat} {M:Nat} (hf:∀ x,x < M→f x < M) {x:Nat} (hx:x < M):∀ k,itr f k x < M
  | 0=>hx
  | k + 1=>hf _ (zEZ hf hx k)
theorem zJ3 {f:Nat→Nat} {M:Nat} (hf:∀ x,x < M→f x < M) (hi:∀ x y,x < M→y < M→f x = f y→x = y) {x:Nat} (hx:x < M):∀ i d,itr f i x = itr f (i + d) x→itr f d x = x
  | 0,d,h=>by rw [qBt] at h; exact h.symm
  | i + 1,d,h=>by
    rw [show i + 1 + d = (i + d) + 1 by omega] at h
    exact zJ3 hf hi hx i d (hi _ _ (zEZ hf hx i) (zEZ hf hx (i + d)) h)
theorem zKO:∀ l:List Nat,¬ l.Nodup→∃ i j,i < j∧j < l.length∧l.getD i 0 = l.getD j 0
  | [],h=>absurd List.nodup_nil h
  | a :: l,h=>by
    by_cases ha:a∈l
    · obtain ⟨j,hj,e⟩:=List.getElem_of_mem ha
      exact ⟨0,j + 1,by omega,by simp; omega,by simp [hj,e]⟩
    · have:¬ l.Nodup:=fun hn=>h (qBl.mpr ⟨ha,hn⟩)
      obtain ⟨i,j,h1,h2,h3⟩:=zKO l this
      exact ⟨i + 1,j + 1,by omega,by simp; omega,by simpa using h3⟩
theorem zGO:∀ {a b:List Nat},a.Nodup→(∀ x∈a,x∈b)→a.length≤b.length
  | [],b,_,_=>by simp
  | x :: a,b,hn,h=>by
    obtain ⟨h1,h2⟩:=qBl.mp hn
    have hx:=h x (by simp)
    have:=zGO (b:=b.erase x) h2 fun y hy=>by
      have hne:y≠x:=fun z=>h1 (z ▸ hy)
      exact (qFf hne).mpr (h y (by simp [hy]))
    rw [qEm hx] at this
    have:=qF1 hx
    simp only [qAu]
    omega
theorem zP3 {f:Nat→Nat} {M:Nat} (hf:∀ x,x < M→f x < M) (hi:∀ x y,x < M→y < M→f x = f y→x = y) {x:Nat} (hx:x < M):∃ p,1≤p∧p≤M∧itr f p x = x∧∀ q,1≤q→q < p→itr f q x≠x:=by
  have hn:¬ ((qA9 (M + 1)).map fun k=>itr f k x).Nodup:=fun hn=>by
    have:=zGO (b:=qA9 M) hn fun y hy=>by
      obtain ⟨k,_,rfl⟩:=qAv.mp hy
      exact qCn.mpr (zEZ hf hx k)
    simp at this
    omega
  obtain ⟨i,j,h1,h2,h3⟩:=zKO _ hn
  simp at h2
  have e:itr f i x = itr f j x:=by
    simpa [show i < M + 1 by omega,h2] using h3
  have hb:itr f (j - i) x = x:=zJ3 hf hi hx i (j - i) (by rw [show i + (j - i) = j by omega]; exact e)
  obtain ⟨p,h4,h5,h6⟩:=zSR (P:=fun p=>1≤p∧itr f p x = x) (j - i) ⟨by omega,hb⟩
  exact ⟨p,h5.1,by omega,h5.2,fun q h7 h8 h9=>h6 q h8 ⟨h7,h9⟩⟩
noncomputable def jn (cs:List Nat) (e:Nat):Nat:=e / 4 * 4 + (e % 4 ^^^ (cs.getD (e / 4) 0 + 1))
theorem xor4:∀ s,s < 4→∀ w,w < 3→(s ^^^ (w + 1)) < 4∧((s ^^^ (w + 1)) ^^^ (w + 1)) = s:=by decide
theorem zGV {cs:List Nat} {n e:Nat} (hl:cs.length = n) (hw:∀ c∈cs,c < 3) (he:e < 4 * n):jn cs e < 4 * n∧jn cs (jn cs e) = e:=by
  have hc:cs.getD (e / 4) 0 < 3:=zH0 hw (by omega)
  obtain ⟨h1,h2⟩:=xor4 (e % 4) (by omega) _ hc
  have hq:jn cs e / 4 = e / 4:=by unfold jn; omega
  have hr:jn cs e % 4 = (e % 4 ^^^ (cs.getD (e / 4) 0 + 1)):=by unfold jn; omega
  refine ⟨by unfold jn; omega,?_⟩
  show jn cs e / 4 * 4 + (jn cs e % 4 ^^^ (cs.getD (jn cs e / 4) 0 + 1)) = e
  rw [hq,hr,h2]
  omega
noncomputable def nt (ts:List Nat) (e:Nat):Nat:=ts.getD e 0
structure NetN (ts:List Nat) (M:Nat):Prop where
  len:ts.length = M
  lt:∀ e,e < M→nt ts e < M
  inv:∀ e,e < M→nt ts (nt ts e) = e
def stp (ts cs:List Nat) (e:Nat):Nat:=nt ts (jn cs e)
theorem zK0 {ts cs:List Nat} {n:Nat} (hN:NetN ts (4 * n)) (hl:cs.length = n) (hw:∀ c∈cs,c < 3):(∀ x,x < 4 * n→stp ts cs x < 4 * n)∧∀ x y,x < 4 * n→y < 4 * n→stp ts cs x = stp ts cs y→x = y:=by
  refine ⟨fun x hx=>hN.lt _ (zGV hl hw hx).1,fun x y hx hy e=>?_⟩
  have h1:=congrArg (nt ts) e
  unfold stp at h1
  rw [hN.inv _ (zGV hl hw hx).1,hN.inv _ (zGV hl hw hy).1] at h1
  have h2:=congrArg (jn cs) h1
  rw [(zGV hl hw hx).2,(zGV hl hw hy).2] at h2
  exact h2
def orb (ts cs:List Nat) (e:Nat) (k:Nat):List Nat:=(qA9 k).flatMap fun i=>[itr (stp ts cs) i e,jn cs (itr (stp ts cs) i e)]
theorem zG3 (ts cs:List Nat) (e k:Nat):orb ts cs e (k + 1) = orb ts cs e k ++ [itr (stp ts cs) k e,jn cs (itr (stp ts cs) k e)]:=by
  unfold orb
  rw [qBn,List.flatMap_append]
  simp
theorem zFF (ts cs:List Nat) (e:Nat):∀ k,(orb ts cs e k).length = 2 * k
  | 0=>rfl
  | k + 1=>by rw [zG3,qAr,zFF ts cs e k]; simp; omega
theorem bx4:∀ s:Nat,s < 4→∀ w:Nat,w < 3→Builtin.bitXor (s:Int) ((w:Int) + 1) = ((s ^^^ (w + 1):Nat):Int):=by decide
theorem zMI {w s:Nat} (hw:w < 3) (hs:s < 4):zIX [.int (w:Int),.int (s:Int)] = okR (.int ((s ^^^ (w + 1):Nat):Int)):=by
  refine zBG rfl ?_
  show zJJ [some (.int (w:Int),0),some (.int (s:Int),0)] = _
  unfold zJJ
  simp [bx4 s hs w hw]
theorem zGU {cs:List Nat} {n e:Nat} (hl:cs.length = n) (hn:n≤1000) (hw:∀ c∈cs,c < 3) (he:e < 4 * n):zBB [rowD (numL cs),.int (e:Int)] = okR (.int (jn cs e:Nat)):=by
  have hx:=zKY cs (e / 4) (by omega)
  have hc:cs.getD (e / 4) 0 < 3:=zH0 hw (by omega)
  have hj:=zMI hc (show e % 4 < 4 by omega)
  have e1:(e:Int) / 4 = ((e / 4:Nat):Int):=by omega
  have e2:(e:Int) % 4 = ((e % 4:Nat):Int):=by omega
  refine zBG rfl ?_
  show zDS [some (rowD (numL cs),0),some (.int (e:Int),0),none] = _
  unfold zDS
  generalize rowD (numL cs) = C at hx ⊢
  refine zB5 fun bb hb=>zAL (r:=[some (C,0),some (.int (e:Int),0),some (.int ((e / 4:Nat):Int),0)]) (by simp) ?_
  subst hb
  have m1:mulD (.int ((e / 4:Nat):Int)) (.int 4) = some (.int (((e / 4:Nat):Int) * 4)):=zV5 (by omega) (by omega)
  have hm:modD (.int (e:Int)) (.int 4) = some (.int ((e % 4:Nat):Int)):=by simp
  have ejn:((e / 4:Nat):Int) * 4 + ((e % 4 ^^^ (cs.getD (e / 4) 0 + 1):Nat):Int) = ((jn cs e:Nat):Int):=by unfold jn; omega
  generalize ((e / 4:Nat):Int) = q at *
  generalize ((e % 4:Nat):Int) = r at *
  simp only [zP8,x_eB,x_eV,x_eC,zGA,zB7,zCO,zE6,zFB,qEc,qFd,qBd,qB4,zA0,m1,hm,hx,hj,zA8,zZB,ejn]
  simp
theorem zVK {l:List Nat} {x:Nat}:ixD (rowD (numL (l ++ [x]))) (.int (-1)) = some (.int (x:Int)):=by
  show itA ((numL (l ++ [x])).map Dt.int) (-1) = _
  unfold itA ixA
  simp [numL]
  rw [if_pos (by omega)]
  simp
  rw [show (-1 + ((l.length:Int) + 1)).toNat = l.length by omega]
  simp
theorem zOO {ts cs:List Nat} {n e:Nat} (hN:NetN ts (4 * n)) (hl:cs.length = n) (hn:n≤100) (hw:∀ c∈cs,c < 3) (he:e < 4 * n) {p:Nat} (p1:1≤p) (p2:p≤4 * n) (p3:itr (stp ts cs) p e = e) (p4:∀ q,1≤q→q < p→itr (stp ts cs) q e≠e) :
    zD2 [rowD (numL ts),rowD (numL cs),.int (e:Int)] = okR (rowD (numL (orb ts cs e p))):=by
  obtain ⟨st1,_⟩:=zK0 hN hl hw
  have hlt:∀ k,itr (stp ts cs) k e < 4 * n:=zEZ st1 he
  have hjn:∀ k,zBB [rowD (numL cs),.int ((itr (stp ts cs) k e:Nat):Int)] = okR (.int (jn cs (itr (stp ts cs) k e):Nat)):=fun k=>zGU hl (by omega) hw (hlt k)
  have hnt:∀ k,ixD (rowD (numL ts)) (.int ((jn cs (itr (stp ts cs) k e):Nat):Int)) = some (.int ((itr (stp ts cs) (k + 1) e:Nat):Int)):=fun k=>zKY ts _ (by rw [hN.len]; exact (zGV hl hw (hlt k)).1)
  have hlast:∀ k,ixD (rowD (numL (orb ts cs e (k + 1)))) (.int (-1)) = some (.int ((jn cs (itr (stp ts cs) k e):Nat):Int)):=fun k=>by
    rw [zG3,show orb ts cs e k ++ [itr (stp ts cs) k e,jn cs (itr (stp ts cs) k e)] = (orb ts cs e k ++ [itr (stp ts cs) k e]) ++ [jn cs (itr (stp ts cs) k e)] by simp]
    exact zVK
  have hdr:∀ k,(rowD (numL (orb ts cs e k))).dep = 1:=fun k=>zJD _
  have hext:∀ k:Nat,k≤1000→∀ o4,sExt 3 0 (eLst (aCons (eV 4) (aCons (eCall zBB (aCons (eV 1) (aCons (eV 4) aNil))) aNil))) [some (rowD (numL ts),0),some (rowD (numL cs),0),some (.int (e:Int),0),some (rowD (numL (orb ts cs e (k + 1))),1),some (.int ((itr (stp ts cs) (k + 1) e:Nat):Int),o4)] = okR (.nx [some (rowD (numL ts),0),some (rowD (numL cs),0),some (.int (e:Int),0),some (rowD (numL (orb ts cs e (k + 2))),1),some (.int ((itr (stp ts cs) (k + 1) e:Nat):Int),o4)]):=by
    intro k hk o4
    have hj:=hjn (k + 1)
    have ol:=zFF ts cs e (k + 1)
    have es:=zG3 ts cs e (k + 1)
    generalize rowD (numL cs) = C at hj ⊢
    generalize rowD (numL ts) = T
    generalize hx:itr (stp ts cs) (k + 1) e = x at hj es ⊢
    generalize hy:jn cs x = y at hj es ⊢
    rw [show k + 1 + 1 = k + 2 from rfl] at es
    rw [es]
    unfold rowD numL sExt
    simp [hj,ol]
    omega
  have key:zFO [some (rowD (numL ts),0),some (rowD (numL cs),0),some (.int (e:Int),0),none,none] = okR (.rt (rowD (numL (orb ts cs e p)))):=by
    unfold zFO
    have h0:=hjn 0
    refine zB5 fun bb hb=>zAL (r:=[some (rowD (numL ts),0),some (rowD (numL cs),0),some (.int (e:Int),0),some (rowD (numL (orb ts cs e 1)),1),none]) (by
      have eo:rowD (numL (orb ts cs e 1)) = .lst [.int (e:Int),.int ((jn cs e:Nat):Int)]:=rfl
      replace h0:zBB [rowD (numL cs),.int (e:Int)] = okR (.int ((jn cs e:Nat):Int)):=h0
      rw [eo]
      generalize rowD (numL cs) = C at h0 ⊢
      generalize rowD (numL ts) = T
      simp [h0]) ?_
    subst hb
    refine zB5 fun bb hb=>?_
    refine zNJ (fun r=>∃ k o4,k + 1≤p∧r = [some (rowD (numL ts),0),some (rowD (numL cs),0),some (.int (e:Int),0),some (rowD (numL (orb ts cs e (k + 1))),1),o4]) (fun r=>1000 - zZY 3 r) (fun r=>∃ o4,r = [some (rowD (numL ts),0),some (rowD (numL cs),0),some (.int (e:Int),0),some (rowD (numL (orb ts cs e p)),1),o4]) ⟨0,none,by omega,rfl⟩ ?_ ?_ ?_
    · exact qCo (Nat.sub_le _ _) (by omega)
    · rintro r ⟨k,o4,hk,rfl⟩
      have c1:=hlast k
      have c2:=hnt k
      have hx1:itr (stp ts cs) (k + 1) e = e ↔ k + 1 = p:=by
        constructor
        · intro h
          by_cases hkp:k + 1 = p
          · exact hkp
          · exact absurd h (p4 (k + 1) (by omega) (by omega))
        · intro h; rw [h]; exact p3
      have hcond:(tB (eB neD (eB ixD (eV 0) (eB ixD (eV 3) (eU negD (eC (.int 1))))) (eV 2))) (full [some (rowD (numL ts),0),some (rowD (numL cs),0),some (.int (e:Int),0),some (rowD (numL (orb ts cs e (k + 1))),1),o4]) = okR (decide (¬ k + 1 = p)):=by
        have hd:decide (((itr (stp ts cs) (k + 1) e:Nat):Int) = (e:Int)) = decide (k + 1 = p):=by
          by_cases h:k + 1 = p
          · have:=hx1.mpr h
            rw [this]; simp [h]
          · have:¬ itr (stp ts cs) (k + 1) e = e:=fun z=>h (hx1.mp z)
            simp [h]
            omega
        generalize rowD (numL (orb ts cs e (k + 1))) = Z at c1 ⊢
        generalize rowD (numL cs) = C
        generalize rowD (numL ts) = T at c2 ⊢
        simp [c1,c2,hd]
      rw [hcond]
      by_cases hkp:k + 1 = p
      · refine .inl ⟨by simp [hkp],o4,?_⟩
        rw [hkp]
      · refine .inr ⟨by simp [hkp],?_⟩
        refine zCG fun bb hb=>zAL (r:=[some (rowD (numL ts),0),some (rowD (numL cs),0),some (.int (e:Int),0),some (rowD (numL (orb ts cs e (k + 1))),1),some (.int ((itr (stp ts cs) (k + 1) e:Nat):Int),0)]) (by
          generalize rowD (numL (orb ts cs e (k + 1))) = Z at c1 ⊢
          generalize rowD (numL cs) = C
          generalize rowD (numL ts) = T at c2 ⊢
          simp [c1,c2]) ?_
        subst hb
        refine zAL (hext k (by omega) 0) ⟨⟨k + 1,_,by omega,rfl⟩,?_⟩
        have l1:=zFF ts cs e (k + 1)
        have l2:=zFF ts cs e (k + 2)
        show 1000 - ((numL (orb ts cs e (k + 2))).map Dt.int).length < 1000 - ((numL (orb ts cs e (k + 1))).map Dt.int).length
        simp [numL,l1,l2]
        omega
    · rintro r ⟨o4,rfl⟩
      subst hb
      have:=hdr p
      generalize rowD (numL (orb ts cs e p)) = Z at this ⊢
      generalize rowD (numL cs) = C
      generalize rowD (numL ts) = T
      simp [this]
  exact zBG rfl key
abbrev Kv:=List (Sum Int Str × Sw)
def zEB (D:Kv) (l:List Nat):Kv:=l.foldl (fun (m:Kv) (x:Nat)=>putW m (.inl (x:Int)) (.bl true)) D
theorem zFZ (D:Kv) (k:Sum Int Str) (v:Sw):(putW D k v).length≤D.length + 1:=by
  unfold putW
  split
  · simp
  · simp
theorem zSP (l:List Nat):∀ D:Kv,(zEB D l).length≤D.length + l.length:=by
  induction l with
  | nil=>intro D; exact qAa _
  | cons x r ih =>
    intro D
    have h1:=ih (putW D (.inl (x:Int)) (.bl true))
    have h2:=zFZ D (.inl (x:Int)) (.bl true)
    show (zEB (putW D (.inl (x:Int)) (.bl true)) r).length≤_
    simp only [qAu]
    omega
def rdS (f:Nat→List Nat):Nat→List (List Nat) × Kv
  | 0=>([],[])
  | k + 1=>if (getW (rdS f k).2 (.inl (k:Int))).isSome = true then rdS f k else ((rdS f k).1 ++ [f k],zEB (rdS f k).2 (f k))
theorem zIJ {f:Nat→List Nat} {B:Nat} (hf:∀ k,(f k).length≤B):∀ k,(rdS f k).1.length≤k∧(rdS f k).2.length≤k * B
  | 0=>by simp [rdS]
  | k + 1=>by
    obtain ⟨h1,h2⟩:=zIJ hf k
    have hb:=hf k
    have hm:=zSP (f k) (rdS f k).2
    unfold rdS
    split
    · exact ⟨by omega,by rw [qEf]; omega⟩
    · exact ⟨by simp; omega,by show (zEB (rdS f k).2 (f k)).length≤_; rw [qEf]; omega⟩
def rowsD (R:List (List Nat)):Dt:=.lst (R.map fun l=>rowD (numL l))
theorem zN6:∀ R:List (List Nat),Dt.depL (R.map fun l=>rowD (numL l))≤1
  | []=>by simp [Dt.depL]
  | l :: R=>by
    have h:=zN6 R
    have:=zJD (numL l)
    simp only [qAi]
    rw [Dt.depL]
    omega
theorem zEO (R:List (List Nat)):(rowsD R).dep≤2:=by
  have:=zN6 R
  unfold rowsD
  rw [Dt.dep]
  omega
theorem zLN {r:Ro} {i v:Nat} {R:List (List Nat)} {l:List Nat} {lv lx:Nat} {e:EM} (hi:r[i]? = some (some (rowsD R,lv + 1))) (hv:r[v]? = some (some (rowD (numL l),lx))) (hne:v≠i) (he:∀ ρ:Rh,ρ[v]? = some (some (rowD (numL l)))→e ρ = okR (rowD (numL l))) (hz:R.length≤1000) :
    sAppF i [v] e r = okR (.nx (((r.set i (some (rowsD R,1))).set v (some (rowD (numL l),0))).set i (some (rowsD (R ++ [l]),1)))):=by
  have hil:i < r.length:=by
    have:=(qA1.mp hi).1
    exact this
  have hvl:v < r.length:=(qA1.mp hv).1
  have h1:low i r = r.set i (some (rowsD R,1)):=by
    unfold low
    rw [hi]
    rfl
  have h2:frzAt [v] (r.set i (some (rowsD R,1))) = (r.set i (some (rowsD R,1))).set v (some (rowD (numL l),0)):=by
    show frz1 v _ = _
    unfold frz1
    rw [qAh (qCh hne),hv]
  unfold sAppF
  rw [h1,h2]
  have h3:((r.set i (some (rowsD R,1))).set v (some (rowD (numL l),0)))[i]? = some (some (rowsD R,1)):=by
    rw [qAh hne,qAf hil]
  rw [h3]
  have h4:(frz ((r.set i (some (rowsD R,1))).set v (some (rowD (numL l),0))))[v]? = some (some (rowD (numL l))):=by
    unfold frz
    rw [qAd,qAf (by simpa using hvl)]
    simp
  show zA3 (e _) _ = _
  rw [he _ h4,zA0,if_pos (by simp; omega)]
  congr 5
  simp [rowsD]
theorem zGK:∀ (l:List Nat),pairsD (l.map fun x:Nat=>Dt.tup [.int (x:Int),.bl true]) = some (l.map fun x:Nat=>((qEo (x:Int):Sum Int Str),Sw.bl true))
  | []=>rfl
  | x :: l=>by
    simp only [qAi]
    unfold pairsD
    rw [zGK l]
    rfl
theorem zOZ (l:List Nat) (D:Kv):(l.map fun x:Nat=>((qEo (x:Int):Sum Int Str),Sw.bl true)).foldl (fun m p=>putW m p.1 p.2) D = zEB D l:=by
  unfold zEB
  rw [List.foldl_map]
theorem zM4 {ts cs:List Nat} {n:Nat} (hN:NetN ts (4 * n)) (hn:n≤30) {f:Nat→List Nat} (hf:∀ k,(f k).length≤8 * n)
    (hr:∀ e,e < 4 * n→zD2 [rowD (numL ts),rowD (numL cs),.int (e:Int)] = okR (rowD (numL (f e)))) :
    zBV [rowD (numL ts),rowD (numL cs)] = okR (rowsD (rdS f (4 * n)).1):=by
  have hlen:lenD [rowD (numL ts)] = some (.int ((4 * n:Nat):Int)):=by
    show some (Dt.int (((numL ts).map Dt.int).length:Int)) = _
    rw [qAj]
    unfold numL
    rw [qAj,hN.len]
  have key:zEH [some (rowD (numL ts),0),some (rowD (numL cs),0),none,none,none,none] = okR (.rt (rowsD (rdS f (4 * n)).1)):=by
    unfold zEH
    refine zB5 fun bb hb=>zAL (r:=[some (rowD (numL ts),0),some (rowD (numL cs),0),some (.lst [],9),none,none,none]) (by
      generalize rowD (numL cs) = C
      generalize rowD (numL ts) = T
      simp) ?_
    subst hb
    refine zB5 fun bb hb=>zAL (r:=[some (rowD (numL ts),0),some (rowD (numL cs),0),some (.lst [],9),some (.dct [],1),none,none]) rfl ?_
    subst hb
    refine zB5 fun bb hb=>?_
    rw [zFA,show iR1 (aCons (eBi lenD (aCons (eV 0) aNil)) aNil) (full [some (rowD (numL ts),0),some (rowD (numL cs),0),some (.lst [],9),some (.dct [],1),none,none]) = okR (nums 0 (4 * n)) from zI4 (n:=4 * n) (by
      generalize rowD (numL cs) = C
      generalize rowD (numL ts) = T at hlen ⊢
      simp only [zB7,zCO,zUD,x_eV,zE6,zFB,qEc,qFd,qB4,zA0,hlen,zA8]) (by omega),zA0]
    refine zOR (fun k r=>∃ lv o4 o5,(lv = 0∨(lv = 8∧(rdS f k).1 = []))∧r = [some (rowD (numL ts),0),some (rowD (numL cs),0),some (rowsD (rdS f k).1,lv + 1),some (.dct (rdS f k).2,1),o4,o5]) ⟨8,none,none,.inr ⟨rfl,rfl⟩,rfl⟩ (fun k hk r hr=>?_) fun r hr=>?_
    · obtain ⟨lv,o4,o5,hlv,rfl⟩:=hr
      obtain ⟨l1,l2⟩:=zIJ hf k
      have hfk:=hf k
      show nxR (sIf _ _ _ [some (rowD (numL ts),0),some (rowD (numL cs),0),some (rowsD (rdS f k).1,lv + 1),some (.dct (rdS f k).2,1),some (.int (k:Int),0),o5]) _
      have hrk:=hr k hk
      have hcond:(tB (eB (dinD true) (eV 4) (eV 3))) (full [some (rowD (numL ts),0),some (rowD (numL cs),0),some (rowsD (rdS f k).1,lv + 1),some (.dct (rdS f k).2,1),some (.int (k:Int),0),o5]) = okR (!(getW (rdS f k).2 (.inl (k:Int))).isSome):=rfl
      unfold sIf
      rw [hcond,zA0]
      by_cases hg:(getW (rdS f k).2 (.inl (k:Int))).isSome = true
      · rw [hg]
        have e1:rdS f (k + 1) = rdS f k:=by rw [rdS,if_pos hg]
        refine zAL (r:=[some (rowD (numL ts),0),some (rowD (numL cs),0),some (rowsD (rdS f k).1,lv + 1),some (.dct (rdS f k).2,1),some (.int (k:Int),0),o5]) rfl ⟨lv,_,_,?_,by rw [e1]⟩
        rw [e1]; exact hlv
      · have hg':(getW (rdS f k).2 (.inl (k:Int))).isSome = false:=by simpa using hg
        have e1:rdS f (k + 1) = ((rdS f k).1 ++ [f k],zEB (rdS f k).2 (f k)):=by rw [rdS,if_neg hg]
        rw [hg']
        rw [if_pos (by rfl)]
        have hdl:=zJD (numL (f k))
        refine zCG fun bb hb=>zAL (r:=[some (rowD (numL ts),0),some (rowD (numL cs),0),some (rowsD (rdS f k).1,lv + 1),some (.dct (rdS f k).2,1),some (.int (k:Int),0),some (rowD (numL (f k)),1)]) (by
          generalize rowD (numL (f k)) = Z at hrk hdl ⊢
          generalize rowD (numL cs) = C at hrk ⊢
          generalize rowD (numL ts) = T at hrk ⊢
          generalize rowsD (rdS f k).1 = RR
          generalize Dt.dct (rdS f k).2 = DD
          simp [hrk,hdl]) ?_
        subst hb
        refine zCG fun bb hb=>zAL (zLN (i:=2) (v:=5) (R:=(rdS f k).1) (l:=f k) (lv:=lv) (lx:=1) rfl rfl (by decide) (fun ρ hρ=>by show (match ρ[5]? with | some (some d)=>okR d | _=>none) = _; rw [hρ]) (by omega)) ?_
        subst hb
        show nxR (sDupd 3 _ [some (rowD (numL ts),0),some (rowD (numL cs),0),some (rowsD ((rdS f k).1 ++ [f k]),1),some (.dct (rdS f k).2,1),some (.int (k:Int),0),some (rowD (numL (f k)),0)]) _
        have hc:eComp (iSq (eV 5)) 1 (.one 6) Mi.tYes (eTup (aCons (eV 6) (aCons (eC (.bl true)) aNil))) (full [some (rowD (numL ts),0),some (rowD (numL cs),0),some (rowsD ((rdS f k).1 ++ [f k]),1),some (.dct (rdS f k).2,1),some (.int (k:Int),0),some (rowD (numL (f k)),0)]) = okR (.lst ((f k).map fun x:Nat=>Dt.tup [.int (x:Int),.bl true])):=by
          refine zD5 (ρ:=full [some (rowD (numL ts),0),some (rowD (numL cs),0),some (rowsD ((rdS f k).1 ++ [f k]),1),some (.dct (rdS f k).2,1),some (.int (k:Int),0),some (rowD (numL (f k)),0)]) (c:=tYes) (i:=6) (fun x:Nat=>Dt.int (x:Int)) (fun x:Nat=>Dt.tup [.int (x:Int),.bl true]) (f k) rfl rfl (fun x _=>?_) _ ?_ (by omega)
          · generalize rowD (numL (f k)) = Z
            generalize rowD (numL cs) = C
            generalize rowD (numL ts) = T
            generalize rowsD ((rdS f k).1 ++ [f k]) = RR
            generalize Dt.dct (rdS f k).2 = DD
            simp
          · show okR ((numL (f k)).map Dt.int) = _
            unfold numL
            rw [qB3]
            rfl
        refine zAL (r:=[some (rowD (numL ts),0),some (rowD (numL cs),0),some (rowsD ((rdS f k).1 ++ [f k]),1),some (.dct (zEB (rdS f k).2 (f k)),1),some (.int (k:Int),0),some (rowD (numL (f k)),0)]) ?_ ⟨0,_,_,.inl rfl,by rw [e1]⟩
        show zA3 (eComp _ _ _ _ _ _) _ = _
        rw [hc,zA0]
        dsimp only
        rw [zGK]
        dsimp only
        have h8:(rdS f k).2.length≤120 * 240:=qAq l2 (qH1 (by omega) (by omega))
        rw [if_pos (by rw [qAj]; omega),zOZ]
        rfl
    · obtain ⟨lv,o4,o5,hlv,rfl⟩:=hr
      subst hb
      have hd:=zEO (rdS f (4 * n)).1
      rcases hlv with rfl | ⟨rfl,he⟩
      · generalize rowsD (rdS f (4 * n)).1 = RR at hd ⊢
        generalize rowD (numL cs) = C
        generalize rowD (numL ts) = T
        simp
      · rw [he]
        show sRetV 1 2 [some (rowD (numL ts),0),some (rowD (numL cs),0),some (.lst [],9),some (.dct (rdS f (4 * n)).2,1),o4,o5] = okR (.rt (.lst []))
        generalize rowD (numL cs) = C
        generalize rowD (numL ts) = T
        simp
  exact zBG rfl key
structure Seats (R:List (List Nat)) (n:Nat):Prop where
  len:R.length = n
  per:∀ l∈R,l.Perm [0,1,2,3]
end Mp
namespace Mp
open Mi PySem
section
variable {R:List (List Nat)} {row:List Nat} {n:Nat} (hS:Seats R n) (tw:Twice n row)
include hS
include tw
omit hS in
omit hS in
omit hS in
omit hS in
omit hS tw in
omit hS tw in
end
end Mp
namespace Mp
open Mi PySem
theorem zJ5 (D:Kv) (k q:Sum Int Str) (v:Sw):getW (putW D k v) q = if q = k then some v else getW D q:=by
  unfold putW getW
  by_cases h:(D.any fun p=>decide (p.1 = k)) = true
  · rw [if_pos h,List.find?_map]
    have e:((fun p:Sum Int Str × Sw=>decide (p.1 = q)) ∘ fun p=>if p.1 = k then (p.1,v) else p) = fun p:Sum Int Str × Sw=>decide (p.1 = q):=by
      funext p
      show decide ((if p.1 = k then (p.1,v) else p).1 = q) = decide (p.1 = q)
      split <;> rfl
    rw [e]
    cases hf:D.find? fun p:Sum Int Str × Sw=>decide (p.1 = q) with
    | none =>
      have hq:¬ q = k:=fun z=>by
        subst z
        obtain ⟨x,hx,hd⟩:=qEw.mp h
        have:=qFp.mp hf x hx
        exact this hd
      rw [if_neg hq]
      rfl
    | some x =>
      have hx:x.1 = q:=by have:=List.find?_some hf; simpa using this
      by_cases hq:q = k
      · rw [if_pos hq]
        simp [hx,hq]
      · rw [if_neg hq]
        simp [hx,hq]
  · rw [if_neg h,List.find?_append]
    have hn:∀ x∈D,¬ x.1 = k:=fun x hx e=>h (qEw.mpr ⟨x,hx,by simpa using e⟩)
    by_cases hq:q = k
    · subst hq
      have:(D.find? fun p:Sum Int Str × Sw=>decide (p.1 = q)) = none:=qFp.mpr fun x hx=>by simpa using hn x hx
      rw [this,if_pos rfl]
      simp
    · have hk:¬ k = q:=fun z=>hq z.symm
      rw [if_neg hq]
      cases D.find? fun p:Sum Int Str × Sw=>decide (p.1 = q) with
      | none=>simp [hk]
      | some x=>simp
theorem zWC:∀ s,s < 4→∀ w,w < 3→(s ^^^ (w + 1))≠s:=by decide
theorem za3 {cs:List Nat} {n e:Nat} (hl:cs.length = n) (hw:∀ c∈cs,c < 3) (he:e < 4 * n):jn cs e≠e:=fun h=>by
  have hc:cs.getD (e / 4) 0 < 3:=zH0 hw (by omega)
  have h1:=zWC (e % 4) (by omega) _ hc
  unfold jn at h
  omega
theorem zQS (f:Nat→Nat) (x p:Nat):∀ k,itr f (k + p) x = itr f k (itr f p x)
  | 0=>by rw [qBt]; rfl
  | k + 1=>by rw [show k + 1 + p = (k + p) + 1 by omega]; show f (itr f (k + p) x) = _; rw [zQS f x p k]; rfl
section
variable {ts cs:List Nat} {n e:Nat} (hN:NetN ts (4 * n)) (hne:∀ x,x < 4 * n→nt ts x≠x) (hl:cs.length = n) (hw:∀ c∈cs,c < 3) (he:e < 4 * n)
include hN hne hl hw he
theorem zQD:∀ d j,itr (stp ts cs) (j + d) e≠jn cs (itr (stp ts cs) j e):=by
  obtain ⟨st1,_⟩:=zK0 hN hl hw
  have hlt:∀ k,itr (stp ts cs) k e < 4 * n:=zEZ st1 he
  intro d
  induction d using qGm with
  | ind d ih =>
    intro j h
    match d,ih,h with
    | 0,_,h=>exact za3 hl hw (hlt j) h.symm
    | 1,_,h =>
      have:itr (stp ts cs) (j + 1) e = nt ts (jn cs (itr (stp ts cs) j e)):=rfl
      rw [this] at h
      exact hne _ (zGV hl hw (hlt j)).1 h
    | d + 2,ih,h =>
      have h1:itr (stp ts cs) (j + (d + 2)) e = nt ts (jn cs (itr (stp ts cs) (j + 1 + d) e)):=by
        rw [show j + (d + 2) = (j + 1 + d) + 1 by omega]; rfl
      rw [h1] at h
      have h2:=congrArg (nt ts) h
      rw [hN.inv _ (zGV hl hw (hlt _)).1] at h2
      have h3:=congrArg (jn cs) h2
      rw [(zGV hl hw (hlt _)).2] at h3
      exact ih d (by omega) (j + 1) h3
variable {p:Nat} (p3:itr (stp ts cs) p e = e) (p4:∀ q,1≤q→q < p→itr (stp ts cs) q e≠e)
include p3 p4
theorem zVL {i j:Nat} (hi:i < j) (hj:j < p):itr (stp ts cs) i e≠itr (stp ts cs) j e:=fun h=>by
  obtain ⟨st1,st2⟩:=zK0 hN hl hw
  have:=zJ3 st1 st2 he i (j - i) (by rw [show i + (j - i) = j by omega]; exact h)
  exact p4 (j - i) (by omega) (by omega) this
theorem zYD {i j:Nat} (hi:i < p) (hj:j < p):itr (stp ts cs) i e≠jn cs (itr (stp ts cs) j e):=fun h=>by
  by_cases z:j≤i
  · exact zQD hN hne hl hw he (i - j) j (by rw [show j + (i - j) = i by omega]; exact h)
  · have h1:itr (stp ts cs) (i + p) e = itr (stp ts cs) i e:=by rw [zQS,p3]
    exact zQD hN hne hl hw he (i + p - j) j (by rw [show j + (i + p - j) = i + p by omega,h1]; exact h)
omit hN hne hl hw he p3 p4 in
theorem orb_mem {k x:Nat}:x∈orb ts cs e k ↔ ∃ i,i < k∧(x = itr (stp ts cs) i e∨x = jn cs (itr (stp ts cs) i e)):=by
  unfold orb
  simp [List.mem_flatMap]
end
end Mp
namespace Mp
open Mi PySem
theorem zNM (x:Nat):∀ (l:List Nat) (D:Kv),(getW (zEB D l) (.inl (x:Int))).isSome = true ↔ (getW D (.inl (x:Int))).isSome = true∨x∈l
  | [],D=>by simp [zEB]
  | y :: l,D=>by
    show (getW (zEB (putW D (.inl (y:Int)) (.bl true)) l) (.inl (x:Int))).isSome = true ↔ _
    rw [zNM x l,zJ5]
    by_cases h:x = y
    · subst h
      simp
    · have:¬ (qEo (x:Int):Sum Int Str) = .inl (y:Int):=fun e=>h (by injection e with e; omega)
      rw [if_neg this]
      simp [h]
theorem zGH (f:Nat→List Nat) (x:Nat):∀ k,(getW (rdS f k).2 (.inl (x:Int))).isSome = true ↔ ∃ l∈(rdS f k).1,x∈l
  | 0=>by simp [rdS,getW]
  | k + 1=>by
    by_cases h:(getW (rdS f k).2 (.inl (k:Int))).isSome = true
    · have e:rdS f (k + 1) = rdS f k:=by rw [rdS,if_pos h]
      rw [e]
      exact zGH f x k
    · have e:rdS f (k + 1) = ((rdS f k).1 ++ [f k],zEB (rdS f k).2 (f k)):=by rw [rdS,if_neg h]
      rw [e]
      show (getW (zEB (rdS f k).2 (f k)) (.inl (x:Int))).isSome = true ↔ ∃ l∈(rdS f k).1 ++ [f k],x∈l
      rw [zNM,zGH f x k]
      constructor
      · rintro (⟨l,h1,h2⟩ | h1)
        · exact ⟨l,by simp [h1],h2⟩
        · exact ⟨f k,by simp,h1⟩
      · rintro ⟨l,h1,h2⟩
        rcases qB8.mp h1 with h3 | h3
        · exact .inl ⟨l,h3,h2⟩
        · simp at h3; subst h3; exact .inr h2
theorem zNC (f:Nat→List Nat):∀ k,∃ t,(rdS f (k + 1)).1 = f 0 :: t
  | 0=>⟨[],by simp [rdS,getW]⟩
  | k + 1=>by
    obtain ⟨t,ht⟩:=zNC f k
    by_cases h:(getW (rdS f (k + 1)).2 (.inl ((k + 1:Nat):Int))).isSome = true
    · have e:rdS f (k + 1 + 1) = rdS f (k + 1):=by rw [rdS,if_pos h]
      exact ⟨t,by rw [e]; exact ht⟩
    · have e:rdS f (k + 1 + 1) = ((rdS f (k + 1)).1 ++ [f (k + 1)],zEB (rdS f (k + 1)).2 (f (k + 1))):=by rw [rdS,if_neg h]
      exact ⟨t ++ [f (k + 1)],by rw [e]; show (rdS f (k + 1)).1 ++ [f (k + 1)] = _; rw [ht]; rfl⟩
structure Rnds (ts cs:List Nat) (n:Nat) (RR:List (List Nat)):Prop where
  prog:zBV [rowD (numL ts),rowD (numL cs)] = okR (rowsD RR)
  law:zIY [rowD (numL ts),rowD (numL cs)] = okR (rowsD RR)
  pos:1≤RR.length
  le:RR.length≤4 * n
  one:RR.length = 1→∃ F:List Nat,zD2 [rowD (numL ts),rowD (numL cs),.int 0] = okR (rowD (numL F))∧F.length = 4 * n∧∀ x∈F,x < 4 * n
theorem zQ7 {g:Nat→Nat}:∀ (l:List Nat),(∀ x∈l,∀ y∈l,g x = g y→x = y)→ords (l.map g) = (ords l).map g:=by
  refine zE7 (P:=fun l=>(∀ x∈l,∀ y∈l,g x = g y→x = y)→ords (l.map g) = (ords l).map g) (fun _=>rfl) (fun l a ih hi=>?_)
  have ih:=ih fun x hx y hy=>hi x (qB6 _ hx) y (qB6 _ hy)
  rw [qB0,qDi,zEU,zEU,ih]
  have e:g a∈(ords l).map g ↔ a∈ords l:=by
    rw [qAv]
    constructor
    · rintro ⟨b,hb,e⟩
      have hb':=(ords_mem l b).mp hb
      rw [← hi b (qB6 _ hb') a (by simp) e]
      exact hb
    · exact fun h=>⟨a,h,rfl⟩
  by_cases h:a∈ords l
  · rw [if_pos h,if_pos (e.mpr h)]
  · rw [if_neg h,if_neg fun z=>h (e.mp z),qB0,qDi]
theorem getD_idx {l:List Nat} {c:Nat} (h:c∈l):l.getD (l.idxOf c) 0 = c:=by
  have hl:=qAo h
  rw [qA0,qA3 hl]
  exact qDg hl
theorem idx_getD {l:List Nat} (hn:l.Nodup) {v:Nat} (h:v < l.length):l.idxOf (l.getD v 0) = v:=by
  rw [qA0,qA3 h]
  exact hn.idxOf_getElem v h
def rowW (cs:List Nat):List Nat:=cs.map fun c=>(ords cs).idxOf c
structure Wd (n:Nat) (cs:List Nat):Prop where
  tw:Twice n (rowW cs)
  wr:wrd (ords cs) (rowW cs) = cs
  ap:zP7 (ords cs) (rowW cs)
  od:ords (rowW cs) = qA9 n
  ol:(ords cs).length = n
  len:cs.length = 2 * n
theorem zZ9 {cs ls:List Nat} (hp:cs.Perm (ls ++ ls)) (hn:ls.Nodup):Wd ls.length cs:=by
  have mem:∀ x,x∈cs ↔ x∈ls:=fun x=>by rw [hp.mem_iff,qB8]; exact ⟨fun h=>h.elim id id,.inl⟩
  have ol:(ords cs).length = ls.length:=qF9
    (zBM _ _ (ords_nodup cs) fun x hx=>(mem x).mp ((ords_mem cs x).mp hx))
    (zBM _ _ hn fun x hx=>(ords_mem cs x).mpr ((mem x).mpr hx))
  have hl:cs.length = 2 * ls.length:=by rw [hp.length_eq,qAr]; omega
  have inj:∀ x∈cs,∀ y∈cs,(ords cs).idxOf x = (ords cs).idxOf y→x = y:=fun x hx y hy e=>by
    rw [← getD_idx ((ords_mem cs x).mpr hx),e,getD_idx ((ords_mem cs y).mpr hy)]
  have idl:∀ x∈cs,(ords cs).idxOf x < ls.length:=fun x hx=>by rw [← ol]; exact qAo ((ords_mem cs x).mpr hx)
  refine ⟨⟨by rw [rowW,qAj,hl],fun v=>?_⟩,?_,?_,?_,ol,hl⟩
  · by_cases hv:v < ls.length
    · rw [if_pos hv]
      have hm:(ords cs).getD v 0∈cs:=(ords_mem cs _).mp (zJ6 (by omega))
      rw [← zRM hp hn hm]
      unfold rowW
      rw [qFy,qGn,qFy]
      refine qFz fun c hc=>?_
      simp only [Function.comp,beq_iff_eq]
      constructor
      · intro e; rw [← e,getD_idx ((ords_mem cs c).mpr hc)]
      · intro e; rw [e,idx_getD (ords_nodup cs) (by omega)]
    · rw [if_neg hv]
      refine qFo.mpr fun h=>?_
      obtain ⟨c,hc,rfl⟩:=qAv.mp h
      exact hv (idl c hc)
  · unfold wrd rowW
    rw [qB3]
    conv=>rhs; rw [← List.map_id cs]
    exact qC7 fun c hc=>getD_idx ((ords_mem cs c).mpr hc)
  · intro x hx y hy e
    obtain ⟨c,hc,rfl⟩:=qAv.mp hx
    obtain ⟨d,hd,rfl⟩:=qAv.mp hy
    rw [getD_idx ((ords_mem cs c).mpr hc),getD_idx ((ords_mem cs d).mpr hd)] at e
    rw [e]
  · unfold rowW
    rw [zQ7 cs inj]
    refine qE5 (by simp [ol]) fun i h1 h2=>?_
    rw [qD1,qCp]
    exact (ords_nodup cs).idxOf_getElem i (by simpa using h1)
theorem zOS {α β:Type} {l:List α} {f:α→β} (h:l.Nodup) (hi:∀ x∈l,∀ y∈l,f x = f y→x = y):(l.map f).Nodup:=by
  unfold qHg
  rw [qDs]
  exact qEn (fun {a b} ha hb hab z=>hab (hi a ha b hb z)) h
theorem zUH {g:Nat→Nat} {N:Nat} (hg:∀ k,k < N→g k < N) (hi:∀ a b,a < N→b < N→g a = g b→a = b) {y:Nat} (hy:y < N):∃ k,k < N∧g k = y:=by
  refine Classical.byContradiction fun z=>?_
  have h:=zGO (a:=y :: (qA9 N).map g) (b:=qA9 N) ?_ ?_
  · simp at h; omega
  · refine qBl.mpr ⟨fun h=>?_,?_⟩
    · obtain ⟨k,hk,e⟩:=qAv.mp h
      exact z ⟨k,by simpa using hk,e⟩
    · exact zOS qE6 (fun a ha b hb e=>hi a b (by simpa using ha) (by simpa using hb) e)
  · intro x hx
    rcases qAb.mp hx with rfl | hx
    · simpa using hy
    · obtain ⟨k,hk,rfl⟩:=qAv.mp hx
      simpa using hg k (by simpa using hk)
theorem zNE {e:Nat} {v:Int}:∀ (S:List (Nat × Int)),(∀ x∈S,∀ y∈S,x.1 = y.1→x.2 = y.2)→(e,v)∈S→∀ {N:List Int},e < N.length→(puts S N).getD e 0 = v:=by
  refine zE7 (P:=fun S=>(∀ x∈S,∀ y∈S,x.1 = y.1→x.2 = y.2)→(e,v)∈S→∀ {N:List Int},e < N.length→(puts S N).getD e 0 = v) (fun _ h=>by simp at h) fun S a ih hc hm N hN=>?_
  have hl:=zFY S N
  have hs:puts (S ++ [a]) N = (puts S N).set a.1 a.2:=by unfold puts; rw [qC5]; rfl
  rw [hs,qA0]
  by_cases h:a.1 = e
  · have:=hc a (by simp) (e,v) hm h
    rw [h,qAf (by omega),this]
    rfl
  · rw [qAh h,← qA0]
    refine ih (fun x hx y hy=>hc x (qB6 _ hx) y (qB6 _ hy)) ?_ hN
    rcases qB8.mp hm with z | z
    · exact z
    · rw [qBe] at z
      exact absurd (by rw [← z]) h
noncomputable def zN (n:Nat):List Int:=qA8 (4 * n) 0
def tsW (n:Nat) (row:List Nat):List Nat:=(qA9 (4 * n)).map fun e=>((puts (lawS row row.length) (zN n)).getD e 0).toNat
section
variable {n:Nat} {row:List Nat} (t:Twice n row)
include t
theorem zNO:∀ x∈lawS row row.length,∀ y∈lawS row row.length,x.1 = y.1→x.2 = y.2:=fun x hx y hy h=>by
  unfold lawS at hx hy
  obtain ⟨l1,h1,h2⟩:=qCl.mp hx
  obtain ⟨l2,h3,h4⟩:=qCl.mp hy
  obtain ⟨a,ha,rfl⟩:=qAv.mp h1
  obtain ⟨b,hb,rfl⟩:=qAv.mp h3
  have la:a < row.length:=by simpa using ha
  exact zPF (fun a h=>t.le1 h) (qBo _ (by omega)) (qBo _ (by omega)) x h2 y h4 h
theorem zQK {k:Nat} (hk:k < row.length):(inA row k + 1,(inA row ((k + 1) % row.length):Int))∈lawS row row.length∧(inA row ((k + 1) % row.length),((inA row k + 1:Nat):Int))∈lawS row row.length:=by
  have e:tieP row ((k + 1) % row.length) = [(inA row k + 1,(inA row ((k + 1) % row.length):Int)),(inA row ((k + 1) % row.length),((inA row k + 1:Nat):Int))]:=by
    unfold tieP
    rw [zKD hk]
  have m:∀ x∈tieP row ((k + 1) % row.length),x∈lawS row row.length:=fun x hx=>qCl.mpr ⟨_,qAv.mpr ⟨k,by simpa using hk,rfl⟩,hx⟩
  rw [e] at m
  exact ⟨m _ (by simp),m _ (by simp)⟩
theorem zGZ {k:Nat} (hk:k < row.length):inA row k + 1 < 4 * n:=by
  have:=t.pos hk
  rw [t.len] at this
  omega
theorem zFJ {k:Nat} (hk:k < row.length):(puts (lawS row row.length) (zN n)).getD (inA row k + 1) 0 = (inA row ((k + 1) % row.length):Int)∧(puts (lawS row row.length) (zN n)).getD (inA row ((k + 1) % row.length)) 0 = ((inA row k + 1:Nat):Int):=by
  obtain ⟨h1,h2⟩:=zQK t hk
  have l1:=zGZ t hk
  have l2:=zGZ t (qBo (k + 1) (show 0 < row.length by omega))
  exact ⟨zNE _ (zNO t) h1 (by simp [zN]; omega),zNE _ (zNO t) h2 (by simp [zN]; omega)⟩
theorem zO0 {e:Nat} (he:e < 4 * n):∃ k,k < row.length∧(e = inA row k + 1∨e = inA row ((k + 1) % row.length)):=by
  have hl:=t.len
  have ev:∀ k,inA row k % 2 = 0:=fun k=>by unfold inA; omega
  obtain ⟨k,hk,e1⟩:=zUH (g:=fun k=>inA row k / 2) (N:=2 * n) (fun k hk=>by have:=zGZ t (k:=k) (by omega); show inA row k / 2 < 2 * n; omega) (fun a b ha hb h=>by
    have h1:=ev a
    have h2:=ev b
    have h:inA row a / 2 = inA row b / 2:=h
    exact zMK (fun a h=>t.le1 h) (by omega) (by omega) (by omega)) (y:=e / 2) (by omega)
  have h1:=ev k
  have e1:inA row k / 2 = e / 2:=e1
  by_cases h:e % 2 = 1
  · exact ⟨k,by omega,.inl (by omega)⟩
  · have hm:(k + row.length - 1) % row.length < row.length:=qBo _ (by omega)
    refine ⟨(k + row.length - 1) % row.length,hm,.inr ?_⟩
    have:((k + row.length - 1) % row.length + 1) % row.length = k:=by
      by_cases z:k = 0
      · subst z
        rw [show 0 + row.length - 1 = row.length - 1 by omega,qB2 (show row.length - 1 < row.length by omega),show row.length - 1 + 1 = row.length by omega,qHo]
      · rw [show k + row.length - 1 = (k - 1) + row.length by omega,qCe,qB2 (show k - 1 < row.length by omega),show k - 1 + 1 = k by omega,qB2 (by omega)]
    rw [this]
    omega
theorem zJX {e:Nat} (he:e < 4 * n):(puts (lawS row row.length) (zN n)).getD e 0 = (nt (tsW n row) e:Int)∧nt (tsW n row) e < 4 * n:=by
  have hv:∃ v:Nat,(puts (lawS row row.length) (zN n)).getD e 0 = (v:Int)∧v < 4 * n:=by
    obtain ⟨k,hk,rfl | rfl⟩:=zO0 t he
    · exact ⟨_,(zFJ t hk).1,by have:=zGZ t (qBo (k + 1) (show 0 < row.length by omega)); omega⟩
    · exact ⟨_,(zFJ t hk).2,zGZ t hk⟩
  obtain ⟨v,h1,h2⟩:=hv
  have:nt (tsW n row) e = v:=by
    unfold nt tsW
    rw [qA0,qAd,qD3 he]
    show ((puts (lawS row row.length) (zN n)).getD e 0).toNat = v
    rw [h1]
    rfl
  rw [this]
  exact ⟨h1,h2⟩
theorem zWM:numL (tsW n row) = puts (lawS row row.length) (zN n):=by
  have hl:(puts (lawS row row.length) (zN n)).length = 4 * n:=by rw [zFY]; simp [zN]
  refine qE5 (by rw [hl]; simp [numL,tsW]) fun i h1 h2=>?_
  have hi:i < 4 * n:=by omega
  have h:=(zJX t hi).1
  rw [qA0,qA3 h2] at h
  have h3:(numL (tsW n row))[i]? = some (nt (tsW n row) i:Int):=by
    unfold numL nt
    rw [qAd,qA0,qA3 (by simp [tsW]; exact hi)]
    rfl
  rw [qA3 h1] at h3
  rw [qB7 h3,← h]
  rfl
theorem zWN:NetN (tsW n row) (4 * n)∧∀ x,x < 4 * n→nt (tsW n row) x≠x:=by
  have ev:∀ k,inA row k % 2 = 0:=fun k=>by unfold inA; omega
  have v1:∀ {k},k < row.length→nt (tsW n row) (inA row k + 1) = inA row ((k + 1) % row.length):=fun {k} hk=>by
    have h1:=(zJX t (zGZ t hk)).1
    rw [(zFJ t hk).1] at h1
    omega
  have v2:∀ {k},k < row.length→nt (tsW n row) (inA row ((k + 1) % row.length)) = inA row k + 1:=fun {k} hk=>by
    have l2:=zGZ t (qBo (k + 1) (show 0 < row.length by omega))
    have h1:=(zJX t (e:=inA row ((k + 1) % row.length)) (by omega)).1
    rw [(zFJ t hk).2] at h1
    omega
  refine ⟨⟨by simp [tsW],fun e he=>(zJX t he).2,fun e he=>?_⟩,fun e he=>?_⟩
  · obtain ⟨k,hk,rfl | rfl⟩:=zO0 t he
    · rw [v1 hk,v2 hk]
    · rw [v2 hk,v1 hk]
  · obtain ⟨k,hk,rfl | rfl⟩:=zO0 t he
    · rw [v1 hk]; have:=ev ((k + 1) % row.length); have:=ev k; omega
    · rw [v2 hk]; have:=ev ((k + 1) % row.length); have:=ev k; omega
end
end Mp
namespace Mp
open Mi PySem
theorem zDN {cs:List Nat} (h0:0 < cs.length) (h1:cs.length≤60):zB2 [.str ⟨cs.toArray⟩] = okR (.str ⟨(sosL cs).toArray⟩):=by
  have hso:sosD [.str ⟨cs.toArray⟩] = some (.lst ((sosL cs).map sgn)):=by
    show (@ite _ (0 < (⟨cs.toArray⟩:Str).length∧(⟨cs.toArray⟩:Str).length≤60) (qA4 _) (some (Dt.lst ((sosL cs.toArray.toList).map fun c=>Dt.str ⟨#[c]⟩))) none) = _
    rw [if_pos ⟨by show 0 < cs.toArray.size; simpa using h0,by show cs.toArray.size≤60; simpa using h1⟩]
    rfl
  have hsl:(sosL cs).length≤100000:=by
    have h2:(sosL cs).length = (ded cs).length:=(qD2 _ _).length_eq
    have h3:∀ l:List Nat,(ded l).length≤l.length:=by
      intro l
      induction l with
      | nil=>exact qAa _
      | cons a r ih =>
        unfold ded
        split
        · simp only [qAu]; omega
        · simp only [qAu]; omega
    have h4:=h3 cs
    omega
  have hj:=zNQ (sosL cs) hsl
  unfold zB2 zFT
  exact zBG rfl (by simp [hso,hj])
theorem zR1 (a c:Nat):Dt.eq (sgn a) (sgn c) = decide (a = c):=by
  have:(({ cps:=#[a] }:Str) = { cps:=#[c] }) ↔ a = c:=by
    constructor
    · intro h
      have:=congrArg (fun s:Str=>s.cps.toList) h
      simpa using this
    · rintro rfl; rfl
  show Dt.eq (.str _) (.str _) = _
  rw [Dt.eq,qD6,beq_iff_eq,decide_eq_true_iff]
  exact this
theorem zNN (c:Nat):∀ l:List Nat,c∈l→(l.map sgn).findIdx? (fun y=>Dt.eq y (sgn c)) = some (l.idxOf c)
  | a :: l,h=>by
    rw [qAi,qDd,zR1,qDh]
    by_cases e:a = c
    · subst e
      simp
    · have hm:c∈l:=by
        rcases qAb.mp h with z | z
        · exact absurd z.symm e
        · exact z
      have hb:(a == c) = false:=by simpa using e
      rw [zNN c l hm]
      simp [e,hb]
  | [],h=>by simp at h
theorem zVA {c:Nat} {l:List Nat} (h:c∈l):lifD (l.map sgn) [sgn c] = some (.int (l.idxOf c:Nat)):=by
  show (if (sgn c).dep = 0∧Dt.depL (l.map sgn) = 0 then ((l.map sgn).findIdx? fun y=>Dt.eq y (sgn c)).map fun j=>Dt.int (j:Int) else none) = _
  rw [if_pos ⟨rfl,zYK (zNV l)⟩,zNN c l h]
  rfl
theorem zRD {r:Ro} {i k:Nat} {e1 e2:EM} {a b:Int} {kvs:Kv} (h:r[i]? = some (some (.dct kvs,k + 1))) (h2:e2 (full r) = okR (.int b)) (h1:e1 (full r) = okR (.int a)) (hz:kvs.length≤10000) :
    sDput i e1 e2 r = okR (.nx (r.set i (some (.dct (putW kvs (.inl a) (.int b)),k + 1)))):=by
  unfold sDput
  rw [h2,zA0,h]
  dsimp only
  rw [h1,zA0]
  exact if_pos (by omega)
theorem zGY {c:Nat} {cs:List Nat} (h:c∈cs):indexD (.str ⟨cs.toArray⟩) [sgn c] = some (.int (cs.idxOf c:Nat)):=by
  unfold indexD sgn
  simp [zIM h]
theorem zGM (cs:List Nat):((fsts cs).map fun k=>cs.getD k 0) = ords cs:=(zHT cs).symm
theorem zH2 (cs:List Nat) (hz:cs.length≤1000):zC9 [.str ⟨cs.toArray⟩] = okR (.lst ((ords cs).map sgn)):=by
  have hc:eComp (iEnX (aCons (eV 0) aNil)) 2 (.tup [1,2]) (tB (eB eqD (eMt indexD (eV 0) (aCons (eV 2) aNil)) (eV 1))) (eV 2) [some (.str ⟨cs.toArray⟩)] = okR (.lst (((fsts cs).map fun k=>cs.getD k 0).map sgn)):=by
    have:=zDE (ρ:=[some (.str ⟨cs.toArray⟩)]) (c:=tB (eB eqD (eMt indexD (eV 0) (aCons (eV 2) aNil)) (eV 1))) (e:=eV 2) (i:=1) (j:=2) (cs.map sgn) (fun k=>sgn (cs.getD k 0)) (fun k=>decide (cs.idxOf (cs.getD k 0) = k)) rfl rfl (iEnX (aCons (eV 0) aNil)) rfl (by simp; omega) (fun k x hx=>?_) (fun k x hx=>?_)
    · rw [this]
      unfold fsts
      rw [qB3,qAj]
      rfl
    · obtain ⟨hk,e⟩:=qA1.mp hx
      have hk:k < cs.length:=by simpa using hk
      have ex:x = sgn (cs.getD k 0):=by rw [← e,qD1,qA0,qA3 hk]; rfl
      subst ex
      refine eqi (mt1 rfl rfl rfl (zGY (zEP hk))) rfl ?_
      exact decide_eq_decide.mpr ⟨fun h=>by omega,fun h=>by omega⟩
    · obtain ⟨hk,e⟩:=qA1.mp hx
      have hk:k < cs.length:=by simpa using hk
      have ex:x = sgn (cs.getD k 0):=by rw [← e,qD1,qA0,qA3 hk]; rfl
      subst ex
      rfl
  rw [zGM] at hc
  refine zBG rfl (rt1 hc hc)
noncomputable def cbW (c ls O:List Nat):List Nat:=O.map fun x=>c.getD (ls.idxOf x) 0
def kvA (c:List Nat) (p s:Nat):Kv:=(qA9 (4 * p + s)).foldl (fun (m:Kv) (e:Nat)=>putW m (.inl (e:Int)) (.int (jn c e:Int))) []
theorem zSV (c:List Nat) (p s:Nat):kvA c p (s + 1) = putW (kvA c p s) (.inl ((4 * p + s:Nat):Int)) (.int (jn c (4 * p + s):Int)):=by
  unfold kvA
  rw [show 4 * p + (s + 1) = (4 * p + s) + 1 by omega,qBn,qC5]
  rfl
theorem zVF (c:List Nat) (p:Nat):∀ s,(kvA c p s).length≤4 * p + s:=fun s=>by
  unfold kvA
  generalize 4 * p + s = k
  induction k with
  | zero=>exact qAa 0
  | succ k ih =>
    rw [qBn,qC5]
    have:=zFZ ((qA9 k).foldl (fun (m:Kv) (e:Nat)=>putW m (.inl (e:Int)) (.int (jn c e:Int))) []) (.inl (k:Int)) (.int (jn c k:Int))
    show (putW _ _ _).length≤_
    omega
theorem zVG (c:List Nat) {e k:Nat} (h:e < k):getW ((qA9 k).foldl (fun (m:Kv) (e:Nat)=>putW m (.inl (e:Int)) (.int (jn c e:Int))) []) (.inl (e:Int)) = some (.int (jn c e:Int)):=by
  induction k with
  | zero=>omega
  | succ k ih =>
    rw [qBn,qC5]
    show getW (putW _ (.inl (k:Int)) _) _ = _
    rw [zJ5]
    by_cases z:e = k
    · subst z; rw [if_pos rfl]
    · rw [if_neg fun y=>z (by injection y with y; omega)]
      exact ih (by omega)
def kvL (S:List (Nat × Int)):Kv:=S.foldl (fun (m:Kv) q=>putW m (.inl (q.1:Int)) (.int q.2)) []
theorem zJ1 (S:List (Nat × Int)) (q:Nat × Int):kvL (S ++ [q]) = putW (kvL S) (.inl (q.1:Int)) (.int q.2):=by unfold kvL; rw [qC5]; rfl
theorem zVE:∀ S:List (Nat × Int),(kvL S).length≤S.length:=by
  refine zE7 (qAa 0) fun S q ih=>?_
  rw [zJ1,qAr]
  have:=zFZ (kvL S) (.inl (q.1:Int)) (.int q.2)
  simp
  omega
theorem zQM {e:Nat} {v:Int}:∀ (S:List (Nat × Int)),(∀ x∈S,∀ y∈S,x.1 = y.1→x.2 = y.2)→(e,v)∈S→getW (kvL S) (.inl (e:Int)) = some (.int v):=by
  refine zE7 (P:=fun S=>(∀ x∈S,∀ y∈S,x.1 = y.1→x.2 = y.2)→(e,v)∈S→getW (kvL S) (.inl (e:Int)) = some (.int v)) (fun _ h=>by simp at h) fun S a ih hc hm=>?_
  rw [zJ1,zJ5]
  by_cases h:a.1 = e
  · have:=hc a (by simp) (e,v) hm h
    rw [if_pos (by rw [h]),this]
  · rw [if_neg fun y=>h (by injection y with y; omega)]
    refine ih (fun x hx y hy=>hc x (qB6 _ hx) y (qB6 _ hy)) ?_
    rcases qB8.mp hm with z | z
    · exact z
    · rw [qBe] at z
      exact absurd (by rw [← z]) h
theorem zRU {n:Nat} {row:List Nat} (t:Twice n row) {e:Nat} (he:e < 4 * n):getW (kvL (lawS row row.length)) (.inl (e:Int)) = some (.int (nt (tsW n row) e:Int)):=by
  rw [← (zJX t he).1]
  obtain ⟨k,hk,rfl | rfl⟩:=zO0 t he
  · rw [(zFJ t hk).1]; exact zQM _ (zNO t) (zQK t hk).1
  · rw [(zFJ t hk).2]; exact zQM _ (zNO t) (zQK t hk).2
theorem jn4 (c:List Nat) {p s:Nat} (hs:s < 4):jn c (4 * p + s) = 4 * p + (s ^^^ (c.getD p 0 + 1)):=by
  unfold jn
  rw [show (4 * p + s) / 4 = p by omega,show (4 * p + s) % 4 = s by omega]
  omega
noncomputable def JS:Dt:=.lst [.lst [.int 1,.int 0,.int 3,.int 2],.lst [.int 2,.int 3,.int 0,.int 1],.lst [.int 3,.int 2,.int 1,.int 0]]
noncomputable def JR (w:Nat):Dt:=.lst ((qA9 4).map fun s:Nat=>Dt.int ((s ^^^ (w + 1):Nat):Int))
theorem za1 {w:Nat} (h:w < 3):ixD JS (.int (w:Int)) = some (JR w):=by
  have:w = 0∨w = 1∨w = 2:=by omega
  rcases this with rfl | rfl | rfl <;> rfl
theorem za2 (w:Nat) {s:Nat} (h:s < 4):ixD (JR w) (.int (s:Int)) = some (.int ((s ^^^ (w + 1):Nat):Int)):=by
  have:s = 0∨s = 1∨s = 2∨s = 3:=by omega
  rcases this with rfl | rfl | rfl | rfl <;> rfl
theorem app1 {r:Ro} {i n k:Nat} {e:EM} {ds:List Dt} {d:Dt} (h:r[i]? = some (some (.lst ds,k + 1))) (he:e (full r) = okR d) (hl:ds.length≤100000) (hd:d.dep = 0):sApp i n e r = okR (.nx (r.set i (some (.lst (ds ++ [d]),k + 1)))):=by
  unfold sApp
  rw [h]
  dsimp only
  rw [he,zA0]
  exact if_pos ⟨hl,by omega,by omega⟩
theorem ml1 {f:List Dt→List Dt→Option Dt} {a e:EM} {ρ:Rh} {ds:List Dt} {y d:Dt} (h1:a ρ = okR (.lst ds)) (h2:e ρ = okR y) (h:f ds [y] = some d):eMl f a (aCons e aNil) ρ = okR d:=by
  unfold eMl
  rw [h1,zA0]
  dsimp only
  rw [zB7,h2,zA0,zCO,zA0,zA0,h]
  rfl
theorem zS8 {n:Nat} {cs:List Nat} (w:Wd n cs) {k:Nat} (hk:k < cs.length):(rowW cs).getD k 0 = (ords cs).idxOf (cs.getD k 0):=by
  unfold rowW
  rw [qA0,qAd,qA0,qA3 hk]
  rfl
theorem zQW {v n:Nat} (h:v < n):(qA9 n).idxOf v = v:=by
  have:=qE6.idxOf_getElem v (by simpa using h:v < (qA9 n).length)
  rwa [qCp] at this
theorem zTW:∀ (l:List Nat) (k:Nat),k < l.length→l.idxOf (l.getD k 0)≤k
  | a :: l,0,_=>by simp
  | a :: l,k + 1,h=>by
    have ih:=zTW l k (by simpa using h)
    rw [qDh]
    show (bif a == l.getD k 0 then 0 else l.idxOf (l.getD k 0) + 1)≤k + 1
    cases a == l.getD k 0
    · exact qG8 ih
    · exact qAs _
theorem zYG {n:Nat} {cs:List Nat} (w:Wd n cs) {k:Nat} (hk:k < cs.length):inA (rowW cs) k = 4 * (ords cs).idxOf (cs.getD k 0) + 2 * (if cs.idxOf (cs.getD k 0) < k then 1 else 0):=by
  have hl:(rowW cs).length = cs.length:=by simp [rowW]
  have hkr:k < (rowW cs).length:=by omega
  have hm:=w.tw.mem ((rowW cs).getD k 0)
  have hlt:=hm.mp (zEP hkr)
  unfold inA
  rw [w.od,zQW hlt]
  have e1:cs.idxOf (cs.getD k 0) = (rowW cs).idxOf ((rowW cs).getD k 0):=by
    have:=zLR w.ap hkr
    rw [w.wr] at this
    exact this
  have f1:=zH3 hkr
  have le:=w.tw.le1 hkr
  have hle:=zTW (rowW cs) k hkr
  rw [← zS8 w hk]
  rw [e1]
  split
  · rename_i h
    have:(qFy ((rowW cs).getD k 0) (qI0 k (rowW cs)))≠0:=fun z=>by have:=f1.mpr z; omega
    omega
  · rename_i h
    have:(rowW cs).idxOf ((rowW cs).getD k 0) = k:=by omega
    rw [f1.mp this]
theorem zW6 (c ls O:List Nat) {k:Nat} (h:k < O.length):(cbW c ls O).getD k 0 = c.getD (ls.idxOf (O.getD k 0)) 0:=by
  unfold cbW
  rw [qA0,qAd,qA0 (l:=O),qA3 h]
  rfl
theorem zZ1 {c ls O:List Nat} {n:Nat} (hw:∀ x∈c,x < 3) (hc:c.length = n) (hl:ls.length = n) (hO:∀ x∈O,x∈ls):∀ x∈cbW c ls O,x < 3:=fun x hx=>by
  obtain ⟨y,hy,rfl⟩:=qAv.mp hx
  exact zH0 hw (by rw [hc,← hl]; exact qAo (hO y hy))
theorem zFK {l:List Nat} {k:Nat} {x:Dt} (h:(l.map sgn)[k]? = some x):k < l.length∧x = sgn (l.getD k 0):=by
  obtain ⟨hk,e⟩:=qA1.mp h
  have hk:k < l.length:=by simpa using hk
  exact ⟨hk,by rw [← e,qD1,qA0,qA3 hk]; rfl⟩
abbrev stA (W C L F:Dt) (l4:Nat) (kv:Kv) (o6 o7 o8 o9:Option Sl):Ro:=[some (W,0),some (C,0),some (L,0),some (F,0),some (JS,l4),some (.dct kv,1),o6,o7,o8,o9,none,none,none,none]
abbrev stB (W C L F:Dt) (l4:Nat) (kv:Kv) (o6 o7 o8 o9:Option Sl) (es:List Nat) (l10:Nat) (o11 o12 o13:Option Sl):Ro:=[some (W,0),some (C,0),some (L,0),some (F,0),some (JS,l4),some (.dct kv,1),o6,o7,o8,o9,some (rowD (numL es),l10 + 1),o11,o12,o13]
theorem zEM (l:List Nat):(Dt.lst (l.map sgn)).dep≤1:=by
  have:∀ l:List Nat,Dt.depL (l.map sgn) = 0:=fun l=>by
    induction l with
    | nil=>rfl
    | cons a l ih=>rw [qAi,Dt.depL,ih]; rfl
  rw [Dt.dep,this]
  exact qAa 1
theorem zSL (l:List Nat) (x:Nat):numL (l ++ [x]) = numL l ++ [(x:Int)]:=by simp [numL]
theorem zKX (row:List Nat) (k:Nat):lawS row (k + 1) = lawS row k ++ tieP row ((k + 1) % row.length):=by
  unfold lawS
  rw [qBn,qB0,qEd]
  simp
theorem zN0 {n:Nat} {cs c:List Nat} (w:Wd n cs) (hn:n≤10) (hc:c.length = n) (hw:∀ x∈c,x < 3) (hsl:(sosL cs).length = n) :
    nxR (forGo (.tup [6,7]) (sSeq (sSet 8 0 [4,1,7,2] (eB ixD (eV 4) (eB ixD (eV 1) (eMt indexD (eV 2) (aCons (eV 7) aNil)))))
      (sForR (iR1 (aCons (eC (.int 4)) aNil)) 9 (sDput 5 (eB addD (eB mulD (eC (.int 4)) (eV 6)) (eV 9)) (eB addD (eB mulD (eC (.int 4)) (eV 6)) (eB ixD (eV 8) (eV 9)))))) (enumD 0 ((ords cs).map sgn))
      (stA (.str ⟨cs.toArray⟩) (rowD (numL c)) (.str ⟨(sosL cs).toArray⟩) (.lst ((ords cs).map sgn)) 2 [] none none none none))
      fun r=>∃ l4 o6 o7 o8 o9,r = stA (.str ⟨cs.toArray⟩) (rowD (numL c)) (.str ⟨(sosL cs).toArray⟩) (.lst ((ords cs).map sgn)) l4 (kvA (cbW c (sosL cs) (ords cs)) n 0) o6 o7 o8 o9:=by
  have memO:∀ x∈ords cs,x∈sosL cs:=fun x hx=>(sos_mem x cs).mpr ((ords_mem cs x).mp hx)
  refine zMD ((ords cs).map sgn) (fun q r=>∃ l4 o6 o7 o8 o9,r = stA (.str ⟨cs.toArray⟩) (rowD (numL c)) (.str ⟨(sosL cs).toArray⟩) (.lst ((ords cs).map sgn)) l4 (kvA (cbW c (sosL cs) (ords cs)) q 0) o6 o7 o8 o9) ⟨2,none,none,none,none,rfl⟩ (fun k x hx r hr=>?_) fun r hr=>by rw [qAj,w.ol] at hr; exact hr
  obtain ⟨l4,o6,o7,o8,o9,rfl⟩:=hr
  obtain ⟨hk,rfl⟩:=zFK hx
  have hkn:k < n:=by rw [← w.ol]; exact hk
  have hm:=memO _ (zJ6 (d:=0) hk)
  have hi:(sosL cs).idxOf ((ords cs).getD k 0) < c.length:=by rw [hc,← hsl]; exact qAo hm
  have h3:c.getD ((sosL cs).idxOf ((ords cs).getD k 0)) 0 < 3:=zH0 hw hi
  have hcb:=zW6 c (sosL cs) (ords cs) hk
  generalize cbW c (sosL cs) (ords cs) = C' at hcb ⊢
  have hix:=zGY hm
  have hnu:=zKY c _ hi
  have hjs:=za1 h3
  rw [← hcb] at hnu hjs
  have m4:mulD (.int 4) (.int (k:Int)) = some (.int (4 * (k:Int))):=zIT (by decide) (by decide)
  have inner:∀ l4 o9,nxR (sForR (iR1 (aCons (eC (.int 4)) aNil)) 9 (sDput 5 (eB addD (eB mulD (eC (.int 4)) (eV 6)) (eV 9)) (eB addD (eB mulD (eC (.int 4)) (eV 6)) (eB ixD (eV 8) (eV 9))))
      (stA (.str ⟨cs.toArray⟩) (rowD (numL c)) (.str ⟨(sosL cs).toArray⟩) (.lst ((ords cs).map sgn)) l4 (kvA C' k 0) (some (.int (k:Int),0)) (some (sgn ((ords cs).getD k 0),0)) (some (JR (C'.getD k 0),0)) o9))
      fun r=>∃ l4 o6 o7 o8 o9,r = stA (.str ⟨cs.toArray⟩) (rowD (numL c)) (.str ⟨(sosL cs).toArray⟩) (.lst ((ords cs).map sgn)) l4 (kvA C' (k + 1) 0) o6 o7 o8 o9:=fun l4 o9=>by
    rw [zFA,zI4 (n:=4) (al0 rfl) (by omega),zA0]
    refine zOR (fun s r=>∃ o9,r = stA (.str ⟨cs.toArray⟩) (rowD (numL c)) (.str ⟨(sosL cs).toArray⟩) (.lst ((ords cs).map sgn)) l4 (kvA C' k s) (some (.int (k:Int),0)) (some (sgn ((ords cs).getD k 0),0)) (some (JR (C'.getD k 0),0)) o9) ⟨o9,rfl⟩ (fun s hs r hr=>?_) fun r hr=>?_
    · obtain ⟨o9,rfl⟩:=hr
      have hl:=zVF C' k s
      refine zAL (zRD (k:=0) (a:=((4 * k + s:Nat):Int)) (b:=(jn C' (4 * k + s):Int)) rfl (b2 (b2 rfl rfl m4) (b2 rfl rfl (za2 _ hs)) (adi (by rw [jn4 C' hs]; omega))) (b2 (b2 rfl rfl m4) rfl (adi (by omega))) (by omega)) ⟨some (.int (s:Int),0),?_⟩
      rw [zSV]
      rfl
    · obtain ⟨o9,rfl⟩:=hr
      exact ⟨l4,_,_,_,o9,by rw [show kvA C' k 4 = kvA C' (k + 1) 0 by unfold kvA; rw [show 4 * k + 4 = 4 * (k + 1) + 0 by omega]]⟩
  refine zCG fun bb hb=>?_
  have he:∀ ρ:Rh,ρ[4]? = some (some JS)→ρ[1]? = some (some (rowD (numL c)))→ρ[2]? = some (some (.str ⟨(sosL cs).toArray⟩))→ρ[7]? = some (some (sgn ((ords cs).getD k 0)))→eB ixD (eV 4) (eB ixD (eV 1) (eMt indexD (eV 2) (aCons (eV 7) aNil))) ρ = okR (JR (C'.getD k 0)):=fun ρ a4 a1 a2 a7=>b2 (v1 a4) (b2 (v1 a1) (mt1 (v1 a2) rfl (v1 a7) hix) hnu) hjs
  subst hb
  exact zPN (he _ rfl rfl rfl rfl) (he _ rfl rfl rfl rfl) (inner _ _) (inner _ _)
theorem zON (l:List Nat) (x:Nat):rowD (numL (l ++ [x])) = .lst ((numL l).map Dt.int ++ [.int (x:Int)]):=by
  unfold rowD
  rw [zSL,qB0]
  rfl
theorem zR2 {n:Nat} {cs:List Nat} (w:Wd n cs) (hn:n≤10) {C L:Dt} {l4:Nat} {kv:Kv} {o6 o7 o8 o9:Option Sl} :
    nxR (forGo (.tup [11,7]) (sApp 10 1 (eB addD (eB mulD (eC (.int 4)) (eMl lifD (eV 3) (aCons (eV 7) aNil))) (eB mulD (eC (.int 2)) (eBi intD (aCons (eB (cmpD fun i j=>decide (i < j)) (eMt indexD (eV 0) (aCons (eV 7) aNil)) (eV 11)) aNil))))) (enumD 0 (cs.map sgn))
      (stB (.str ⟨cs.toArray⟩) C L (.lst ((ords cs).map sgn)) l4 kv o6 o7 o8 o9 [] 8 none none none))
      fun r=>∃ o7 o11,r = stB (.str ⟨cs.toArray⟩) C L (.lst ((ords cs).map sgn)) l4 kv o6 o7 o8 o9 ((qA9 cs.length).map (inA (rowW cs))) 8 o11 none none:=by
  refine zMD (cs.map sgn) (fun q r=>∃ o7 o11,r = stB (.str ⟨cs.toArray⟩) C L (.lst ((ords cs).map sgn)) l4 kv o6 o7 o8 o9 ((qA9 q).map (inA (rowW cs))) 8 o11 none none) ⟨o7,none,rfl⟩ (fun k x hx r hr=>?_) fun r hr=>by rw [qAj] at hr; exact hr
  obtain ⟨o7,o11,rfl⟩:=hr
  obtain ⟨hk,rfl⟩:=zFK hx
  have hl:=w.len
  have hmc:=zEP hk
  have h1:=zVA ((ords_mem cs _).mpr hmc)
  have h2:=zGY hmc
  have m4:mulD (.int 4) (.int ((ords cs).idxOf (cs.getD k 0):Nat)) = some (.int (4 * ((ords cs).idxOf (cs.getD k 0):Nat))):=zIT (by decide) (by decide)
  have m2:mulD (.int 2) (.int (if cs.idxOf (cs.getD k 0) < k then 1 else 0)) = some (.int (2 * (if cs.idxOf (cs.getD k 0) < k then 1 else 0))):=zIT (by decide) (by decide)
  have hin:intD [.bl (decide (((cs.idxOf (cs.getD k 0):Nat):Int) < (k:Int)))] = some (.int (if cs.idxOf (cs.getD k 0) < k then 1 else 0)):=by
    by_cases z:cs.idxOf (cs.getD k 0) < k
    · rw [if_pos z,decide_eq_true (by omega)]; rfl
    · rw [if_neg z,decide_eq_false (by omega)]; rfl
  have hv:=zYG w hk
  refine zAL (app1 (k:=8) (ds:=(numL ((qA9 k).map (inA (rowW cs)))).map Dt.int) (d:=.int (inA (rowW cs) k:Int)) rfl (b2 (b2 rfl (ml1 rfl rfl h1) m4) (b2 rfl (bi1 (b2 (mt1 rfl rfl rfl h2) rfl rfl) hin) m2) (adi (by rw [hv]; split <;> omega))) (by simp [numL]; omega) rfl) ⟨some (sgn (cs.getD k 0),0),some (.int (k:Int),0),?_⟩
  rw [qBn,qB0,qDi]
  show _ = [_,_,_,_,_,_,_,_,_,_,some (rowD (numL ((qA9 k).map (inA (rowW cs)) ++ [inA (rowW cs) k])),8 + 1),_,_,_]
  rw [zON]
  rfl
theorem zP6 {n:Nat} {cs:List Nat} (w:Wd n cs) (n1:1≤n) (hn:n≤10) {C L F:Dt} {l4 l10:Nat} {kv:Kv} {o6 o7 o8 o9 o11:Option Sl} :
    nxR (forGo (.one 11) (sSeq (sSet 13 0 [10,11,0] (eB ixD (eV 10) (eB modD (eB addD (eV 11) (eC (.int 1))) (eBi lenD (aCons (eV 0) aNil)))))
      (sSeq (sDput 12 (eB addD (eB ixD (eV 10) (eV 11)) (eC (.int 1))) (eV 13)) (sDput 12 (eV 13) (eB addD (eB ixD (eV 10) (eV 11)) (eC (.int 1)))))) (nums 0 cs.length)
      (stB (.str ⟨cs.toArray⟩) C L F l4 kv o6 o7 o8 o9 ((qA9 cs.length).map (inA (rowW cs))) l10 o11 (some (.dct [],1)) none))
      fun r=>∃ o11 o13,r = stB (.str ⟨cs.toArray⟩) C L F l4 kv o6 o7 o8 o9 ((qA9 cs.length).map (inA (rowW cs))) l10 o11 (some (.dct (kvL (lawS (rowW cs) cs.length)),1)) o13:=by
  have hl:=w.len
  have hrl:(rowW cs).length = cs.length:=by simp [rowW]
  have lcs:=zCS (cs:=cs) (by omega)
  have hix:∀ k,k < cs.length→ixD (rowD (numL ((qA9 cs.length).map (inA (rowW cs))))) (.int (k:Int)) = some (.int (inA (rowW cs) k:Nat)):=fun k hk=>by
    rw [zKY _ k (by simpa using hk)]
    rw [qA0,qAd,qD3 hk]
    rfl
  have slen:∀ q,(lawS (rowW cs) q).length = 2 * q:=fun q=>by
    induction q with
    | zero=>rfl
    | succ q ih=>rw [zKX,qAr,ih]; simp [tieP]; omega
  refine zOR (fun q r=>∃ o11 o13,r = stB (.str ⟨cs.toArray⟩) C L F l4 kv o6 o7 o8 o9 ((qA9 cs.length).map (inA (rowW cs))) l10 o11 (some (.dct (kvL (lawS (rowW cs) q)),1)) o13) ⟨o11,none,rfl⟩ (fun k hk r hr=>?_) fun r hr=>hr
  obtain ⟨o11,o13,rfl⟩:=hr
  have hm:(k + 1) % cs.length < cs.length:=qBo _ (by omega)
  have i1:=hix k hk
  have i2:=hix _ hm
  have hmd:modD (.int ((k:Int) + 1)) (.int (cs.length:Int)) = some (.int (((k + 1) % cs.length:Nat):Int)):=mdi (by omega) rfl
  have l1:=zVE (lawS (rowW cs) k)
  rw [slen] at l1
  have l2:=zFZ (kvL (lawS (rowW cs) k)) (.inl ((inA (rowW cs) k + 1:Nat):Int)) (.int (inA (rowW cs) ((k + 1) % cs.length):Int))
  refine zCG fun bb hb=>zAL (ss (b2 rfl (b2 (b2 rfl rfl rfl) (bi1 rfl lcs) hmd) i2) (qAs 0)) ?_
  subst hb
  refine zCG fun bb hb=>zAL (zRD (k:=0) (a:=((inA (rowW cs) k + 1:Nat):Int)) (b:=(inA (rowW cs) ((k + 1) % cs.length):Int)) rfl rfl (b2 (b2 rfl rfl i1) rfl (adi (by omega))) (by omega)) ?_
  subst hb
  refine zAL (zRD (k:=0) (a:=(inA (rowW cs) ((k + 1) % cs.length):Int)) (b:=((inA (rowW cs) k + 1:Nat):Int)) rfl (b2 (b2 rfl rfl i1) rfl (adi (by omega))) rfl (by omega)) ⟨some (.int (k:Int),0),some (.int (inA (rowW cs) ((k + 1) % cs.length):Int),0),?_⟩
  have e:tieP (rowW cs) ((k + 1) % (rowW cs).length) = [(inA (rowW cs) k + 1,(inA (rowW cs) ((k + 1) % cs.length):Int))] ++ [(inA (rowW cs) ((k + 1) % cs.length),((inA (rowW cs) k + 1:Nat):Int))]:=by
    unfold tieP
    rw [zKD (show k < (rowW cs).length by omega),hrl]
    rfl
  rw [zKX,e,← qBh,zJ1,zJ1]
  rfl
theorem zOK {n:Nat} {cs c:List Nat} (w:Wd n cs) (n1:1≤n) (hn:n≤10) (hc:c.length = n) (hw:∀ x∈c,x < 3) (hsl:(sosL cs).length = n):zCR [.str ⟨cs.toArray⟩,rowD (numL c)] = okR (.tup [.dct (kvA (cbW c (sosL cs) (ords cs)) n 0),.dct (kvL (lawS (rowW cs) cs.length))]):=by
  have hlen:=w.len
  have hL:=zDN (cs:=cs) (by omega) (by omega)
  have hF:=zH2 cs (by omega)
  have lcs:=zCS (cs:=cs) (by omega)
  have hJ:∀ ρ:Rh,eLst (aCons (eLst (aCons (eC (.int 1)) (aCons (eC (.int 0)) (aCons (eC (.int 3)) (aCons (eC (.int 2)) aNil))))) (aCons (eLst (aCons (eC (.int 2)) (aCons (eC (.int 3)) (aCons (eC (.int 0)) (aCons (eC (.int 1)) aNil))))) (aCons (eLst (aCons (eC (.int 3)) (aCons (eC (.int 2)) (aCons (eC (.int 1)) (aCons (eC (.int 0)) aNil))))) aNil))) ρ = okR JS:=fun ρ=>by simp [JS]
  have dJ:JS.dep≤2:=by simp [JS,Dt.depL]
  refine zBG rfl (sg (c1 rfl hL) (qAs 0) (sg (c1 rfl hF) (zEM _) (sg (hJ _) dJ (sw (s2s rfl rfl rfl) ?_))))
  refine zB5 fun bb hb=>?_
  obtain ⟨r1,g1,l4,o6,o7,o8,o9,rfl⟩:=zBQ (zN0 w hn hc hw hsl)
  refine zAL (r:=stA (.str ⟨cs.toArray⟩) (rowD (numL c)) (.str ⟨(sosL cs).toArray⟩) (.lst ((ords cs).map sgn)) l4 (kvA (cbW c (sosL cs) (ords cs)) n 0) o6 o7 o8 o9) ?_ ?_
  · rw [zN1]
    exact g1
  subst hb
  refine sg el0 (by simp) ?_
  refine zB5 fun bb hb=>?_
  obtain ⟨r2,g2,p7,p11,rfl⟩:=zBQ (zR2 w hn (C:=rowD (numL c)) (L:=.str ⟨(sosL cs).toArray⟩) (l4:=l4) (kv:=kvA (cbW c (sosL cs) (ords cs)) n 0) (o6:=o6) (o7:=o7) (o8:=o8) (o9:=o9))
  refine zAL (r:=stB (.str ⟨cs.toArray⟩) (rowD (numL c)) (.str ⟨(sosL cs).toArray⟩) (.lst ((ords cs).map sgn)) l4 (kvA (cbW c (sosL cs) (ords cs)) n 0) o6 p7 o8 o9 ((qA9 cs.length).map (inA (rowW cs))) 8 p11 none none) ?_ ?_
  · rw [zN1]
    exact g2
  subst hb
  refine sw (s2s (d:=.dct []) rfl rfl rfl) ?_
  refine zB5 fun bb hb=>?_
  obtain ⟨r3,g3,q11,q13,rfl⟩:=zBQ (zP6 w n1 hn (C:=rowD (numL c)) (L:=.str ⟨(sosL cs).toArray⟩) (F:=.lst ((ords cs).map sgn)) (l4:=l4) (l10:=8) (kv:=kvA (cbW c (sosL cs) (ords cs)) n 0) (o6:=o6) (o7:=p7) (o8:=o8) (o9:=o9) (o11:=p11))
  refine zAL (r:=stB (.str ⟨cs.toArray⟩) (rowD (numL c)) (.str ⟨(sosL cs).toArray⟩) (.lst ((ords cs).map sgn)) l4 (kvA (cbW c (sosL cs) (ords cs)) n 0) o6 p7 o8 o9 ((qA9 cs.length).map (inA (rowW cs))) 8 q11 (some (.dct (kvL (lawS (rowW cs) cs.length)),1)) q13) ?_ ?_
  · rw [zFA,zI4 (n:=cs.length) (al0 (bi1 rfl lcs)) (by omega),zA0]
    exact g3
  subst hb
  exact rt1 (et2 rfl rfl) (et2 rfl rfl)
theorem dix {d k:EM} {ρ:Rh} {kvs:Kv} {a v:Int} (h1:d ρ = okR (.dct kvs)) (h2:k ρ = okR (.int a)) (h:getW kvs (.inl a) = some (.int v)):eDIx d k ρ = okR (.int v):=by
  unfold eDIx
  rw [h1,zA0]
  dsimp only
  rw [h2,zA0]
  show (match getW kvs (.inl a) with | some w=>okR (swT w) | none=>none) = _
  rw [h]
  rfl
abbrev stR (W C A L:Dt) (met:List Nat) (l4:Nat) (R:List (List Nat)) (l5:Nat) (o6 o7 o8:Option Sl):Ro:=[some (W,0),some (C,0),some (A,0),some (L,0),some (rowD (numL met),l4 + 1),some (rowsD R,l5 + 1),o6,o7,o8]
noncomputable def zY0 (r:Ro):Nat:=match (r[7]?:Option (Option Sl)) with
  | some (some (Dt.lst ds,_))=>ds.length
  | _=>0
theorem nlen (l:List Nat):((numL l).map Dt.int).length = l.length:=by simp [numL]
theorem zM3 (l:List Nat) (x y:Nat):rowD (numL (l ++ [x,y])) = .lst ((numL l).map Dt.int ++ [.int (x:Int),.int (y:Int)]):=by
  unfold rowD numL
  rw [qB0,qB0]
  rfl
theorem zM2 (l m:List Nat):rowD (numL (l ++ m)) = .lst ((numL l).map Dt.int ++ (numL m).map Dt.int):=by
  unfold rowD numL
  rw [qB0,qB0]
section
variable {ts C':List Nat} {n:Nat} (hN:NetN ts (4 * n)) (hne:∀ x,x < 4 * n→nt ts x≠x) (hl:C'.length = n) (hw:∀ c∈C',c < 3) (hn:n≤10) (n1:1≤n)
include hN hne hl hw hn n1
theorem zPA {ka kl:Kv} (hA:∀ x,x < 4 * n→getW ka (.inl (x:Int)) = some (.int (jn C' x:Int))) (hL:∀ x,x < 4 * n→getW kl (.inl (x:Int)) = some (.int (nt ts x:Int)))
    {e p:Nat} (he:e < 4 * n) (p1:1≤p) (p2:p≤4 * n) (p3:itr (stp ts C') p e = e) (p4:∀ q,1≤q→q < p→itr (stp ts C') q e≠e) {W C:Dt} {met:List Nat} {l4 l5:Nat} {R:List (List Nat)} {o6:Option Sl} :
    nxR (sWhile (tB (eB (inD true) (eV 8) (eV 7))) (sSeq (sExt 7 0 (eLst (aCons (eV 8) (aCons (eDIx (eV 2) (eV 8)) aNil)))) (sSet 8 0 [3,2,8] (eDIx (eV 3) (eDIx (eV 2) (eV 8)))))
      (stR W C (.dct ka) (.dct kl) met l4 R l5 o6 (some (.lst [],9)) (some (.int (e:Int),0))))
      fun r=>∃ o8,r = stR W C (.dct ka) (.dct kl) met l4 R l5 o6 (some (rowD (numL (orb ts C' e p)),9)) o8:=by
  obtain ⟨st1,_⟩:=zK0 hN hl hw
  have lt:∀ j,itr (stp ts C') j e < 4 * n:=zEZ st1 he
  refine zNJ (fun r=>∃ j,j≤p∧r = stR W C (.dct ka) (.dct kl) met l4 R l5 o6 (some (rowD (numL (orb ts C' e j)),9)) (some (.int (itr (stp ts C') j e:Int),0))) (fun r=>2 * p - zY0 r) (fun r=>∃ o8,r = stR W C (.dct ka) (.dct kl) met l4 R l5 o6 (some (rowD (numL (orb ts C' e p)),9)) o8) ⟨0,qAs _,rfl⟩ (by omega) ?_ fun r h=>h
  rintro r ⟨j,hj,rfl⟩
  have hin:=zNU true (itr (stp ts C') j e) (orb ts C' e j)
  by_cases z:j = p
  · subst z
    refine .inl ⟨tb1 (b2 rfl rfl (hin.trans ?_)),_,rfl⟩
    rw [if_pos rfl,decide_eq_true (orb_mem.mpr ⟨0,by omega,.inl (by rw [p3]; rfl)⟩)]
    rfl
  · have hlt:j < p:=by omega
    have hnm:itr (stp ts C') j e ∉ orb ts C' e j:=fun h=>by
      obtain ⟨i,hi,h1 | h1⟩:=orb_mem.mp h
      · exact zVL hN hne hl hw he p3 p4 hi hlt h1.symm
      · exact zYD hN hne hl hw he p3 p4 hlt (by omega) h1
    refine .inr ⟨tb1 (b2 rfl rfl (hin.trans ?_)),?_⟩
    · rw [if_pos rfl,decide_eq_false hnm]
      rfl
    have ll:=zFF ts C' e j
    have a1:=hA _ (lt j)
    have a2:=hL _ (zGV hl hw (lt j)).1
    refine zCG fun bb hb=>zAL (zUC (k:=8) (ds:=(numL (orb ts C' e j)).map Dt.int) (es:=[.int (itr (stp ts C') j e:Int),.int (jn C' (itr (stp ts C') j e):Int)]) rfl (el2 rfl (dix rfl rfl a1)) (by simp [numL,ll]; omega) (by simp [Dt.depL]) (by simp [Dt.depL])) ?_
    subst hb
    refine zAL (ss (dix rfl (dix rfl rfl a1) a2) (qAs 0)) ⟨⟨j + 1,hlt,?_⟩,?_⟩
    · rw [zG3,zM3]
      rfl
    · show 2 * p - (((numL (orb ts C' e j)).map Dt.int) ++ [Dt.int (itr (stp ts C') j e:Int),.int (jn C' (itr (stp ts C') j e):Int)]).length < 2 * p - ((numL (orb ts C' e j)).map Dt.int).length
      simp [numL,ll]
      omega
theorem zJ0 {cs:List Nat} {Cd:Dt} {ka kl:Kv} (hcs:cs.length = 2 * n) (hst:zCR [.str ⟨cs.toArray⟩,Cd] = okR (.tup [.dct ka,.dct kl]))
    (hA:∀ x,x < 4 * n→getW ka (.inl (x:Int)) = some (.int (jn C' x:Int))) (hL:∀ x,x < 4 * n→getW kl (.inl (x:Int)) = some (.int (nt ts x:Int)))
    {f:Nat→List Nat} {g:Nat→Nat} (hf:∀ e,e < 4 * n→f e = orb ts C' e (g e)∧1≤g e∧g e≤4 * n∧itr (stp ts C') (g e) e = e∧∀ q,1≤q→q < g e→itr (stp ts C') q e≠e) (hfl:∀ k,(f k).length≤8 * n) :
    zBL [.str ⟨cs.toArray⟩,Cd] = okR (rowsD (rdS f (4 * n)).1):=by
  have lcs:=zCS (cs:=cs) (by omega)
  have m2:mulD (.int 2) (.int (cs.length:Int)) = some (.int ((4 * n:Nat):Int)):=by
    rw [zIT (by decide) (by decide)]
    congr 2
    omega
  have mk:∀ k (x:Nat),(getW (rdS f k).2 (.inl (x:Int))).isSome = true ↔ x∈(rdS f k).1.flatten:=fun k x=>by
    rw [zGH,qCl]
  have fl:∀ k,(rdS f k).1.flatten.length≤k * (8 * n):=fun k=>by
    induction k with
    | zero=>simp [rdS]
    | succ k ih =>
      rw [rdS]
      split
      · rw [qEf]; omega
      · show ((rdS f k).1 ++ [f k]).flatten.length≤_
        have e:[f k].flatten = f k:=by simp
        rw [qEd,qAr,qEf,e]
        have:=hfl k
        omega
  refine zBG rfl (su (ds:=[.dct ka,.dct kl]) (c2 rfl rfl hst) rfl (sg el0 (by simp) (sg el0 (by simp) ?_)))
  refine zB5 fun bb hb=>?_
  suffices key:nxR (sForR (iR1 (aCons (eB mulD (eC (.int 2)) (eBi lenD (aCons (eV 0) aNil))) aNil)) 6 (sIf (tB (eB (inD true) (eV 6) (eV 4))) (sSeq (sSet 7 9 [] (eLst aNil)) (sSeq (sSet 8 0 [6] (eV 6)) (sSeq (sWhile (tB (eB (inD true) (eV 8) (eV 7))) (sSeq (sExt 7 0 (eLst (aCons (eV 8) (aCons (eDIx (eV 2) (eV 8)) aNil)))) (sSet 8 0 [3,2,8] (eDIx (eV 3) (eDIx (eV 2) (eV 8)))))) (sSeq (sExt 4 0 (eV 7)) (sAppF 5 [7] (eV 7)))))) sNil)
      (stR (.str ⟨cs.toArray⟩) Cd (.dct ka) (.dct kl) [] 8 [] 8 none none none)) fun r=>∃ l4 l5 o6 o7 o8,r = stR (.str ⟨cs.toArray⟩) Cd (.dct ka) (.dct kl) (rdS f (4 * n)).1.flatten l4 (rdS f (4 * n)).1 l5 o6 o7 o8∧(l5 = 0∨(rdS f (4 * n)).1 = []) by
    obtain ⟨r,h1,l4,l5,o6,o7,o8,rfl,h5⟩:=zBQ key
    refine zAL h1 ?_
    subst hb
    rcases h5 with rfl | h5
    · rfl
    · obtain ⟨t,ht⟩:=zNC f (4 * n - 1)
      rw [show 4 * n - 1 + 1 = 4 * n by omega,h5] at ht
      cases ht
  rw [zFA,zI4 (n:=4 * n) (al0 (b2 rfl (bi1 rfl lcs) m2)) (by omega),zA0]
  refine zOR (fun q r=>∃ l4 l5 o6 o7 o8,r = stR (.str ⟨cs.toArray⟩) Cd (.dct ka) (.dct kl) (rdS f q).1.flatten l4 (rdS f q).1 l5 o6 o7 o8∧(l5 = 0∨(rdS f q).1 = [])) ⟨8,8,none,none,none,rfl,.inr rfl⟩ (fun k hk r hr=>?_) fun r hr=>hr
  obtain ⟨l4,l5,o6,o7,o8,rfl,h5⟩:=hr
  have hin:=zNU true k (rdS f k).1.flatten
  by_cases hm:k∈(rdS f k).1.flatten
  · have e:rdS f (k + 1) = rdS f k:=by rw [rdS,if_pos ((mk k k).mpr hm)]
    rw [e]
    refine zAL (sf (tb1 (b2 rfl rfl (hin.trans ?_)))) ⟨l4,l5,_,_,_,rfl,h5⟩
    rw [if_pos rfl,decide_eq_true hm]
    rfl
  · have e:rdS f (k + 1) = ((rdS f k).1 ++ [f k],zEB (rdS f k).2 (f k)):=by rw [rdS,if_neg fun h=>hm ((mk k k).mp h)]
    rw [e]
    obtain ⟨q0,q1,q2,q3,q4⟩:=hf k hk
    have fk:=fl k
    have hk8:k * (8 * n)≤40 * 80:=qH1 (by omega) (by omega)
    have rl:=(zIJ (f:=f) (B:=8 * n) hfl k).1
    have fkl:=hfl k
    rw [zP9,show tB (eB (inD true) (eV 6) (eV 4)) (full ((stR (.str ⟨cs.toArray⟩) Cd (.dct ka) (.dct kl) (rdS f k).1.flatten l4 (rdS f k).1 l5 o6 o7 o8).set 6 (some (.int (k:Nat),0)))) = okR true from tb1 (b2 rfl rfl (hin.trans (by rw [if_pos rfl,decide_eq_false hm]; rfl))),zA0,if_pos rfl]
    refine zCG fun bb hb=>zAL (ss el0 (by simp)) ?_
    subst hb
    refine zCG fun bb hb=>zAL (ss (d:=.int (k:Int)) rfl (qAs 0)) ?_
    subst hb
    refine zCG fun bb hb=>?_
    obtain ⟨r',g1,p8,rfl⟩:=zBQ (zPA hN hne hl hw hn n1 hA hL hk q1 q2 q3 q4 (W:=.str ⟨cs.toArray⟩) (C:=Cd) (met:=(rdS f k).1.flatten) (l4:=l4) (l5:=l5) (R:=(rdS f k).1) (o6:=some (.int (k:Int),0)))
    refine zAL g1 ?_
    subst hb
    rw [← q0]
    refine zCG fun bb hb=>zAL (zUC (k:=l4) (ds:=(numL (rdS f k).1.flatten).map Dt.int) (es:=(numL (f k)).map Dt.int) rfl rfl (by rw [nlen,nlen]; omega) (by rw [zD3]; exact qAs _) (by rw [zD3]; exact qAs _)) ?_
    subst hb
    refine zAL (zLN (R:=(rdS f k).1) (l:=f k) (lv:=l5) (lx:=9) rfl rfl (by decide) (fun ρ h=>v1 h) (by omega)) ⟨l4,0,some (.int (k:Int),0),some (rowD (numL (f k)),0),p8,?_,.inl rfl⟩
    have e2:((rdS f k).1 ++ [f k]).flatten = (rdS f k).1.flatten ++ f k:=by simp
    show _ = [_,_,_,_,some (rowD (numL ((rdS f k).1 ++ [f k]).flatten),l4 + 1),_,_,_,_]
    rw [e2,zM2]
    rfl
end
end Mp
namespace Mp
open Mi PySem
theorem cn2 {m:FM} {e1 e2:EM} {ρ:Rh} {d1 d2 d:Dt} (h1:e1 ρ = okR d1) (h2:e2 ρ = okR d2) (h:m [d1,d2] = okR d):eCallN m (aCons e1 (aCons e2 aNil)) ρ = okR d:=by
  unfold eCallN
  rw [zB7,h1,zA0,zB7,h2,zA0,zCO,zA0,zA0,zA0,h]
  rfl
theorem cn3 {m:FM} {e1 e2 e3:EM} {ρ:Rh} {d1 d2 d3 d:Dt} (h1:e1 ρ = okR d1) (h2:e2 ρ = okR d2) (h3:e3 ρ = okR d3) (h:m [d1,d2,d3] = okR d):eCallN m (aCons e1 (aCons e2 (aCons e3 aNil))) ρ = okR d:=by
  unfold eCallN
  rw [zB7,h1,zA0,zB7,h2,zA0,zB7,h3,zA0,zCO,zA0,zA0,zA0,zA0,h]
  rfl
theorem zK6:∀ l:List Nat,Dt.depL (l.map sgn) = 0
  | []=>rfl
  | a :: l=>by rw [qAi,Dt.depL,zK6 l]; rfl
theorem zVC (l:List Nat) (x:Nat):lcoD (l.map sgn) [sgn x] = some (.int (l.count x:Nat)):=by
  show (if (sgn x).dep = 0∧Dt.depL (l.map sgn) = 0 then some (Dt.int ((l.map sgn).countP fun y=>Dt.eq y (sgn x):Nat)) else none) = _
  rw [if_pos ⟨rfl,zK6 l⟩,qGn,qFy]
  congr 3
  refine qFz fun y _=>?_
  show Dt.eq (sgn y) (sgn x) = true ↔ (y == x) = true
  rw [zR1]
  simp
noncomputable def knw (c:List Nat):List Nat:=(qA9 c.length).filter fun k=>decide (c.getD k 0≠0)
noncomputable def plc (O es:List Nat):List Nat:=es.map fun e=>O.getD (e / 4) 0
def onc (c ls O es:List Nat):List Nat:=(qA9 (knw c).length).filter fun i=>decide ((plc O es).count (ls.getD ((knw c).getD i 0) 0) = 2)
theorem zLA (c:List Nat) (hz:c.length≤1000):zBK [rowD (numL c)] = okR (rowD (numL (knw c))):=by
  have hl:lenD [rowD (numL c)] = some (.int (c.length:Int)):=by unfold rowD; simp [numL]
  have hc:=zDD (ρ:=[some (rowD (numL c))]) (c:=tB (eB neD (eB ixD (eV 0) (eV 1)) (eC (.int 0)))) (e:=eV 1) (i:=1) (fun k:Nat=>Dt.int (k:Int)) (fun k:Nat=>Dt.int (k:Int)) (fun k:Nat=>decide (c.getD k 0≠0)) (qA9 c.length) rfl (fun k hk=>by
    have hk:k < c.length:=by simpa using hk
    refine nei (b2 rfl rfl (zKY c k hk)) rfl ?_
    by_cases z:c.getD k 0 = 0
    · rw [decide_eq_true (by omega),decide_eq_false (fun y=>y z)]; rfl
    · rw [decide_eq_false (by omega),decide_eq_true z]; rfl) (fun k _ _=>rfl) (iR1 (aCons (eBi lenD (aCons (eV 0) aNil)) aNil)) (by rw [zI4 (n:=c.length) (al0 (bi1 rfl hl)) (by omega),zG4]) (by simp; omega)
  have hc2:eComp (iR1 (aCons (eBi lenD (aCons (eV 0) aNil)) aNil)) 1 (.one 1) (tB (eB neD (eB ixD (eV 0) (eV 1)) (eC (.int 0)))) (eV 1) [some (rowD (numL c))] = okR (rowD (numL (knw c))):=by
    rw [hc,numD]
    rfl
  exact zBG rfl (rt1 hc2 hc2)
theorem zGI {O es:List Nat} {n i j k:Nat} {ρ:Rh} {F:Dt} (hO:ρ[j]? = some (some F)) (hE:ρ[k]? = some (some (rowD (numL es)))) (hi:i = ρ.length) (hF:∀ p,p < n→ixD F (.int (p:Int)) = some (sgn (O.getD p 0))) (he:∀ e∈es,e < 4 * n) (hz:es.length≤1000) (hj:j < ρ.length) (hk:k < ρ.length) :
    eComp (iSq (eV k)) 1 (.one i) Mi.tYes (eB ixD (eV j) (eB divD (eV i) (eC (.int 4)))) ρ = okR (.lst ((plc O es).map sgn)):=by
  have:=zD5 (ρ:=ρ) (c:=tYes) (i:=i) (e:=eB ixD (eV j) (eB divD (eV i) (eC (.int 4)))) (fun e:Nat=>Dt.int (e:Int)) (fun e:Nat=>sgn (O.getD (e / 4) 0)) es rfl hi (fun e hm=>?_) (iSq (eV k)) ?_ (by omega)
  · rw [this]
    unfold plc
    rw [qB3]
    rfl
  · have h4:=hF (e / 4) (by have:=he e hm; omega)
    have g1:(ρ ++ [some (Dt.int (e:Int))])[j]? = some (some F):=by rw [qA7 hj]; exact hO
    have g2:(ρ ++ [some (Dt.int (e:Int))])[i]? = some (some (Dt.int (e:Int))):=by rw [hi,qA6 (qAa _)]; simp
    exact b2 (v1 g1) (b2 (v1 g2) rfl (dvi (by decide))) h4
  · rw [zRX,v1 hE,zA0,numD]
theorem zKI {c ls O es:List Nat} {ρ:Rh} {i j k:Nat} (hP:ρ[k]? = some (some (.lst ((plc O es).map sgn)))) (hi:i = ρ.length) (hj:j = ρ.length + 1) (hk:k < ρ.length) {it:IM} {e:EM} (xs:List Dt) (hxl:xs.length = (knw c).length) (hit:it ρ = okR (enumD 0 xs))
    (he:∀ q x,xs[q]? = some x→e (ρ ++ [some (.int (q:Nat)),some x]) = okR (sgn (ls.getD ((knw c).getD q 0) 0))) (hz:(knw c).length≤1000) :
    eComp it 2 (.tup [i,j]) (tB (eB eqD (eMl lcoD (eV k) (aCons e aNil)) (eC (.int 2)))) (eV i) ρ = okR (rowD (numL (onc c ls O es))):=by
  have:=zDE (ρ:=ρ) (c:=tB (eB eqD (eMl lcoD (eV k) (aCons e aNil)) (eC (.int 2)))) (e:=eV i) (i:=i) (j:=j) xs (fun q=>Dt.int (q:Int)) (fun q=>decide ((plc O es).count (ls.getD ((knw c).getD q 0) 0) = 2)) hi hj it hit (by omega) (fun q x hx=>?_) (fun q x hx=>?_)
  · rw [this,hxl,numD]
    rfl
  · have g1:(ρ ++ [some (Dt.int (q:Nat)),some x])[k]? = some (some (.lst ((plc O es).map sgn))):=by rw [qA7 hk]; exact hP
    refine eqi (ml1 (v1 g1) (he q x hx) (zVC _ _)) rfl ?_
    exact decide_eq_decide.mpr ⟨fun h=>by omega,fun h=>by omega⟩
  · exact v1 (by rw [hi,qA6 (qAa _)]; simp)
theorem zY1 {c:List Nat} {q:Nat} (h:q < (knw c).length):(knw c).getD q 0 < c.length:=by
  have hm:(knw c).getD q 0∈(qA9 c.length).filter fun k=>decide (c.getD k 0≠0):=zJ6 (d:=0) h
  exact qCn.mp (qD5.mp hm).1
theorem ien {ρ:Rh} {e:EM} {xs:List Dt} (h:e ρ = okR (.lst xs)):iEn (aCons e aNil) ρ = okR (enumD 0 xs):=by
  unfold iEn
  rw [al0 h,zA0]
theorem zT1 {l:List Nat} {q:Nat} {x:Dt} (h:((numL l).map Dt.int)[q]? = some x):q < l.length∧x = .int (l.getD q 0:Nat):=by
  obtain ⟨hk,e⟩:=qA1.mp h
  have hk:q < l.length:=by simpa [numL] using hk
  refine ⟨hk,?_⟩
  rw [← e,qD1,qA0,qA3 hk]
  simp [numL]
section
variable {n:Nat} {cs c:List Nat} (w:Wd n cs) (n1:1≤n) (hn:n≤10) (hc:c.length = n) (hsl:(sosL cs).length = n)
include w n1 hn hc hsl
theorem zQN:(knw c).length≤10:=by
  have:=qDy (fun k=>decide (c.getD k 0≠0)) (qA9 c.length)
  rw [qDr] at this
  have:(knw c).length≤c.length:=this
  omega
theorem zHE {es:List Nat} (he:∀ e∈es,e < 4 * n) (hz:es.length≤1000):zB0 [.str ⟨cs.toArray⟩,rowD (numL c),rowD (numL es)] = okR (rowD (numL (onc c (sosL cs) (ords cs) es))):=by
  have hlen:=w.len
  have hk:=zQN w n1 hn hc hsl
  have hL:=zDN (cs:=cs) (by omega) (by omega)
  have hO:=zD1 cs (by omega)
  rw [zGM] at hO
  have hch:=zLA c (by omega)
  have H:∀ ρ:Rh,ρ.length = 6→ρ[1]? = some (some (rowD (numL c)))→ρ[3]? = some (some (.str ⟨(sosL cs).toArray⟩))→ρ[5]? = some (some (.lst ((plc (ords cs) es).map sgn)))→eComp (iEn (aCons (eCall zBK (aCons (eV 1) aNil)) aNil)) 2 (.tup [6,7]) (tB (eB eqD (eMl lcoD (eV 5) (aCons (eB ixD (eV 3) (eV 7)) aNil)) (eC (.int 2)))) (eV 6) ρ = okR (rowD (numL (onc c (sosL cs) (ords cs) es))):=fun ρ hl h1 h3 h5=>by
    refine zKI h5 (by omega) (by omega) (by omega) ((numL (knw c)).map Dt.int) (by simp [numL]) (ien (c1 (v1 h1) hch)) (fun q x hx=>?_) (by omega)
    obtain ⟨hq,rfl⟩:=zT1 hx
    have hlt:=zY1 hq
    refine b2 (v1 ?_) (v1 ?_) (zNS (by omega) (by omega))
    · rw [qA7 (by omega)]; exact h3
    · rw [qA6 (by omega),hl]; rfl
  have hP:=fun ρ h4 h2 hl=>zGI (O:=ords cs) (es:=es) (n:=n) (i:=6) (j:=4) (k:=2) (ρ:=ρ) (F:=.str ⟨(ords cs).toArray⟩) h4 h2 hl (fun p hp=>zNS (by rw [w.ol]; exact hp) (by rw [w.ol]; omega)) he hz
  exact zBG rfl (sg (c1 rfl hL) (qAs 0) (sg (c1 rfl hO) (qAs 0) (sg (hP _ rfl rfl rfl (show 4 < 6 by decide) (show 2 < 6 by decide)) (zEM _) (rt1 (H _ rfl rfl rfl rfl) (H _ rfl rfl rfl rfl)))))
theorem zHK (hw:∀ x∈c,x < 3):zCM [.str ⟨cs.toArray⟩,rowD (numL c)] = okR (rowD (numL (cbW c (sosL cs) (ords cs)))):=by
  have hlen:=w.len
  have hL:=zDN (cs:=cs) (by omega) (by omega)
  have hO:=zD1 cs (by omega)
  rw [zGM] at hO
  have H:∀ ρ:Rh,ρ.length = 3→ρ[0]? = some (some (.str ⟨cs.toArray⟩))→ρ[1]? = some (some (rowD (numL c)))→ρ[2]? = some (some (.str ⟨(sosL cs).toArray⟩))→eComp (iSq (eCall zAR (aCons (eV 0) aNil))) 1 (.one 3) Mi.tYes (eB ixD (eV 1) (eMt findD (eV 2) (aCons (eV 3) aNil))) ρ = okR (rowD (numL (cbW c (sosL cs) (ords cs)))):=fun ρ hl h0 h1 h2=>by
    have:=zD5 (ρ:=ρ) (c:=tYes) (i:=3) (e:=eB ixD (eV 1) (eMt findD (eV 2) (aCons (eV 3) aNil))) sgn (fun x:Nat=>Dt.int ((c.getD ((sosL cs).idxOf x) 0:Nat):Int)) (ords cs) rfl (by omega) (fun x hx=>?_) (iSq (eCall zAR (aCons (eV 0) aNil))) ?_ (by rw [w.ol]; omega)
    · rw [this,numD]
      unfold cbW
      rw [qB3]
      rfl
    · have hm:=(sos_mem x cs).mpr ((ords_mem cs x).mp hx)
      have hi:=qAo hm
      refine b2 (v1 ?_) (mt1 (v1 ?_) rfl (v1 ?_) (zG6 hm)) (zKY c _ (by omega))
      · rw [qA7 (by omega)]; exact h1
      · rw [qA7 (by omega)]; exact h2
      · rw [qA6 (by omega),hl]; rfl
    · rw [zRX,c1 (v1 h0) hO,zA0]
      rfl
  exact zBG rfl (sg (c1 rfl hL) (qAs 0) (rt1 (H _ rfl rfl rfl rfl) (H _ rfl rfl rfl rfl)))
theorem zZX (h8:n≤8):zBY [.str ⟨cs.toArray⟩] = okR (rowD (numL (tsW n (rowW cs)))):=by
  have hlen:=w.len
  have hrl:(rowW cs).length = 2 * n:=w.tw.len
  have h:=zSN w.ap (by omega) (by omega) (fun a h=>w.tw.le1 h) (fun a h=>w.tw.pos h) (by rw [w.od]; simpa using h8)
  rw [w.wr] at h
  rw [h,zWM w.tw]
  unfold zN
  rw [show 2 * (rowW cs).length = 4 * n by omega]
theorem zMA {R:List (List Nat)} (hnet:zBY [.str ⟨cs.toArray⟩] = okR (rowD (numL (tsW n (rowW cs))))) (hcb:zCM [.str ⟨cs.toArray⟩,rowD (numL c)] = okR (rowD (numL (cbW c (sosL cs) (ords cs)))))
    (hro:zBV [rowD (numL (tsW n (rowW cs))),rowD (numL (cbW c (sosL cs) (ords cs)))] = okR (rowsD R)) (hR:R.length≤1000) (he:∀ l∈R,(∀ e∈l,e < 4 * n)∧l.length≤1000) :
    zB1 [.str ⟨cs.toArray⟩,rowD (numL c)] = okR (rowsD (R.map (onc c (sosL cs) (ords cs)))):=by
  have H:∀ ρ:Rh,ρ.length = 3→ρ[0]? = some (some (.str ⟨cs.toArray⟩))→ρ[1]? = some (some (rowD (numL c)))→ρ[2]? = some (some (rowsD R))→eComp (iSq (eV 2)) 1 (.one 3) Mi.tYes (eCallN zB0 (aCons (eV 0) (aCons (eV 1) (aCons (eV 3) aNil)))) ρ = okR (rowsD (R.map (onc c (sosL cs) (ords cs)))):=fun ρ hl h0 h1 h2=>by
    have:=zD5 (ρ:=ρ) (c:=tYes) (i:=3) (e:=eCallN zB0 (aCons (eV 0) (aCons (eV 1) (aCons (eV 3) aNil)))) (fun l:List Nat=>rowD (numL l)) (fun l:List Nat=>rowD (numL (onc c (sosL cs) (ords cs) l))) R rfl (by omega) (fun l hm=>?_) (iSq (eV 2)) ?_ (by omega)
    · rw [this]
      unfold rowsD
      rw [qB3]
      rfl
    · refine cn3 (v1 ?_) (v1 ?_) (v1 ?_) (zHE w n1 hn hc hsl (he l hm).1 (he l hm).2)
      · rw [qA7 (by omega)]; exact h0
      · rw [qA7 (by omega)]; exact h1
      · rw [qA6 (by omega),hl]; rfl
    · rw [zRX,v1 h2,zA0]
      rfl
  have d:=zEO (R.map (onc c (sosL cs) (ords cs)))
  refine zBG rfl (zB5 fun bb hb=>?_)
  have h:=cn2 (m:=zBV) (e1:=eCall zBY (aCons (eV 0) aNil)) (e2:=eCallN zCM (aCons (eV 0) (aCons (eV 1) aNil))) (ρ:=[some (.str ⟨cs.toArray⟩),some (rowD (numL c)),none]) (c1 rfl hnet) (cn2 rfl rfl hcb) hro
  refine zPN (d:=rowsD R) h h ?_ ?_
  · subst hb
    exact sr (H _ rfl rfl rfl rfl) ⟨d,d⟩
  · subst hb
    exact sr (H _ rfl rfl rfl rfl) ⟨d,d⟩
end
end Mp
namespace Mp
open Mi PySem
theorem zPQ (A:List (List Nat)) (l:List Nat):rowsD (A ++ [l]) = .lst ((A.map fun l=>rowD (numL l)) ++ [rowD (numL l)]):=by
  unfold rowsD
  rw [qB0]
  rfl
abbrev stO (W C L F K:Dt) (A:List (List Nat)) (o6 o7:Option Sl):Ro:=[some (W,0),some (C,0),some (L,0),some (F,1),some (K,1),some (rowsD A,8 + 1),o6,o7]
section
variable {n:Nat} {cs c:List Nat} (w:Wd n cs) (n1:1≤n) (hn:n≤10) (hc:c.length = n) (hsl:(sosL cs).length = n)
include w n1 hn hc hsl
theorem zOU {R:List (List Nat)} (hR:zBL [.str ⟨cs.toArray⟩,rowD (numL c)] = okR (rowsD R)) (hRl:R.length≤1000) (he:∀ l∈R,(∀ e∈l,e < 4 * n)∧l.length≤1000) :
    zEC [.str ⟨cs.toArray⟩,rowD (numL c)] = okR (rowsD (R.map (onc c (sosL cs) (ords cs)))):=by
  have hlen:=w.len
  have hk:=zQN w n1 hn hc hsl
  have hL:=zDN (cs:=cs) (by omega) (by omega)
  have hF:=zH2 cs (by omega)
  have hK:∀ ρ:Rh,ρ.length = 8→ρ[1]? = some (some (rowD (numL c)))→ρ[2]? = some (some (.str ⟨(sosL cs).toArray⟩))→eComp (iEnX (aCons (eV 2) aNil)) 2 (.tup [8,9]) (tB (eB neD (eB ixD (eV 1) (eV 8)) (eC (.int 0)))) (eV 9) ρ = okR (.lst (((knw c).map fun k=>(sosL cs).getD k 0).map sgn)):=fun ρ hl h1 h2=>by
    have:=zDE (ρ:=ρ) (c:=tB (eB neD (eB ixD (eV 1) (eV 8)) (eC (.int 0)))) (e:=eV 9) (i:=8) (j:=9) ((sosL cs).map sgn) (fun q=>sgn ((sosL cs).getD q 0)) (fun q=>decide (c.getD q 0≠0)) (by omega) (by omega) (iEnX (aCons (eV 2) aNil)) (by unfold iEnX; rw [al0 (v1 h2),zA0]; rfl) (by simp; omega) (fun q x hx=>?_) (fun q x hx=>?_)
    · rw [this,qAj,hsl,← hc,qB3]
      rfl
    · obtain ⟨hq,rfl⟩:=zFK hx
      refine nei (b2 (v1 ?_) (v1 ?_) (zKY c q (by omega))) rfl ?_
      · rw [qA7 (by omega)]; exact h1
      · rw [qA6 (by omega),hl]; rfl
      · by_cases z:c.getD q 0 = 0
        · rw [decide_eq_true (by omega),decide_eq_false (fun y=>y z)]; rfl
        · rw [decide_eq_false (by omega),decide_eq_true z]; rfl
    · obtain ⟨hq,rfl⟩:=zFK hx
      exact v1 (by rw [qA6 (by omega),hl]; rfl)
  refine zBG rfl (sg (c1 rfl hL) (qAs 0) (sg (c1 rfl hF) (zEM _) (sg (hK _ rfl rfl rfl) (zEM _) (sg el0 (by simp) ?_))))
  refine zB5 fun bb hb=>?_
  have hP:=fun (es:List Nat) ρ h4 h2 hl he hz=>zGI (O:=ords cs) (es:=es) (n:=n) (i:=8) (j:=3) (k:=6) (ρ:=ρ) (F:=.lst ((ords cs).map sgn)) h4 h2 hl (fun p hp=>zC7 (j:=p) (v:=sgn ((ords cs).getD p 0)) rfl (by rw [qAd,qA0,qA3 (by rw [w.ol]; exact hp)]; rfl)) he hz
  have hQ:∀ (es:List Nat) (ρ:Rh),ρ.length = 8→ρ[4]? = some (some (.lst (((knw c).map fun k=>(sosL cs).getD k 0).map sgn)))→ρ[7]? = some (some (.lst ((plc (ords cs) es).map sgn)))→eComp (iEn (aCons (eV 4) aNil)) 2 (.tup [8,9]) (tB (eB eqD (eMl lcoD (eV 7) (aCons (eV 9) aNil)) (eC (.int 2)))) (eV 8) ρ = okR (rowD (numL (onc c (sosL cs) (ords cs) es))):=fun es ρ hl h4 h7=>by
    refine zKI h7 (by omega) (by omega) (by omega) (((knw c).map fun k=>(sosL cs).getD k 0).map sgn) (by simp) (ien (v1 h4)) (fun q x hx=>?_) (by omega)
    obtain ⟨hq,rfl⟩:=zFK hx
    have hq':q < (knw c).length:=by simpa using hq
    have e:((knw c).map fun k=>(sosL cs).getD k 0).getD q 0 = (sosL cs).getD ((knw c).getD q 0) 0:=by
      rw [qA0,qAd,qA0 (l:=knw c),qA3 hq']
      rfl
    rw [e]
    exact v1 (by rw [qA6 (by omega),hl]; rfl)
  suffices key:nxR (forGo (.one 6) (sSeq (sSet 7 1 [3,6] (eComp (iSq (eV 6)) 1 (.one 8) Mi.tYes (eB ixD (eV 3) (eB divD (eV 8) (eC (.int 4)))))) (sApp 5 1 (eComp (iEn (aCons (eV 4) aNil)) 2 (.tup [8,9]) (tB (eB eqD (eMl lcoD (eV 7) (aCons (eV 9) aNil)) (eC (.int 2)))) (eV 8)))) (R.map fun l=>rowD (numL l))
      (stO (.str ⟨cs.toArray⟩) (rowD (numL c)) (.str ⟨(sosL cs).toArray⟩) (.lst ((ords cs).map sgn)) (.lst (((knw c).map fun k=>(sosL cs).getD k 0).map sgn)) [] none none)) fun r=>∃ o6 o7,r = stO (.str ⟨cs.toArray⟩) (rowD (numL c)) (.str ⟨(sosL cs).toArray⟩) (.lst ((ords cs).map sgn)) (.lst (((knw c).map fun k=>(sosL cs).getD k 0).map sgn)) (R.map (onc c (sosL cs) (ords cs))) o6 o7 by
    obtain ⟨r,h1,o6,o7,rfl⟩:=zBQ key
    refine zAL (r:=stO (.str ⟨cs.toArray⟩) (rowD (numL c)) (.str ⟨(sosL cs).toArray⟩) (.lst ((ords cs).map sgn)) (.lst (((knw c).map fun k=>(sosL cs).getD k 0).map sgn)) (R.map (onc c (sosL cs) (ords cs))) o6 o7) ?_ ?_
    · rw [zN1,zRX,c2 rfl rfl hR,zA0]
      exact h1
    · subst hb
      rfl
  refine zQC (fun l=>rowD (numL l)) R (fun q r=>∃ o6 o7,r = stO (.str ⟨cs.toArray⟩) (rowD (numL c)) (.str ⟨(sosL cs).toArray⟩) (.lst ((ords cs).map sgn)) (.lst (((knw c).map fun k=>(sosL cs).getD k 0).map sgn)) ((R.take q).map (onc c (sosL cs) (ords cs))) o6 o7) ⟨none,none,rfl⟩ (fun q l hq r hr=>?_) fun r hr=>by rw [qGd] at hr; exact hr
  obtain ⟨o6,o7,rfl⟩:=hr
  have hm:=qBx hq
  obtain ⟨hql,hqe⟩:=qA1.mp hq
  obtain ⟨e1,e2⟩:=he l hm
  refine zCG fun bb hb=>zAL (ss (hP l _ rfl rfl rfl e1 e2 (show 3 < 8 by decide) (show 6 < 8 by decide)) (zEM _)) ?_
  subst hb
  refine zAL (zWF (k:=8) (ds:=((R.take q).map (onc c (sosL cs) (ords cs))).map fun l=>rowD (numL l)) rfl (hQ l _ rfl rfl rfl) (by simp; omega) (by unfold rowD; simp) (by unfold rowD; simp)) ⟨some (rowD (numL l),0),some (.lst ((plc (ords cs) l).map sgn),1),?_⟩
  rw [qDj hql,hqe,qB0,qDi]
  show _ = [_,_,_,_,_,some (rowsD (_ ++ [_]),8 + 1),_,_]
  rw [zPQ]
  rfl
end
theorem zS7 (M:List (List Nat)):rowsD M = mat (M.map numL):=by
  unfold rowsD mat
  rw [qB3]
  rfl
theorem zM1 (M:List (List Nat)) (h1:M.length≤1000) (h2:∀ l∈M,l.length≤1000):zC8 [rowsD M,rowsD M] = okR (.bl true):=by
  have hl:lenD [rowsD M] = some (.int (M.length:Int)):=by unfold rowsD; simp
  have heq:Dt.eq (rowsD M) (rowsD M) = true:=by rw [zS7,zYN]; simp
  have hd:(rowsD M).dep≤40:=qAq (zEO M) (by decide)
  have hw:=zL1
  have isl:∀ ρ:Rh,∀ i d ds,ρ[i]? = some (some d)→d = .lst ds→eIsi "list" (eV i) ρ = okR (.bl true):=fun ρ i d ds h e=>by
    subst e
    unfold eIsi
    rw [v1 h]
    rfl
  have row:∀ l∈M,∀ o1,sIf (Mi.tOr (tNo (tM (eIsi "list" (eV 2)))) (tNo (tM (eBi allD (aCons (eComp (iSq (eV 2)) 1 (.one 3) Mi.tYes (eCall zBN (aCons (eV 3) aNil))) aNil))))) (sRet 0 0 [] (eC (.bl false))) sNil [some (rowsD M,0),o1,some (rowD (numL l),0)] = okR (.nx [some (rowsD M,0),o1,some (rowD (numL l),0)]):=fun l hm o1=>by
    have hc:=zD5 (ρ:=full [some (rowsD M,0),o1,some (rowD (numL l),0)]) (c:=tYes) (i:=3) (e:=eCall zBN (aCons (eV 3) aNil)) (fun k:Int=>Dt.int k) (fun _=>Dt.bl true) (numL l) rfl rfl (fun k _=>c1 rfl (hw k)) (iSq (eV 2)) rfl (by have:=h2 l hm; simp [numL]; omega)
    exact sf (to0 (tn1 (k:=true) (tm1 (isl _ 2 _ _ rfl rfl))) (tn1 (k:=true) (tm1 (bi1 hc (zP5 _)))))
  refine zBG rfl (sp (to0 (tn1 (k:=true) (tm1 (isl _ 0 _ _ rfl rfl))) (nei (bi1 rfl hl) (bi1 rfl hl) (by rw [decide_eq_true rfl]; rfl))) ?_)
  refine zB5 fun bb hb=>?_
  rw [zN1]
  show nxR (zA3 (okR (M.map fun l=>rowD (numL l))) _) _
  rw [zA0]
  refine zQC (fun l=>rowD (numL l)) M (fun _ r=>∃ o2,r = [some (rowsD M,0),some (rowsD M,0),o2]) ⟨none,rfl⟩ (fun q l hq r hr=>?_) fun r hr=>?_
  · obtain ⟨o2,rfl⟩:=hr
    exact zAL (row l (qBx hq) _) ⟨_,rfl⟩
  · obtain ⟨o2,rfl⟩:=hr
    subst hb
    refine sr (b2 rfl rfl ?_) ⟨qAa 0,qAa 0⟩
    unfold eqD
    rw [if_pos ⟨hd,hd⟩,heq]
end Mp
namespace Mp
open Mi PySem
theorem zW3 (ns:List Int) (n:Nat) (hn:n≤10):∃ c:List Nat,c.length = n∧(∀ x∈c,x < 3)∧zDC [.scr ns,.int 30,.int (n:Int)] = okR (rowD (numL c)):=by
  refine ⟨(qA9 n).map fun k:Nat=>(cellv ns (30 + (k:Int)) % 3).toNat,by simp,fun x hx=>?_,?_⟩
  · obtain ⟨k,_,rfl⟩:=qAv.mp hx
    omega
  have hc:eComp (iR1 (aCons (eV 2) aNil)) 1 (.one 3) Mi.tYes (eB modD (eCall zAG (aCons (eV 0) (aCons (eB addD (eV 1) (eV 3)) aNil))) (eC (.int 3))) [some (.scr ns),some (.int 30),some (.int (n:Int))] = okR (rowD (numL ((qA9 n).map fun k:Nat=>(cellv ns (30 + (k:Int)) % 3).toNat))):=by
    have:=zO8 (ρ:=[some (.scr ns),some (.int 30),some (.int (n:Int))]) (i:=3) (n:=n) (e:=eB modD (eCall zAG (aCons (eV 0) (aCons (eB addD (eV 1) (eV 3)) aNil))) (eC (.int 3))) (it:=iR1 (aCons (eV 2) aNil)) (fun k:Nat=>((cellv ns (30 + (k:Int)) % 3).toNat:Int)) rfl (by omega) (zI4 (al0 rfl) (by omega)) fun k hk=>b2 (c2 rfl (b2 rfl rfl rfl) (zW4 ns (30 + (k:Int)) (by omega) (by omega))) rfl (mdi (by decide) (by omega))
    rw [this]
    unfold numL
    rw [qB3]
    rfl
  exact zBG rfl (rt1 hc hc)
theorem zV3 {ls row:List Nat} (ha:zP7 ls row) (hz:row.length≤100) (h8:8 < (ords row).length) (ho100:(ords row).length≤100):zBY [.str ⟨(wrd ls row).toArray⟩] = some (.error ⟨"TooMany","",.non⟩):=by
  have hwl:=zDI ls row
  have ho:=zD1 (wrd ls row) (by omega)
  rw [zGN ha] at ho
  have hlo:lenD [.str ⟨(wrd ls (ords row)).toArray⟩] = some (.int ((ords row).length:Int)):=by
    rw [zCS (by rw [zDI]; omega),zDI]
  have h8':(8:Int) < ((ords row).length:Int):=by omega
  unfold zBY zJI
  simp [startO,ho,hlo,h8',sRaise0]
theorem zVH {W C:Dt} (he:zBY [W] = some (.error ⟨"TooMany","",.non⟩)):zBR [W,C] = okR (.lst [.bl true,.bl true,.bl false,.bl false]):=by
  have hp:zB1 [W,C] = some (.error ⟨"TooMany","",.non⟩):=by
    unfold zB1 zF9
    simp [startO,he,eCallN]
  unfold zBR zDT
  refine zBG rfl (zB5 fun bb hb=>?_)
  simp
  subst hb
  refine zB5 fun bb hb=>?_
  rw [zUM (x:=⟨"TooMany","",.non⟩) _ _ _ (by simp [hp]) (by simp)]
  simp
  subst hb
  simp
theorem zIK {f:Nat→List Nat}:∀ k,∀ l∈(rdS f k).1,∃ j,j < k∧l = f j
  | 0,l,h=>by simp [rdS] at h
  | k + 1,l,h=>by
    rw [rdS] at h
    split at h
    · obtain ⟨j,hj,e⟩:=zIK k l h
      exact ⟨j,by omega,e⟩
    · rcases qB8.mp h with h | h
      · obtain ⟨j,hj,e⟩:=zIK k l h
        exact ⟨j,by omega,e⟩
      · exact ⟨k,by omega,by simpa using h⟩
theorem zHC (v:Int):∀ M:List (List Nat),(∀ l∈M,l.length≤1000)→∃ rs,addAll v (M.map fun l=>rowD (numL l)) = some rs∧rs.length = M.length
  | [],_=>⟨[],rfl,rfl⟩
  | l :: M,h=>by
    obtain ⟨rs,h1,h2⟩:=zHC v M fun x hx=>h x (by simp [hx])
    have hl:=h l (by simp)
    refine ⟨.lst ((numL l).map Dt.int ++ [.int v]) :: rs,?_,by simp [h2]⟩
    rw [qAi]
    unfold rowD
    rw [addAll,if_pos (by simp [numL]; omega)]
    show qHt _ (addAll v (M.map fun l=>rowD (numL l))) = _
    rw [h1]
    rfl
theorem zSS (ns:List Int) (hl:ns.length≤63) (hw:∀ i∈ns,i.natAbs.log2 < 2 ^ 20):zKS [.scr ns] = okR (.bl true):=by
  obtain ⟨cs,l0,hword,hp,hnd,n1,hn,_⟩:=zOD ns 0 (by omega)
  have w:=zZ9 hp hnd
  have hlen:=w.len
  generalize l0.length = n at w hlen n1 hn
  have hL:=zDN (cs:=cs) (by omega) (by omega)
  have hsl:(sosL cs).length = n:=by
    rw [← w.ol]
    exact qF9 (zBM _ _ (sos_nodup cs) fun x hx=>(ords_mem cs x).mpr ((sos_mem x cs).mp hx)) (zBM _ _ (ords_nodup cs) fun x hx=>(sos_mem x cs).mpr ((ords_mem cs x).mp hx))
  have lL:lenD [.str ⟨(sosL cs).toArray⟩] = some (.int (n:Int)):=by rw [zCS (by omega),hsl]
  obtain ⟨c,hc,hc3,hch⟩:=zW3 ns n hn
  have lc:lenD [rowD (numL c)] = some (.int (n:Int)):=by unfold rowD; simp [numL,hc]
  have dc:∀ m,(rowD (numL c)).dep≤m + 1:=fun m=>by unfold rowD; simp
  have hec:Dt.eq (rowD (numL c)) (rowD (numL c)) = true:=by rw [zYM]; simp
  refine zBG rfl (sg (c3 rfl rfl rfl hword) (qAs 0) (sg (c3 rfl rfl (bi1 (c1 rfl hL) lL) hch) (dc 0) ?_))
  by_cases h8:8 < n
  · have he:=zV3 w.ap (by rw [w.tw.len]; omega) (by rw [w.od]; simpa using h8) (by rw [w.od]; simp; omega)
    rw [w.wr] at he
    have hk:=zVH (C:=rowD (numL c)) he
    have hlit:∀ ρ:Rh,eLst (aCons (eC (.bl true)) (aCons (eC (.bl true)) (aCons (eC (.bl false)) (aCons (eC (.bl false)) aNil)))) ρ = okR (.lst [.bl true,.bl true,.bl false,.bl false]):=fun ρ=>by simp
    exact sx (tb1 (b2 (bi1 rfl lc) rfl (cmi (decide_eq_true (by omega))))) (sr (b2 (c2 rfl rfl hk) (hlit _) (by simp [eqD,Dt.depL,Dt.eqL,Dt.eq])) ⟨qAa 0,qAa 0⟩)
  have h8':n≤8:=by omega
  refine sp (tb1 (b2 (bi1 rfl lc) rfl (cmi (decide_eq_false (by omega))))) ?_
  obtain ⟨hN,hne⟩:=zWN w.tw
  have hlC:(cbW c (sosL cs) (ords cs)).length = n:=by unfold cbW; rw [qAj,w.ol]
  have hwC:=zZ1 (ls:=sosL cs) (O:=ords cs) hc3 hc hsl fun x hx=>(sos_mem x cs).mpr ((ords_mem cs x).mp hx)
  have hst:=zOK w n1 hn hc hc3 hsl
  have hrl:(rowW cs).length = cs.length:=by simp [rowW]
  have hA:∀ x,x < 4 * n→getW (kvA (cbW c (sosL cs) (ords cs)) n 0) (.inl (x:Int)) = some (.int (jn (cbW c (sosL cs) (ords cs)) x:Int)):=fun x hx=>zVG _ (by omega)
  have hLg:∀ x,x < 4 * n→getW (kvL (lawS (rowW cs) cs.length)) (.inl (x:Int)) = some (.int (nt (tsW n (rowW cs)) x:Int)):=fun x hx=>by rw [← hrl]; exact zRU w.tw hx
  have hcb:=zHK w n1 hn hc hsl hc3
  have hnet:=zZX w n1 hn hc hsl h8'
  generalize hC':cbW c (sosL cs) (ords cs) = C' at *
  generalize hts:tsW n (rowW cs) = ts at *
  obtain ⟨s1,s2⟩:=zK0 hN hlC hwC
  have hg:∀ e:Nat,∃ p,e < 4 * n→1≤p∧p≤4 * n∧itr (stp ts C') p e = e∧∀ q,1≤q→q < p→itr (stp ts C') q e≠e:=fun e=>by
    by_cases he:e < 4 * n
    · obtain ⟨p,h⟩:=zP3 s1 s2 he
      exact ⟨p,fun _=>h⟩
    · exact ⟨0,fun z=>absurd z he⟩
  obtain ⟨g,hg⟩:=Classical.axiomOfChoice hg
  obtain ⟨f,hf⟩:∃ f:Nat→List Nat,f = fun e=>if e < 4 * n then orb ts C' e (g e) else []:=⟨_,rfl⟩
  have hf1:∀ e,e < 4 * n→f e = orb ts C' e (g e):=fun e he=>by rw [hf]; exact if_pos he
  have hfl:∀ k,(f k).length≤8 * n:=fun k=>by
    by_cases z:k < 4 * n
    · rw [hf1 k z,zFF]; have:=(hg k z).2.1; omega
    · rw [hf]; show (if k < 4 * n then _ else []).length≤_; rw [if_neg z]; simp
  have hro:=zM4 hN (by omega) hfl fun e he=>by
    obtain ⟨p1,p2,p3,p4⟩:=hg e he
    rw [hf1 e he]
    exact zOO hN hlC (by omega) hwC he p1 p2 p3 p4
  have hlr:=zJ0 hN hne hlC hwC hn n1 hlen hst hA hLg (f:=f) (g:=g) (fun e he=>⟨hf1 e he,hg e he⟩) hfl
  have hRl:=(zIJ (f:=f) (B:=8 * n) hfl (4 * n)).1
  have hRe:∀ l∈(rdS f (4 * n)).1,(∀ e∈l,e < 4 * n)∧l.length≤1000:=fun l hm=>by
    obtain ⟨j,hj,rfl⟩:=zIK _ l hm
    refine ⟨fun e he=>?_,by have:=hfl j; omega⟩
    rw [hf1 j hj] at he
    obtain ⟨i,_,h | h⟩:=orb_mem.mp he
    · rw [h]; exact zEZ s1 hj i
    · rw [h]; exact (zGV hlC hwC (zEZ s1 hj i)).1
  generalize (rdS f (4 * n)).1 = R at hro hlr hRl hRe
  have hon:=zOU w n1 hn hc hsl hlr (by omega) hRe
  subst hC'
  subst hts
  have hpa:=zMA w n1 hn hc hsl hnet hcb hro (by omega) hRe
  generalize hM:R.map (onc c (sosL cs) (ords cs)) = M at hon hpa
  have hMl:M.length≤1000:=by rw [← hM,qAj]; omega
  have hMe:∀ l∈M,l.length≤1000:=fun l hm=>by
    rw [← hM] at hm
    obtain ⟨r,_,rfl⟩:=qAv.mp hm
    have h1:=qDy (fun i=>decide ((plc (ords cs) r).count ((sosL cs).getD ((knw c).getD i 0) 0) = 2)) (qA9 (knw c).length)
    have h2:=zQN w n1 hn hc hsl
    rw [qDr] at h1
    have:(onc c (sosL cs) (ords cs) r).length≤(knw c).length:=h1
    omega
  have hsh:=zM1 M hMl hMe
  have dM:=zEO M
  obtain ⟨rs,ha1,ha2⟩:=zHC 0 M hMe
  refine sg (c2 rfl rfl hon) (qAq dM (by decide)) (sg (bi1 rfl rfl) (dc 0) (sg (c2 rfl rfl hpa) dM (sp (to0 (tn1 (k:=true) (tm1 (c2 rfl rfl hsh))) (ned rfl rfl (dc 39) (dc 39) hec rfl)) ?_)))
  refine sw (r':=[some (.scr ns,0),some (.str ⟨cs.toArray⟩,0),some (rowD (numL c),1),some (rowsD M,9),some (rowD (numL c),1),some (.lst rs,2),none]) ?_ (sw (zWF (k:=1) rfl el0 (by omega) (by simp) (by simp)) (sr (c2 (c2 rfl rfl hpa) rfl hsh) ⟨qAa 0,qAa 0⟩))
  show sForApp 5 6 0 [some (.scr ns,0),some (.str ⟨cs.toArray⟩,0),some (rowD (numL c),1),some (rowsD M,9),some (rowD (numL c),1),some (.lst (M.map fun l=>rowD (numL l)),0 + 2),none] = _
  unfold sForApp
  simp only [qBd,qB4,ha1]
  rfl
end Mp
set_option maxHeartbeats 4000000
namespace Q43
open PySem PyProof.Rows
open L2 hiding Rep RepL
open L3
open Mp
noncomputable def top (i:Nat):Stmt:=qEy.main.body.getD i (.Pass ⟨0,0,0,0⟩)
theorem S__law_cell:FnScope ["_law_script","_law_k","_law_cell_here","_law_mixed"] ["_law_script","_law_k"] (zA7 (top 25)):=fsc
theorem zJR:FnScope ["_law_script","_law_at","_law_many"] ["_law_script","_law_at","_law_many"] (zA7 (top 29)):=fsc
theorem zLP:FnScope ["word"] ["word"] (zA7 (top 8)):=fsc
theorem zJP:FnScope ["word"] ["word"] (zA7 (top 17)):=fsc
theorem S_choice_by:FnScope ["word","choice","letters"] ["word","choice"] (zA7 (top 18)):=fsc
theorem S_entry_at:FnScope ["word","at","place"] ["word","at"] (zA7 (top 19)):=fsc
theorem S_net_by:FnScope ["word","entries","net","at","entry","out"] ["word"] (zA7 (top 16)):=fsc
theorem zTB:FnScope ["way","seat"] ["way","seat"] (zA7 (top 10)):=fsc
theorem S_joined_end:FnScope ["choice","end","place"] ["choice","end"] (zA7 (top 14)):=fsc
theorem S_round_of:FnScope ["net","choice","end","ends","come"] ["net","choice","end"] (zA7 (top 12)):=fsc
theorem S_rounds_of:FnScope ["net","choice","rounds","passed","end","ends"] ["net","choice"] (zA7 (top 13)):=fsc
theorem zFX:FnScope ["choice"] ["choice"] (zA7 (top 22)):=fsc
theorem S_rows_passed_once:FnScope ["word","choice","ends","letters","order","passed"] ["word","choice","ends"] (zA7 (top 23)):=fsc
theorem S_passed_once:FnScope ["word","choice","rounds"] ["word","choice"] (zA7 (top 21)):=fsc
theorem S__law_kinds:FnScope ["_law_word_here","_law_choice_here","_law_kinds_here","e"] ["_law_word_here","_law_choice_here"] (zA7 (top 35)):=fsc
theorem zHL:FnScope ["_law_word_here"] ["_law_word_here"] (zA7 (top 28)):=fsc
theorem zJQ:FnScope ["_law_word_here"] ["_law_word_here"] (zA7 (top 30)):=fsc
theorem S__law_steps:FnScope ["_law_word_here","_law_choice_here","_law_letters_here","_law_firsts_here","_law_joins","_law_across","_law_place","_law_letter","_law_some","_law_seat","_law_ends","_law_k","_law_along","_law_behind"] ["_law_word_here","_law_choice_here"] (zA7 (top 31)):=fsc
theorem S__law_rounds:FnScope ["_law_word_here","_law_choice_here","_law_across","_law_along","_law_met","_law_rounds_here","_law_start","_law_ends","_law_end"] ["_law_word_here","_law_choice_here"] (zA7 (top 32)):=fsc
theorem S__law_once:FnScope ["_law_word_here","_law_choice_here","_law_letters_here","_law_firsts_here","_law_known","_law_lists","_law_ends","_law_places"] ["_law_word_here","_law_choice_here"] (zA7 (top 33)):=fsc
theorem zLQ:FnScope ["_law_found"] ["_law_found"] (zA7 (top 26)):=fsc
theorem S__law_shaped:FnScope ["_law_found","_law_due","_law_row"] ["_law_found","_law_due"] (zA7 (top 34)):=fsc
theorem S__law_word:FnScope ["_law_script","_law_at","_law_most","_law_many","_law_first","_law_step","_law_pool","_law_k","_law_letter","_law_word_here"] ["_law_script","_law_at","_law_most"] (zA7 (top 27)):=fsc
theorem S_law:FnScope ["_law_script","_law_word_here","_law_choice_here","_law_due","_law_handed","_law_found","_law_row"] ["_law_script"] (zA7 (top 36)):=fsc
section
variable {P:Program} {w:World} {K:qA2} {mg:Str→Option Value} {base:Heap}
structure Bd (K:qA2) (mg:Str→Option Value):Prop where
  d0:Def K mg "_law_cell" (top 25)
  d1:Def K mg "_law_choice" (top 29)
  d2:Def K mg "letters_of" (top 8)
  d3:Def K mg "place_order" (top 17)
  d4:Def K mg "choice_by" (top 18)
  d5:Def K mg "entry_at" (top 19)
  d6:Def K mg "net_by" (top 16)
  d7:Def K mg "joined" (top 10)
  d8:Def K mg "joined_end" (top 14)
  d9:Def K mg "round_of" (top 12)
  d10:Def K mg "rounds_of" (top 13)
  d11:Def K mg "chosen_numbers" (top 22)
  d12:Def K mg "rows_passed_once" (top 23)
  d13:Def K mg "passed_once" (top 21)
  d14:Def K mg "_law_kinds" (top 35)
  d15:Def K mg "_law_letters" (top 28)
  d16:Def K mg "_law_firsts" (top 30)
  d17:Def K mg "_law_steps" (top 31)
  d18:Def K mg "_law_rounds" (top 32)
  d19:Def K mg "_law_once" (top 33)
  d20:Def K mg "_law_whole" (top 26)
  d21:Def K mg "_law_shaped" (top 34)
  d22:Def K mg "_law_word" (top 27)
  e0:mg "ValueError" = none
  e1:mg "all" = none
  e2:mg "bool" = none
  e3:mg "enumerate" = none
  e4:mg "int" = none
  e5:mg "isinstance" = none
  e6:mg "len" = none
  e7:mg "list" = none
  e8:mg "range" = none
  e9:mg "set" = none
  e10:mg "sorted" = none
structure Bn (P:Program) (w:World) (K:qA2) (mg:Str→Option Value) (base:Heap):Type where
  S:Bd K mg
  u_SEATS:Value
  a_TooMany:Addr
  u_MOST_PLACES:Value
  a_NoOne:Addr
  a_NoWord:Addr
  a_RoundError:Addr
  c_SEATS:RelV (V.int 4) u_SEATS∧mg "SEATS" = some u_SEATS
  c_MOST_PLACES:RelV (V.int 8) u_MOST_PLACES∧mg "MOST_PLACES" = some u_MOST_PLACES
  z_TooMany:XNo K mg "TooMany" a_TooMany
  n_RoundError:XCls K mg "RoundError" a_RoundError
  n_NoWord:XCls K mg "NoWord" a_NoWord
  n_NoOne:XCls K mg "NoOne" a_NoOne
  n_TooMany:XCls K mg "TooMany" a_TooMany
  q0:(∀ c∈(["TooMany"]:List Str),∃ C,clK K c = some C∧Xc.XIs K C∧kitV K C (V.ref a_TooMany) = some true)∧(∀ c∈(["RoundError","NoWord","NoOne"]:List Str),∃ C,clK K c = some C∧Xc.XIs K C∧kitV K C (V.ref a_TooMany) = some false)
  q1:(∀ c∈(["RoundError","NoWord","NoOne","TooMany"]:List Str),∃ C,clK K c = some C∧Xc.XIs K C∧kitV K C (V.ty "ValueError") = some true)∧(∀ c∈([]:List Str),∃ C,clK K c = some C∧Xc.XIs K C∧kitV K C (V.ty "ValueError") = some false)
  q2:(∀ c∈(["NoWord"]:List Str),∃ C,clK K c = some C∧Xc.XIs K C∧kitV K C (V.ref a_NoWord) = some true)∧(∀ c∈(["RoundError","NoOne","TooMany"]:List Str),∃ C,clK K c = some C∧Xc.XIs K C∧kitV K C (V.ref a_NoWord) = some false)
  q3:(∀ c∈(["NoOne"]:List Str),∃ C,clK K c = some C∧Xc.XIs K C∧kitV K C (V.ref a_NoOne) = some true)∧(∀ c∈(["RoundError","NoWord","TooMany"]:List Str),∃ C,clK K c = some C∧Xc.XIs K C∧kitV K C (V.ref a_NoOne) = some false)
  q4:(∀ c∈(["RoundError","NoWord","NoOne","TooMany"]:List Str),∃ C,clK K c = some C∧qCy K (.ref C) (.ref a_RoundError) = some true)
variable (B:Bn P w K mg base)
include B
theorem zC1:Has P w K mg base "_law_cell" 1 ["_law_script","_law_k"] (sp0 K mg 1 zAG):=by
  letI:Kc:=⟨K⟩
  exact dfM B.S.d0 S__law_cell (fun _ _ _ _ _ _=>uw2 fun _ _=>rfl) fun hr hu h=>⟨_,(zA6 (pst 2 S__law_cell.nd zAJ)
      (zA6 (zKC (zE9 u_lt (pn 1) (zAM (zCT (K:=K)) rfl B.S.e6 boot_len (zA1 (pn 0) zA4)) (zC6 _)) (zAE (pst 2 S__law_cell.nd (zCJ (zCF (K:=K)) (pn 0) (pn 1) (fun _ _=>rfl)))) zDL)
      (zA6 (pst 3 S__law_cell.nd (zAT zGC (zAT zCP (zAT zD6 (zAT zGC (pn 2) zAJ) (zAT zCP zAJ (zAT zD6 (pn 1) zAJ))) zAJ) zAJ))
      (zAE (zB3 (zAT zD6 (zAT zCP (zAT zHO (pn 2) zAJ) zAJ) (zAT zGC (zAT zCP (pn 3) zAJ) zAJ))))))),(zBA (zAD (zAI (n:=0) [] zAA)
      (zAD (zL4 (dt_b (dz (zAF zN7 (de_v 1) (dz (zDR zCV (zA2 (de_v 0) zA5)))))) (zAI (n:=0) [0,1] (zAF zCH (de_v 0) (de_v 1))) zFR)
      (zAD (zAI (n:=0) [2,1] (zAF zDJ (dz (zAF zCQ (zAF zBT (dz (zAF zDJ (de_v 2) (dz zAA))) (dz (zAF zCQ (dz zAA) (zAF zBT (de_v 1) (dz zAA))))) (dz zAA))) (dz zAA)))
      (zBI (n:=1) [2,3] (zAF zBT (dz (zAF zCQ (dz (zAF zHP (de_v 2) (dz zAA))) (dz zAA))) (dz (zAF zDJ (dz (zAF zCQ (de_v 3) (dz zAA))) (dz zAA)))))))) h)⟩
theorem zHI:Has P w K mg base "_law_choice" 2 ["_law_script","_law_at","_law_many"] (sp0 K mg 1 zDC):=by
  letI:Kc:=⟨K⟩
  exact dfM B.S.d1 zJR (fun _ _ _ _ _ _=>uw3 fun _ _ _=>rfl) fun hr hu h=>⟨_,(zAE (zB3 (zC5 rfl (cn ["_law_script","_law_at","2","_law_k"] 1 (by kernel_rfl)) (zBP rfl B.S.e8 (zA1 (pn 2) zA4)) (fun _ _ _ _=>(pgn 3)) (fun _ _ _ _=>zDK) (fun _ _ _ _=>(zAT zGC (zBD (zC1 B) (by decide) hr rfl (zA1 (pn 0) (zA1 (zAT zD6 (pn 1) (pn 3)) zA4))) zAJ))))),(zBA (zBI (n:=1) [0,2,1] (zBS (n:=0) (zJC (zA2 (de_v 2) zA5)) (zC2 3) zFQ (zAF zDJ (zAQ (zA2 (de_v 0) (zA2 (zAO (zAF zBT (de_v 1) (de_v 3))) zA5))) (dz zAA)))) h)⟩
theorem zEV:Has P w K mg base "letters_of" 1 ["word"] (sp0 K mg 0 zB2):=by
  letI:Kc:=⟨K⟩
  exact dfM B.S.d2 zLP (fun _ _ _ _ _ _=>uw1 fun _=>rfl) fun hr hu h=>⟨_,(zAE (zB3 (zHG qB1 qDz qE0 zIU zHS (zA1 (zAM (zQQ rfl) rfl B.S.e10 boot_sorted (zA1 (zET (zTN rfl) rfl B.S.e9 zLE (zA1 (pn 0) zA4)) zA4)) zA4)))),(zBA (zBI (n:=0) [0] (zHJ zM6 (dz zHX) (zA2 (zAO (zU7 (de_v 0))) zA5))) h)⟩
theorem zBX:Has P w K mg base "place_order" 1 ["word"] (sp0 K mg 0 zAR):=by
  letI:Kc:=⟨K⟩
  exact dfM B.S.d3 zJP (fun _ _ _ _ _ _=>uw1 fun _=>rfl) fun hr hu h=>⟨_,(zAE (zB3 (zHG qB1 qDz qE0 zIU zHS (zA1 (zC5 rfl (cn ["word","at","sign"] 2 (by kernel_rfl)) (zG0 (K:=K) rfl B.S.e3 (zA1 (pn 0) zA4)) (fun _ _ _ _=>zDB (K:=K) rfl (zAY (pgn 1) (zAY (pgn 2) zDA))) (fun _ _ _ _=>zFD (zE9 (u_eq hu) (zHG qB1 qCs qCt zG5 (pn 0) (zA1 (pn 2) zA4)) (pn 1) (zC6 _))) (fun _ _ _ _=>(pn 2))) zA4)))),(zBA (zBI (n:=0) [0] (zHJ zM6 (dz zHX) (zA2 (zAO (zBS (n:=0) (zO3 (zA2 (de_v 0) zA5)) (zEJ (zAX 1 (zAX 2 zD7)) rfl) (dt_b (dz (zAF zM5 (dz (zHJ zIG (de_v 0) (zA2 (de_v 2) zA5))) (de_v 1)))) (de_v 2))) zA5))) h)⟩
theorem zKK:Has P w K mg base "choice_by" 2 ["word","choice"] (sp0 K mg 1 zCM):=by
  letI:Kc:=⟨K⟩
  exact dfM B.S.d4 S_choice_by (fun _ _ _ _ _ _=>uw2 fun _ _=>rfl) fun hr hu h=>⟨_,(zA6 (pst 2 S_choice_by.nd (zBD (zEV B) (by decide) hr rfl (zA1 (pn 0) zA4)))
      (zAE (zB3 (zC5 rfl (cn ["0","choice","letters","letter"] 1 (by kernel_rfl)) (zER (K:=K) (zBD (zBX B) (by decide) hr rfl (zA1 (pn 0) zA4))) (fun _ _ _ _=>(pgn 3)) (fun _ _ _ _=>zDK) (fun _ _ _ _=>(zCJ (zCF (K:=K)) (pn 1) (zHG qB1 qCs qCt zG5 (pn 2) (zA1 (pn 3) zA4)) (fun _ _=>rfl))))))),(zBA (zAD (zAI (n:=0) [0] (zAQ (zA2 (de_v 0) zA5)))
      (zBI (n:=1) [1,0,2] (zBS (n:=0) (zFS (zAQ (zA2 (de_v 0) zA5))) (zC2 3) zFQ (zAF zCH (de_v 1) (dz (zHJ zIG (de_v 2) (zA2 (de_v 3) zA5))))))) h)⟩
theorem zMC:Has P w K mg base "entry_at" 2 ["word","at"] (sp0 K mg 1 zCE):=by
  letI:Kc:=⟨K⟩
  exact dfM B.S.d5 S_entry_at (fun _ _ _ _ _ _=>uw2 fun _ _=>rfl) fun hr hu h=>⟨_,(zA6 (pst 2 S_entry_at.nd (zHG qB1 qCs qCt zG5 (zBD (zBX B) (by decide) hr rfl (zA1 (pn 0) zA4)) (zA1 (zCJ (zCF (K:=K)) (pn 0) (pn 1) (fun _ _=>rfl)) zA4)))
      (zAE (zB3 (zAT zD6 (zAT zCP (pn 2) (zFE rfl B.c_SEATS.2 B.c_SEATS.1)) (zSK (zE9 (u_eq hu) (zHG qB1 qCs qCt zG5 (pn 0) (zA1 (zCJ (zCF (K:=K)) (pn 0) (pn 1) (fun _ _=>rfl)) zA4)) (pn 1) (zC6 _)) zAJ zAJ))))),(zBA (zAD (zAI (n:=0) [0,1] (zHJ zIG (zAQ (zA2 (de_v 0) zA5)) (zA2 (zAF zCH (de_v 0) (de_v 1)) zA5)))
      (zBI (n:=1) [2,1,0] (zAF zBT (dz (zAF zCQ (de_v 2) (dz zAA))) (dz (zYW (dt_b (dz (zAF zM5 (dz (zHJ zIG (de_v 0) (zA2 (zAF zCH (de_v 0) (de_v 1)) zA5))) (de_v 1)))) zAA zAA))))) h)⟩
theorem zQ8:HasX P w K mg base "net_by" 3 ["word"] (spE K mg 1 zBY):=by
  letI:Kc:=⟨K⟩
  exact dfX B.S.d6 S_net_by (fun _ _ _ _ _ _=>uw1 fun _=>rfl) fun hr hu h=>⟨_,(zA6 (zKC (zE9 u_gt (zAM (zCT (K:=K)) rfl B.S.e6 boot_len (zA1 (zBD (zBX B) (by decide) hr rfl (zA1 (pn 0) zA4)) zA4)) (zFE rfl B.c_MOST_PLACES.2 B.c_MOST_PLACES.1) (zC6 _)) (zAE (zSH (zXO B.z_TooMany rfl (zA1 zHS zA4)) zL3 rfl)) zDL)
      (zA6 (zHQ (i:=1) S_net_by.nd rfl oi rfl (cn ["word","1","2","3","4","5","at"] 1 (by kernel_rfl)) (zBP rfl B.S.e8 (zA1 (zAM (zCT (K:=K)) rfl B.S.e6 boot_len (zA1 (pn 0) zA4)) zA4)) (fun _ _ _ _=>(pgn 6)) (fun _ _ _ _=>zDK) (fun _ _ _ _=>(zBD (zMC B) (by decide) hr rfl (zA1 (pn 0) (zA1 (pn 6) zA4)))))
      (zA6 (pst 2 S_net_by.nd (zAT zZF (zC0 (zA1 zAJ zA4)) (zAT zCP zAJ (zAM (zCT (K:=K)) rfl B.S.e6 boot_len (zA1 (pn 0) zA4)))))
      (zA6 (zC4 zUY rfl (zG1 (K:=K) rfl B.S.e3 (zA1 (pn 1) zA4)) (zDB (K:=K) rfl (zAY (zB8 (i:=3) S_net_by.nd rfl oi) (zAY (zB8 (i:=4) S_net_by.nd rfl oi) zDA))) (zA6 (pst 5 S_net_by.nd (zAT zD6 (zCJ (zCF (K:=K)) (pn 1) (zAT zZE (pn 3) zAJ) (fun _ _=>rfl)) zAJ))
      (zA6 (zPX (pn 4) (zTL (pn 2) (pn 5) zWK))
      (zAE (zPX (pn 5) (zTL (pn 2) (pn 4) zWK))))))
      (zAE (zB3 (pn 2))))))),(zBA (zAD (zL4 (dt_b (dz (zAF zN7 (dz (zDR zCV (zA2 (zF3 (zA2 (de_v 0) zA5)) zA5))) (dz zAA)))) (zR6 B.z_TooMany (zA2 zHX zA5)) zFR)
      (zAD (zAI (n:=2) [0,3] (zBS (n:=1) (zJC (zA2 (zDR zCV (zA2 (de_v 0) zA5)) zA5)) (zC2 6) zFQ (zF3 (zA2 (de_v 0) (zA2 (de_v 6) zA5)))))
      (zAD (zAI (n:=1) [0] (zAF zX1 (zBJ (n:=0) (zA2 zAA zA5)) (dz (zAF zCQ (dz zAA) (dz (zDR zCV (zA2 (de_v 0) zA5)))))))
      (zAD (zL5 [1] (zT5 (zA2 (de_v 1) zA5)) (zEJ (zAX 3 (zAX 4 zD7)) rfl) (zAD (zAI (n:=1) [1,3] (zAF zBT (zAF zCH (de_v 1) (dz (zAF zX0 (de_v 3) (dz zAA)))) (dz zAA)))
      (zAD (zR7 2 (n:=0) (de_v 5) (de_v 4))
      (zR7 2 (n:=0) (de_v 4) (de_v 5)))))
      (zEG 2))))) h)⟩
theorem zQ9:Has P w K mg base "joined" 1 ["way","seat"] (sp0 K mg 0 zIX):=by
  letI:Kc:=⟨K⟩
  exact dfM B.S.d7 zTB (fun _ _ _ _ _ _=>uw2 fun _ _=>rfl) fun hr hu h=>⟨_,(zAE (zB3 (zAT zZD (pn 1) (zAT zD6 (pn 0) zAJ)))),(zBA (zBI (n:=0) [1,0] (zAF zWZ (de_v 1) (zAF zBT (de_v 0) (dz zAA)))) h)⟩
theorem zEW:Has P w K mg base "joined_end" 2 ["choice","end"] (sp0 K mg 1 zBB):=by
  letI:Kc:=⟨K⟩
  exact dfM B.S.d8 S_joined_end (fun _ _ _ _ _ _=>uw2 fun _ _=>rfl) fun hr hu h=>⟨_,(zA6 (pst 2 S_joined_end.nd (zAT zHO (pn 1) (zFE rfl B.c_SEATS.2 B.c_SEATS.1)))
      (zAE (zB3 (zAT zD6 (zAT zCP (pn 2) (zFE rfl B.c_SEATS.2 B.c_SEATS.1)) (zBD (zQ9 B) (by decide) hr rfl (zA1 (zCJ (zCF (K:=K)) (pn 0) (pn 2) (fun _ _=>rfl)) (zA1 (zAT zGC (pn 1) (zFE rfl B.c_SEATS.2 B.c_SEATS.1)) zA4))))))),(zBA (zAD (zAI (n:=0) [1] (zAF zHP (de_v 1) (dz zAA)))
      (zBI (n:=1) [2,0,1] (zAF zBT (dz (zAF zCQ (de_v 2) (dz zAA))) (zAQ (zA2 (zAF zCH (de_v 0) (de_v 2)) (zA2 (zAF zDJ (de_v 1) (dz zAA)) zA5)))))) h)⟩
theorem zMB:Has P w K mg base "round_of" 3 ["net","choice","end"] (sp0 K mg 1 zD2):=by
  letI:Kc:=⟨K⟩
  exact dfM B.S.d9 S_round_of (fun _ _ _ _ _ _=>uw3 fun _ _ _=>rfl) fun hr hu h=>⟨_,(zA6 (pst 3 S_round_of.nd (zC0 (zA1 (pn 2) (zA1 (zBD (zEW B) (by decide) hr rfl (zA1 (pn 1) (zA1 (pn 2) zA4))) zA4))))
      (zA6 (zNG PassesOwn.never (zE9 (u_ne hu) (zCJ (zCF (K:=K)) (pn 0) (zCJ (zCF (K:=K)) (pn 3) (zXM zWL zAJ) (fun _ _=>rfl)) (fun _ _=>rfl)) (pn 2) (zC6 _)) (zA6 (pst 4 S_round_of.nd (zCJ (zCF (K:=K)) (pn 0) (zCJ (zCF (K:=K)) (pn 3) (zXM zWL zAJ) (fun _ _=>rfl)) (fun _ _=>rfl)))
      (zAE (zCI (zES qAn qCf qCg zIV (pn 3) (zA1 (zC0 (zA1 (pn 4) (zA1 (zBD (zEW B) (by decide) hr rfl (zA1 (pn 1) (zA1 (pn 4) zA4))) zA4))) zA4))))))
      (zAE (zB3 (pn 3))))),(zBA (zAD (zAI (n:=1) [2,1] (zBJ (n:=0) (zA2 (de_v 2) (zA2 (zAO (zAQ (zA2 (de_v 1) (zA2 (de_v 2) zA5)))) zA5))))
      (zAD (zO2 (dt_b (dz (zAF zPR (zAF zCH (de_v 0) (zAF zCH (de_v 3) (dz (zYT zTI (dz zAA))))) (de_v 2)))) (zAD (zAI (n:=0) [0,3] (zAF zCH (de_v 0) (zAF zCH (de_v 3) (dz (zYT zTI (dz zAA))))))
      (zR9 3 (n:=0) (zBJ (n:=0) (zA2 (de_v 4) (zA2 (zAO (zAQ (zA2 (de_v 1) (zA2 (de_v 4) zA5)))) zA5))))))
      (zEG 3))) h)⟩
theorem zKJ:Has P w K mg base "rounds_of" 4 ["net","choice"] (sp0 K mg 1 zBV):=by
  letI:Kc:=⟨K⟩
  exact dfM B.S.d10 S_rounds_of (fun _ _ _ _ _ _=>uw2 fun _ _=>rfl) fun hr hu h=>⟨_,(zA6 (pst 2 S_rounds_of.nd (zC0 zA4))
      (zA6 (pst 3 S_rounds_of.nd zIN)
      (zA6 (zC4 PassesOwn.never rfl (zBP rfl B.S.e8 (zA1 (zAM (zCT (K:=K)) rfl B.S.e6 boot_len (zA1 (pn 0) zA4)) zA4)) (zB8 (i:=4) S_rounds_of.nd rfl oi) (zAE (zKC (zXH (zQ5 (zMM hr) (pn 4) (pn 3))) (zA6 (pst 5 S_rounds_of.nd (zBD (zMB B) (by decide) hr rfl (zA1 (pn 0) (zA1 (pn 1) (zA1 (pn 4) zA4)))))
      (zA6 (zCI (zES qAn qBj qBk zFH (pn 2) (zA1 (pn 5) zA4)))
      (zAE (zCI (zZO PySem.F.plainAttrs_dict PySem.F.slot_dict_update PySem.F.type_dict_update (zV6 rfl) (pn 3) (zA1 (zC5 rfl (cn ["0","1","2","3","4","5","met"] 1 (by kernel_rfl)) (zER (K:=K) (pn 5)) (fun _ _ _ _=>(pgn 6)) (fun _ _ _ _=>zDK) (fun _ _ _ _=>(zTM (zA1 (pn 6) (zA1 zKE zA4))))) zA4)))))) zDL)))
      (zAE (zB3 (pn 2)))))),(zBA (zAD (zAI (n:=9) [] (zBJ (n:=8) zA5))
      (zAD (zAI (n:=1) [] zMQ)
      (zAD (zFM (zJC (zA2 (zDR zCV (zA2 (de_v 0) zA5)) zA5)) (zL4 (dt_B (dz (zW0 (de_v 4) (de_v 3)))) (zAD (zAI (n:=1) [0,1,4] (zAQ (zA2 (de_v 0) (zA2 (de_v 1) (zA2 (de_v 4) zA5)))))
      (zAD (zRA 2 [5] (de_v 5))
      (zVX 3 (zBS (n:=1) (zFS (de_v 5)) (zC2 6) zFQ (zU6 (n:=0) (zA2 (de_v 6) (zA2 zL6 zA5))))))) zFR))
      (zEG 2)))) h)⟩
theorem zFG:Has P w K mg base "chosen_numbers" 1 ["choice"] (sp0 K mg 1 zBK):=by
  letI:Kc:=⟨K⟩
  exact dfM B.S.d11 zFX (fun _ _ _ _ _ _=>uw1 fun _=>rfl) fun hr hu h=>⟨_,(zAE (zB3 (zC5 rfl (cn ["choice","number"] 1 (by kernel_rfl)) (zBP rfl B.S.e8 (zA1 (zAM (zCT (K:=K)) rfl B.S.e6 boot_len (zA1 (pn 0) zA4)) zA4)) (fun _ _ _ _=>(pgn 1)) (fun _ _ _ _=>zFD (zE9 (u_ne hu) (zCJ (zCF (K:=K)) (pn 0) (pn 1) (fun _ _=>rfl)) zAJ (zC6 _))) (fun _ _ _ _=>(pn 1))))),(zBA (zBI (n:=1) [0] (zBS (n:=0) (zJC (zA2 (zDR zCV (zA2 (de_v 0) zA5)) zA5)) (zC2 1) (dt_b (dz (zAF zPR (zAF zCH (de_v 0) (de_v 1)) (dz zAA)))) (de_v 1))) h)⟩
theorem zEA:Has P w K mg base "rows_passed_once" 2 ["word","choice","ends"] (sp0 K mg 1 zB0):=by
  letI:Kc:=⟨K⟩
  exact dfM B.S.d12 S_rows_passed_once (fun _ _ _ _ _ _=>uw3 fun _ _ _=>rfl) fun hr hu h=>⟨_,(zA6 (pst 3 S_rows_passed_once.nd (zBD (zEV B) (by decide) hr rfl (zA1 (pn 0) zA4)))
      (zA6 (pst 4 S_rows_passed_once.nd (zBD (zBX B) (by decide) hr rfl (zA1 (pn 0) zA4)))
      (zA6 (pst 5 S_rows_passed_once.nd (zC5 rfl (cn ["0","1","2","3","order","5","end"] 1 (by kernel_rfl)) (zER (K:=K) (pn 2)) (fun _ _ _ _=>(pgn 6)) (fun _ _ _ _=>zDK) (fun _ _ _ _=>(zCJ (zCF (K:=K)) (pn 4) (zAT zHO (pn 6) (zFE rfl B.c_SEATS.2 B.c_SEATS.1)) (fun _ _=>rfl)))))
      (zAE (zB3 (zC5 rfl (cn ["0","1","2","letters","4","passed","row","number"] 2 (by kernel_rfl)) (zG1 (K:=K) rfl B.S.e3 (zA1 (zBD (zFG B) (by decide) hr rfl (zA1 (pn 1) zA4)) zA4)) (fun _ _ _ _=>zDB (K:=K) rfl (zAY (pgn 6) (zAY (pgn 7) zDA))) (fun _ _ _ _=>zFD (zE9 (u_eq hu) (zES qAn qDa qEs zQE (pn 5) (zA1 (zCJ (zCF (K:=K)) (pn 3) (pn 7) (fun _ _=>rfl)) zA4)) zAJ (zC6 _))) (fun _ _ _ _=>(pn 6)))))))),(zBA (zAD (zAI (n:=0) [0] (zAQ (zA2 (de_v 0) zA5)))
      (zAD (zAI (n:=0) [0] (zAQ (zA2 (de_v 0) zA5)))
      (zAD (zAI (n:=1) [4,2] (zBS (n:=0) (zFS (de_v 2)) (zC2 6) zFQ (zAF zCH (de_v 4) (dz (zAF zHP (de_v 6) (dz zAA))))))
      (zBI (n:=1) [1,5,3] (zBS (n:=0) (zT5 (zA2 (zAO (zAQ (zA2 (de_v 1) zA5))) zA5)) (zEJ (zAX 6 (zAX 7 zD7)) rfl) (dt_b (dz (zAF zM5 (dz (zVZ zN8 (de_v 5) (zA2 (zAF zCH (de_v 3) (de_v 7)) zA5))) (dz zAA)))) (de_v 6)))))) h)⟩
theorem zCX:HasX P w K mg base "passed_once" 5 ["word","choice"] (spE K mg 2 zB1):=by
  letI:Kc:=⟨K⟩
  exact dfX B.S.d13 S_passed_once (fun _ _ _ _ _ _=>uw2 fun _ _=>rfl) fun hr hu h=>⟨_,(zA6 (pst 2 S_passed_once.nd (zBD (zKJ B) (by decide) hr rfl (zA1 (zQ2 (zQ8 B) (by decide) hr zL3 rfl (zA1 (pn 0) zA4)) (zA1 (zBD (zKK B) (by decide) hr rfl (zA1 (pn 0) (zA1 (pn 1) zA4))) zA4))))
      (zAE (zB3 (zC5 rfl (cn ["word","choice","2","ends"] 1 (by kernel_rfl)) (zER (K:=K) (pn 2)) (fun _ _ _ _=>(pgn 3)) (fun _ _ _ _=>zDK) (fun _ _ _ _=>(zBD (zEA B) (by decide) hr rfl (zA1 (pn 0) (zA1 (pn 1) (zA1 (pn 3) zA4))))))))),(zBA (zAD (zAI (n:=1) [0,1] (zF3 (zA2 (zAO (zG8 (zA2 (de_v 0) zA5))) (zA2 (zAO (zF3 (zA2 (de_v 0) (zA2 (de_v 1) zA5)))) zA5))))
      (zBI (n:=2) [0,1,2] (zBS (n:=1) (zFS (de_v 2)) (zC2 3) zFQ (zF3 (zA2 (de_v 0) (zA2 (de_v 1) (zA2 (de_v 3) zA5))))))) h)⟩
theorem zIQ:Has P w K mg base "_law_kinds" 6 ["_law_word_here","_law_choice_here"] (sp0 K mg 1 zBR):=by
  letI:Kc:=⟨K⟩
  exact dfM B.S.d14 S__law_kinds (fun _ _ _ _ _ _=>uw2 fun _ _=>rfl) fun hr hu h=>⟨_,(zA6 (pst 2 S__law_kinds.nd (zC0 zA4))
      (zA6 (zSG (i:=3) (zSE (zSF (zXK (zCX B) (by decide) hr rfl (zA1 (pn 0) (zA1 (pn 1) zA4))))) ⟨rfl,rfl⟩ (qHy B.n_RoundError.gm) rfl S__law_kinds.nd rfl rfl (fun _=>(zAE (pst 2 S__law_kinds.nd (zC0 (zA1 (zAM zF6 rfl B.S.e5 boot_isinstance (zA1 (pn 3) (zA1 (zQ3 rfl B.n_TooMany.gm) zA4))) (zA1 (zAM zF6 rfl B.S.e5 boot_isinstance (zA1 (pn 3) (zA1 (zGJ (v:=.ty "ValueError") rfl B.S.e0 zHB rfl) zA4))) (zA1 (zAM zF6 rfl B.S.e5 boot_isinstance (zA1 (pn 3) (zA1 (zQ3 rfl B.n_NoWord.gm) zA4))) (zA1 (zAM zF6 rfl B.S.e5 boot_isinstance (zA1 (pn 3) (zA1 (zQ3 rfl B.n_NoOne.gm) zA4))) zA4)))))))))
      (zAE (zB3 (pn 2))))),(zBA (zAD (zAI (n:=9) [] (zBJ (n:=8) zA5))
      (zAD (zYQ (te:=fun E'=>zHD (spE K mg 2 zB1) [] E' _) none [0,1] B.q4 (fun _=>zAO (n:=2) (zG8 (zA2 (de_v 0) (zA2 (de_v 1) zA5)))) (zAI (n:=1) [3] (zBJ (n:=0) (zA2 (zO5 B.q0.1 B.q0.2 (de_v 3)) (zA2 (zO5 B.q1.1 B.q1.2 (de_v 3)) (zA2 (zO5 B.q2.1 B.q2.2 (de_v 3)) (zA2 (zO5 B.q3.1 B.q3.2 (de_v 3)) zA5)))))))
      (zEG 2))) h)⟩
theorem zCL:Has P w K mg base "_law_letters" 1 ["_law_word_here"] (sp0 K mg 0 zB2):=by
  letI:Kc:=⟨K⟩
  exact dfM B.S.d15 zHL (fun _ _ _ _ _ _=>uw1 fun _=>rfl) fun hr hu h=>⟨_,(zAE (zB3 (zHG qB1 qDz qE0 zIU zHS (zA1 (zAM (zQQ rfl) rfl B.S.e10 boot_sorted (zA1 (zET (zTN rfl) rfl B.S.e9 zLE (zA1 (pn 0) zA4)) zA4)) zA4)))),(zBA (zBI (n:=0) [0] (zHJ zM6 (dz zHX) (zA2 (zAO (zU7 (de_v 0))) zA5))) h)⟩
theorem zE0:Has P w K mg base "_law_firsts" 1 ["_law_word_here"] (sp0 K mg 1 zC9):=by
  letI:Kc:=⟨K⟩
  exact dfM B.S.d16 zJQ (fun _ _ _ _ _ _=>uw1 fun _=>rfl) fun hr hu h=>⟨_,(zAE (zB3 (zC5 rfl (cn ["_law_word_here","_law_k","_law_sign"] 2 (by kernel_rfl)) (zG0 (K:=K) rfl B.S.e3 (zA1 (pn 0) zA4)) (fun _ _ _ _=>zDB (K:=K) rfl (zAY (pgn 1) (zAY (pgn 2) zDA))) (fun _ _ _ _=>zFD (zE9 (u_eq hu) (zHG qB1 qDn qDo zGP (pn 0) (zA1 (pn 2) zA4)) (pn 1) (zC6 _))) (fun _ _ _ _=>(pn 2))))),(zBA (zBI (n:=1) [0] (zBS (n:=0) (zO3 (zA2 (de_v 0) zA5)) (zEJ (zAX 1 (zAX 2 zD7)) rfl) (dt_b (dz (zAF zM5 (dz (zHJ zIF (de_v 0) (zA2 (de_v 2) zA5))) (de_v 1)))) (de_v 2))) h)⟩
theorem zIP:Has P w K mg base "_law_steps" 2 ["_law_word_here","_law_choice_here"] (sp0 K mg 1 zCR):=by
  letI:Kc:=⟨K⟩
  exact dfM B.S.d17 S__law_steps (fun _ _ _ _ _ _=>uw2 fun _ _=>rfl) fun hr hu h=>zR0 (zB4 ⟨(pst 2 S__law_steps.nd (zBD (zCL B) (by decide) hr rfl (zA1 (pn 0) zA4)))⟩
      (zB4 ⟨(pst 3 S__law_steps.nd (zBD (zE0 B) (by decide) hr rfl (zA1 (pn 0) zA4)))⟩
      (zB4 (zR5 (i:=4) S__law_steps.nd rfl oi (zH8 (zJF (zH8 (zAP zAW (zAP zAW (zAP zAW (zAP zAW zH9))))) (zJF (zH8 (zAP zAW (zAP zAW (zAP zAW (zAP zAW zH9))))) (zJF (zH8 (zAP zAW (zAP zAW (zAP zAW (zAP zAW zH9))))) zH9)))))
      (zB4 ⟨(pst 5 S__law_steps.nd zIN)⟩
      (zB4 ⟨(zC4 PassesOwn.never rfl (zG1 (K:=K) rfl B.S.e3 (zA1 (pn 3) zA4)) (zDB (K:=K) rfl (zAY (zB8 (i:=6) S__law_steps.nd rfl oi) (zAY (zB8 (i:=7) S__law_steps.nd rfl oi) zDA))) (zA6 (pst 8 S__law_steps.nd (zCJ (zCF (K:=K)) (pn 4) (zCJ (zCF (K:=K)) (pn 1) (zHG qB1 qDn qDo zGP (pn 2) (zA1 (pn 7) zA4)) (fun _ _=>rfl)) (fun _ _=>rfl)))
      (zAE (zC4 PassesOwn.never rfl (zBP rfl B.S.e8 (zA1 zAJ zA4)) (zB8 (i:=9) S__law_steps.nd rfl oi) (zAE (zM7 (zMM hr) (pn 5) (zAT zD6 (zAT zCP zAJ (pn 6)) (pn 9)) (zAT zD6 (zAT zCP zAJ (pn 6)) (zCJ (zCF (K:=K)) (pn 8) (pn 9) (fun _ _=>rfl))) rfl))))))⟩
      (zB4 ⟨(pst 10 S__law_steps.nd (zC0 zA4))⟩
      (zB4 ⟨(zC4 PassesOwn.never rfl (zG0 (K:=K) rfl B.S.e3 (zA1 (pn 0) zA4)) (zDB (K:=K) rfl (zAY (zB8 (i:=11) S__law_steps.nd rfl oi) (zAY (zB8 (i:=7) S__law_steps.nd rfl oi) zDA))) (zAE (zCI (zES qAn qBj qBk zFH (pn 10) (zA1 (zAT zD6 (zAT zCP zAJ (zES qAn qEr PySem.F.type_list_index zV8 (pn 3) (zA1 (pn 7) zA4))) (zAT zCP zAJ (zET zRP rfl B.S.e4 boot_int (zA1 (zM9 u_lt (zHG qB1 qDn qDo zGP (pn 0) (zA1 (pn 7) zA4)) (pn 11) (zC6 _)) zA4)))) zA4)))))⟩
      (zB4 ⟨(pst 12 S__law_steps.nd zIN)⟩
      (zB4 ⟨(zC4 PassesOwn.never rfl (zBP rfl B.S.e8 (zA1 (zAM (zCT (K:=K)) rfl B.S.e6 boot_len (zA1 (pn 0) zA4)) zA4)) (zB8 (i:=11) S__law_steps.nd rfl oi) (zA6 (pst 13 S__law_steps.nd (zCJ (zCF (K:=K)) (pn 10) (zAT zGC (zAT zD6 (pn 11) zAJ) (zAM (zCT (K:=K)) rfl B.S.e6 boot_len (zA1 (pn 0) zA4))) (fun _ _=>rfl)))
      (zA6 (zM7 (zMM hr) (pn 12) (zAT zD6 (zCJ (zCF (K:=K)) (pn 10) (pn 11) (fun _ _=>rfl)) zAJ) (pn 13) rfl)
      (zAE (zM7 (zMM hr) (pn 12) (pn 13) (zAT zD6 (zCJ (zCF (K:=K)) (pn 10) (pn 11) (fun _ _=>rfl)) zAJ) rfl)))))⟩
      (zR4 ⟨(zB3 (zTM (zA1 (pn 5) (zA1 (pn 12) zA4))))⟩)))))))))) (zBA (zAD (zAI (n:=0) [0] (zAQ (zA2 (de_v 0) zA5)))
      (zAD (zAI (n:=1) [0] (zAQ (zA2 (de_v 0) zA5)))
      (zAD (zAI (n:=2) [] (zBJ (n:=1) (zA2 (zBJ (n:=0) (zA2 zAA (zA2 zAA (zA2 zAA (zA2 zAA zA5))))) (zA2 (zBJ (n:=0) (zA2 zAA (zA2 zAA (zA2 zAA (zA2 zAA zA5))))) (zA2 (zBJ (n:=0) (zA2 zAA (zA2 zAA (zA2 zAA (zA2 zAA zA5))))) zA5)))))
      (zAD (zAI (n:=1) [] zMQ)
      (zAD (zL5 [3] (zT5 (zA2 (de_v 3) zA5)) (zEJ (zAX 6 (zAX 7 zD7)) rfl) (zAD (zAI (n:=0) [4,1,7,2] (zAF zCH (de_v 4) (zAF zCH (de_v 1) (dz (zHJ zIF (de_v 2) (zA2 (de_v 7) zA5))))))
      (zFM (zJC (zA2 zAA zA5)) (zMO 5 (zAF zBT (dz (zAF zCQ (dz zAA) (de_v 6))) (de_v 9)) (zAF zBT (dz (zAF zCQ (dz zAA) (de_v 6))) (zAF zCH (de_v 8) (de_v 9)))))))
      (zAD (zAI (n:=9) [] (zBJ (n:=8) zA5))
      (zAD (zL5 [0] (zO3 (zA2 (de_v 0) zA5)) (zEJ (zAX 11 (zAX 7 zD7)) rfl) (zRB 10 (n:=1) (zAF zBT (dz (zAF zCQ (dz zAA) (dz (zVZ zPS (de_v 3) (zA2 (de_v 7) zA5))))) (dz (zAF zCQ (dz zAA) (dz (zDR zYZ (zA2 (zAF zN7 (dz (zHJ zIF (de_v 0) (zA2 (de_v 7) zA5))) (de_v 11)) zA5))))))))
      (zAD (zAI (n:=1) [] zMQ)
      (zAD (zFM (zJC (zA2 (zDR zCV (zA2 (de_v 0) zA5)) zA5)) (zAD (zAI (n:=0) [10,11,0] (zAF zCH (de_v 10) (dz (zAF zDJ (zAF zBT (de_v 11) (dz zAA)) (dz (zDR zCV (zA2 (de_v 0) zA5)))))))
      (zAD (zMO 12 (zAF zBT (zAF zCH (de_v 10) (de_v 11)) (dz zAA)) (de_v 13))
      (zMO 12 (de_v 13) (zAF zBT (zAF zCH (de_v 10) (de_v 11)) (dz zAA))))))
      (zBI (n:=1) [5,12] (zU6 (n:=0) (zA2 (de_v 5) (zA2 (de_v 12) zA5))))))))))))) h)
theorem zHH:Has P w K mg base "_law_rounds" 3 ["_law_word_here","_law_choice_here"] (sp0 K mg 1 zBL):=by
  letI:Kc:=⟨K⟩
  exact dfM B.S.d18 S__law_rounds (fun _ _ _ _ _ _=>uw2 fun _ _=>rfl) fun hr hu h=>⟨_,(zA6 (zPX (zBD (zIP B) (by decide) hr rfl (zA1 (pn 0) (zA1 (pn 1) zA4))) (zDB (K:=K) rfl (zAY (zB8 (i:=2) S__law_rounds.nd rfl oi) (zAY (zB8 (i:=3) S__law_rounds.nd rfl oi) zDA))))
      (zA6 (pst 4 S__law_rounds.nd (zC0 zA4))
      (zA6 (pst 5 S__law_rounds.nd (zC0 zA4))
      (zA6 (zC4 PassesOwn.never rfl (zBP rfl B.S.e8 (zA1 (zAT zCP zAJ (zAM (zCT (K:=K)) rfl B.S.e6 boot_len (zA1 (pn 0) zA4))) zA4)) (zB8 (i:=6) S__law_rounds.nd rfl oi) (zAE (zKC (zE9 (zPD (K:=K)) (pn 6) (pn 4) rfl) (zA6 (pst 7 S__law_rounds.nd (zC0 zA4))
      (zA6 (pst 8 S__law_rounds.nd (pn 6))
      (zA6 (zNG PassesOwn.never (zE9 (zPD (K:=K)) (pn 8) (pn 7) rfl) (zA6 (zCI (zES qAn qCf qCg zIV (pn 7) (zA1 (zC0 (zA1 (pn 8) (zA1 (zM8 (zMM hr) (pn 2) (pn 8) (fun _ _=>rfl)) zA4))) zA4)))
      (zAE (pst 8 S__law_rounds.nd (zM8 (zMM hr) (pn 3) (zM8 (zMM hr) (pn 2) (pn 8) (fun _ _=>rfl)) (fun _ _=>rfl))))))
      (zA6 (zCI (zES qAn qCf qCg zIV (pn 4) (zA1 (pn 7) zA4)))
      (zAE (zCI (zES qAn qBj qBk zFH (pn 5) (zA1 (pn 7) zA4)))))))) zDL)))
      (zAE (zB3 (pn 5))))))),(zBA (zAD (zYP [0,1] (zEJ (zAX 2 (zAX 3 zD7)) rfl) (zAQ (zA2 (de_v 0) (zA2 (de_v 1) zA5))))
      (zAD (zAI (n:=9) [] (zBJ (n:=8) zA5))
      (zAD (zAI (n:=9) [] (zBJ (n:=8) zA5))
      (zAD (zFM (zJC (zA2 (zAF zCQ (dz zAA) (dz (zDR zCV (zA2 (de_v 0) zA5)))) zA5)) (zL4 (dt_b (dz (zAF zX2 (de_v 6) (de_v 4)))) (zAD (zAI (n:=9) [] (zBJ (n:=8) zA5))
      (zAD (zAI (n:=0) [6] (de_v 6))
      (zAD (zO2 (dt_b (dz (zAF zX2 (de_v 8) (de_v 7)))) (zAD (zR9 7 (n:=0) (zBJ (n:=0) (zA2 (de_v 8) (zA2 (zRI (de_v 2) (de_v 8)) zA5))))
      (zAI (n:=0) [3,2,8] (zRI (de_v 3) (dz (zRI (de_v 2) (de_v 8)))))))
      (zAD (zVW 4 (de_v 7))
      (zRA 5 [7] (de_v 7)))))) zFR))
      (zEG 5))))) h)⟩
theorem zKM:Has P w K mg base "_law_once" 4 ["_law_word_here","_law_choice_here"] (sp0 K mg 9 zEC):=by
  letI:Kc:=⟨K⟩
  exact dfM B.S.d19 S__law_once (fun _ _ _ _ _ _=>uw2 fun _ _=>rfl) fun hr hu h=>⟨_,(zA6 (pst 2 S__law_once.nd (zBD (zCL B) (by decide) hr rfl (zA1 (pn 0) zA4)))
      (zA6 (pst 3 S__law_once.nd (zBD (zE0 B) (by decide) hr rfl (zA1 (pn 0) zA4)))
      (zA6 (zHQ (i:=4) S__law_once.nd rfl oi rfl (cn ["0","_law_choice_here","2","3","4","5","6","7","_law_k","_law_letter"] 2 (by kernel_rfl)) (zG0 (K:=K) rfl B.S.e3 (zA1 (pn 2) zA4)) (fun _ _ _ _=>zDB (K:=K) rfl (zAY (pgn 8) (zAY (pgn 9) zDA))) (fun _ _ _ _=>zFD (zE9 (u_ne hu) (zCJ (zCF (K:=K)) (pn 1) (pn 8) (fun _ _=>rfl)) zAJ (zC6 _))) (fun _ _ _ _=>(pn 9)))
      (zA6 (pst 5 S__law_once.nd (zC0 zA4))
      (zA6 (zC4 PassesOwn.never rfl (zER (K:=K) (zBD (zHH B) (by decide) hr rfl (zA1 (pn 0) (zA1 (pn 1) zA4)))) (zB8 (i:=6) S__law_once.nd rfl oi) (zA6 (pst 7 S__law_once.nd (zC5 rfl (cn ["0","1","2","_law_firsts_here","4","5","6","7","_law_end"] 1 (by kernel_rfl)) (zER (K:=K) (pn 6)) (fun _ _ _ _=>(pgn 8)) (fun _ _ _ _=>zDK) (fun _ _ _ _=>(zCJ (zCF (K:=K)) (pn 3) (zAT zHO (pn 8) zAJ) (fun _ _=>rfl)))))
      (zAE (zCI (zES qAn qBj qBk zFH (pn 5) (zA1 (zC5 rfl (cn ["0","1","2","3","4","5","6","_law_places","_law_i","_law_letter"] 2 (by kernel_rfl)) (zG1 (K:=K) rfl B.S.e3 (zA1 (pn 4) zA4)) (fun _ _ _ _=>zDB (K:=K) rfl (zAY (pgn 8) (zAY (pgn 9) zDA))) (fun _ _ _ _=>zFD (zE9 (u_eq hu) (zES qAn qDa qEs zQE (pn 7) (zA1 (pn 9) zA4)) zAJ (zC6 _))) (fun _ _ _ _=>(pn 8))) zA4))))))
      (zAE (zB3 (pn 5)))))))),(zBA (zAD (zAI (n:=0) [0] (zAQ (zA2 (de_v 0) zA5)))
      (zAD (zAI (n:=1) [0] (zAQ (zA2 (de_v 0) zA5)))
      (zAD (zAI (n:=1) [2,1] (zBS (n:=0) (zO3 (zA2 (de_v 2) zA5)) (zEJ (zAX 8 (zAX 9 zD7)) rfl) (dt_b (dz (zAF zPR (zAF zCH (de_v 1) (de_v 8)) (dz zAA)))) (de_v 9)))
      (zAD (zAI (n:=9) [] (zBJ (n:=8) zA5))
      (zAD (zL5 [0,1] (zFS (zAQ (zA2 (de_v 0) (zA2 (de_v 1) zA5)))) (zC2 6) (zAD (zAI (n:=1) [3,6] (zBS (n:=0) (zFS (de_v 6)) (zC2 8) zFQ (zAF zCH (de_v 3) (dz (zAF zHP (de_v 8) (dz zAA))))))
      (zRB 5 (n:=1) (zBS (n:=0) (zT5 (zA2 (de_v 4) zA5)) (zEJ (zAX 8 (zAX 9 zD7)) rfl) (dt_b (dz (zAF zM5 (dz (zVZ zN8 (de_v 7) (zA2 (de_v 9) zA5))) (dz zAA)))) (de_v 8)))))
      (zEG 5)))))) h)⟩
theorem zIO:Has P w K mg base "_law_whole" 1 ["_law_found"] (sp0 K mg 0 zBN):=by
  letI:Kc:=⟨K⟩
  exact dfM B.S.d20 zLQ (fun _ _ _ _ _ _=>uw1 fun _=>rfl) fun hr hu h=>⟨_,(zAE (zB3 (zZP (zAM zCU rfl B.S.e5 boot_isinstance (zA1 (pn 0) (zA1 (zGJ (v:=.ty "int") rfl B.S.e4 boot_int rfl) zA4))) (zXN (zZN (zAM zCU rfl B.S.e5 boot_isinstance (zA1 (pn 0) (zA1 (zGJ (v:=.ty "bool") rfl B.S.e2 boot_bool rfl) zA4)))))))),(zBA (zBI (n:=0) [0] (zYX (dz (zO4 (by decide) (de_v 0))) (zYU (dz (zO4 (by decide) (de_v 0)))))) h)⟩
theorem zDZ:Has P w K mg base "_law_shaped" 2 ["_law_found","_law_due"] (sp0 K mg 0 zC8):=by
  letI:Kc:=⟨K⟩
  exact dfM B.S.d21 S__law_shaped (fun _ _ _ _ _ _=>uw2 fun _ _=>rfl) fun hr hu h=>⟨_,(zA6 (zKC (pt_w (zUV (zNF (pt_m (zAM zCU rfl B.S.e5 boot_isinstance (zA1 (pn 0) (zA1 (zGJ (v:=.ty "list") rfl B.S.e7 boot_list rfl) zA4))))) (zPU (zE9 (u_ne hu) (zAM (zCT (K:=K)) rfl B.S.e6 boot_len (zA1 (pn 0) zA4)) (zAM (zCT (K:=K)) rfl B.S.e6 boot_len (zA1 (pn 1) zA4)) (zC6 _))))) (zAE (zB3 zKE)) zDL)
      (zA6 (zC4 PassesOwn.never rfl (zER (K:=K) (pn 0)) (zB8 (i:=2) S__law_shaped.nd rfl oi) (zAE (zKC (pt_w (zUV (zNF (pt_m (zAM zCU rfl B.S.e5 boot_isinstance (zA1 (pn 2) (zA1 (zGJ (v:=.ty "list") rfl B.S.e7 boot_list rfl) zA4))))) (zPU (zNF (pt_m (zAM (za0 rfl) rfl B.S.e1 boot_all (zA1 (zC5 rfl (cn ["0","1","2","_law_one"] 1 (by kernel_rfl)) (zER (K:=K) (pn 2)) (fun _ _ _ _=>(pgn 3)) (fun _ _ _ _=>zDK) (fun _ _ _ _=>(zBD (zIO B) (by decide) hr rfl (zA1 (pn 3) zA4)))) zA4))))))) (zAE (zB3 zKE)) zDL)))
      (zAE (zB3 (zM9 (u_eq hu) (pn 0) (pn 1) (zC6 _)))))),(zBA (zAD (zL4 (zVU (zO1 (dt_m (dz (zO4 (by decide) (de_v 0))))) (dt_b (dz (zAF zPR (dz (zDR zCV (zA2 (de_v 0) zA5))) (dz (zDR zCV (zA2 (de_v 1) zA5))))))) (zBI (n:=0) [] zL6) zFR)
      (zAD (zL5 [0] (zFS (de_v 0)) (zC2 2) (zL4 (zVU (zO1 (dt_m (dz (zO4 (by decide) (de_v 2))))) (zO1 (dt_m (dz (zDR zZ0 (zA2 (zAO (zBS (n:=0) (zFS (de_v 2)) (zC2 3) zFQ (zAQ (zA2 (de_v 3) zA5)))) zA5)))))) (zBI (n:=0) [] zL6) zFR))
      (zBI (n:=0) [0,1] (zAF zM5 (de_v 0) (de_v 1))))) h)⟩
theorem zKL:Has P w K mg base "_law_word" 2 ["_law_script","_law_at","_law_most"] (sp0 K mg 0 zCY):=by
  letI:Kc:=⟨K⟩
  exact dfM B.S.d22 S__law_word (fun _ _ _ _ _ _=>uw3 fun _ _ _=>rfl) fun hr hu h=>zR0 (zB4 ⟨(pst 3 S__law_word.nd (zAT zD6 zAJ (zAT zGC (zBD (zC1 B) (by decide) hr rfl (zA1 (pn 0) (zA1 (pn 1) zA4))) (pn 2))))⟩
      (zB4 ⟨(pst 4 S__law_word.nd (zAT zGC (zAT zHO (zBD (zC1 B) (by decide) hr rfl (zA1 (pn 0) (zA1 (pn 1) zA4))) zAJ) zAJ))⟩
      (zB4 (zVV (i:=5) S__law_word.nd rfl oi (zYV (zCF (K:=K)) (zH8 (zAP zAW (zAP zAW (zAP zAW (zAP zAW (zAP zAW (zAP zAW (zAP zAW (zAP zAW (zAP zAW (zAP zAW (zAP zAW (zAP zAW zH9))))))))))))) ⟨(zAT zGC (zAT zHO (zBD (zC1 B) (by decide) hr rfl (zA1 (pn 0) (zA1 (pn 1) zA4))) zAJ) zAJ)⟩ (fun _ _=>rfl)))
      (zB4 ⟨(pst 6 S__law_word.nd (zC0 zA4))⟩
      (zB4 ⟨(zC4 PassesOwn.never rfl (zBP rfl B.S.e8 (zA1 (pn 3) zA4)) (zB8 (i:=7) S__law_word.nd rfl oi) (zA6 (pst 8 S__law_word.nd (zCJ (zCF (K:=K)) zHS (zAT zGC (zAT zD6 (pn 4) (zAT zCP (pn 7) (pn 5))) zAJ) (fun _ _=>rfl)))
      (zAE (zCI (zES qAn qCf qCg zIV (pn 6) (zA1 (zC0 (zA1 (pn 8) (zA1 (pn 8) zA4))) zA4))))))⟩
      (zB4 ⟨(pst 9 S__law_word.nd zHS)⟩
      (zB4 ⟨(zC4 PassesOwn.never rfl (zBP rfl B.S.e8 (zA1 (zAT zCP zAJ (pn 3)) zA4)) (zB8 (i:=7) S__law_word.nd rfl oi) (zAE (pst 9 S__law_word.nd (zAT zD6 (pn 9) (zES qAn PySem.F.slot_list_pop PySem.F.type_list_pop zV7 (pn 6) (zA1 (zAT zGC (zBD (zC1 B) (by decide) hr rfl (zA1 (pn 0) (zA1 (zAT zD6 (zAT zD6 (pn 1) zAJ) (pn 7)) zA4))) (zAM (zCT (K:=K)) rfl B.S.e6 boot_len (zA1 (pn 6) zA4))) zA4))))))⟩
      (zR4 ⟨(zB3 (pn 9))⟩)))))))) (zBA (zAD (zAI (n:=1) [2,0,1] (zAF zBT (dz zAA) (dz (zAF zDJ (zAQ (zA2 (de_v 0) (zA2 (de_v 1) zA5))) (de_v 2)))))
      (zAD (zAI (n:=0) [0,1] (zAF zDJ (dz (zAF zHP (zAQ (zA2 (de_v 0) (zA2 (de_v 1) zA5))) (dz zAA))) (dz zAA)))
      (zAD (zAI (n:=0) [0,1] (zAF zCH (zBJ (n:=0) (zA2 zAA (zA2 zAA (zA2 zAA (zA2 zAA (zA2 zAA (zA2 zAA (zA2 zAA (zA2 zAA (zA2 zAA (zA2 zAA (zA2 zAA (zA2 zAA zA5))))))))))))) (dz (zAF zDJ (dz (zAF zHP (zAQ (zA2 (de_v 0) (zA2 (de_v 1) zA5))) (dz zAA))) (dz zAA)))))
      (zAD (zAI (n:=9) [] (zBJ (n:=8) zA5))
      (zAD (zFM (zJC (zA2 (de_v 3) zA5)) (zAD (zAI (n:=0) [4,7,5] (zAF zCH (dz zHX) (dz (zAF zDJ (zAF zBT (de_v 4) (dz (zAF zCQ (de_v 7) (de_v 5)))) (dz zAA)))))
      (zR9 6 (n:=0) (zBJ (n:=0) (zA2 (de_v 8) (zA2 (de_v 8) zA5))))))
      (zAD (zAI (n:=0) [] zHX)
      (zAD (zFM (zJC (zA2 (zAF zCQ (dz zAA) (de_v 3)) zA5)) (zRC 9 6 (dz (zAF zDJ (zAQ (zA2 (de_v 0) (zA2 (zAO (zAF zBT (zAF zBT (de_v 1) (dz zAA)) (de_v 7))) zA5))) (dz (zDR zCV (zA2 (de_v 6) zA5)))))))
      (zEG 9)))))))) h)
theorem zXY {f:Addr} {fd:FuncData} (F:Fun K "law" "law" (top 36) f fd):FnOk P w K mg base CX0 7 f fd ["_law_script"] (zK2 K):=by
  letI:Kc:=⟨K⟩
  refine (F.ok S_law (sp:=sp0 K mg 0 zKS) (fun vs H Q E h=>zLX h) (fun cdv A outer s H vs Q E hr h=>?_)).imp (zST zSS)
  have hu:=hr.units
  exact ⟨_,(zA6 (pst 1 S_law.nd (zBD (zKL B) (by decide) hr rfl (zA1 (pn 0) (zA1 zAJ (zA1 zAJ zA4)))))
      (zA6 (pst 2 S_law.nd (zBD (zHI B) (by decide) hr rfl (zA1 (pn 0) (zA1 zAJ (zA1 (zAM (zCT (K:=K)) rfl B.S.e6 boot_len (zA1 (zBD (zCL B) (by decide) hr rfl (zA1 (pn 1) zA4)) zA4)) zA4)))))
      (zA6 (zKC (zE9 u_gt (zAM (zCT (K:=K)) rfl B.S.e6 boot_len (zA1 (pn 2) zA4)) zAJ (zC6 _)) (zAE (zB3 (zM9 (u_eq hu) (zBD (zIQ B) (by decide) hr rfl (zA1 (pn 1) (zA1 (pn 2) zA4))) (zC0 (zA1 zKE (zA1 zKE (zA1 zKE (zA1 zKE zA4))))) (zC6 _)))) zDL)
      (zA6 (pst 3 S_law.nd (zBD (zKM B) (by decide) hr rfl (zA1 (pn 1) (zA1 (pn 2) zA4))))
      (zA6 (pst 4 S_law.nd (zET (zVI (K:=K) rfl) rfl B.S.e7 boot_list (zA1 (pn 2) zA4)))
      (zA6 (pst 5 S_law.nd (zQ2 (zCX B) (by decide) hr zU0 rfl (zA1 (pn 1) (zA1 (pn 4) zA4))))
      (zA6 (zKC (pt_w (zUV (zNF (pt_m (zBD (zDZ B) (by decide) hr rfl (zA1 (pn 5) (zA1 (pn 3) zA4))))) (zPU (zE9 (u_ne hu) (pn 4) (pn 2) (zC6 _))))) (zAE (zB3 zKE)) zDL)
      (zA6 (zC4 PassesOwn.never rfl (zER (K:=K) (pn 5)) (zB8 (i:=6) S_law.nd rfl oi) (zAE (zCI (zES qAn qBj qBk zFH (pn 6) (zA1 zAJ zA4)))))
      (zA6 (zCI (zES qAn qBj qBk zFH (pn 5) (zA1 (zC0 zA4) zA4)))
      (zAE (zB3 (zBD (zDZ B) (by decide) hr rfl (zA1 (zQ2 (zCX B) (by decide) hr zU0 rfl (zA1 (pn 1) (zA1 (pn 4) zA4))) (zA1 (pn 3) zA4)))))))))))))),(zBA (zAD (zAI (n:=0) [0] (zAQ (zA2 (de_v 0) (zA2 zAA (zA2 zAA zA5)))))
      (zAD (zAI (n:=1) [0,1] (zAQ (zA2 (de_v 0) (zA2 zAA (zA2 (zDR zCV (zA2 (zAQ (zA2 (de_v 1) zA5)) zA5)) zA5)))))
      (zAD (zL4 (dt_b (dz (zAF zN7 (dz (zDR zCV (zA2 (de_v 2) zA5))) (dz zAA)))) (zBI (n:=0) [1,2] (zAF zM5 (zAQ (zA2 (de_v 1) (zA2 (de_v 2) zA5))) (zBJ (n:=0) (zA2 zL6 (zA2 zL6 (zA2 zL6 (zA2 zL6 zA5))))))) zFR)
      (zAD (zAI (n:=9) [1,2] (zAQ (zA2 (de_v 1) (zA2 (de_v 2) zA5))))
      (zAD (zAI (n:=1) [2] (zDR zW5 (zA2 (de_v 2) zA5)))
      (zAD (zAI (n:=2) [1,4] (zG8 (zA2 (de_v 1) (zA2 (de_v 4) zA5))))
      (zAD (zL4 (zVU (zO1 (dt_m (zAQ (zA2 (de_v 5) (zA2 (de_v 3) zA5))))) (dt_b (dz (zAF zPR (de_v 4) (de_v 2))))) (zBI (n:=0) [] zL6) zFR)
      (zAD (zR8 5 6 0)
      (zAD (zRB 5 (n:=9) (zBJ (n:=8) zA5))
      (zBI (n:=0) [3,1,4] (zAQ (zA2 (zAO (zG8 (zA2 (de_v 1) (zA2 (de_v 4) zA5)))) (zA2 (de_v 3) zA5))))))))))))) h)⟩
end
theorem all_mk {l:qF7} {w:World} {K:qA2} {h:Heap} {mg:Str→Option Value} {fa f23 a_RoundError a_NoWord a_NoOne a_TooMany:Addr} {dd_RoundError dd_NoWord dd_NoOne dd_TooMany:Option Addr} {cd_RoundError cd_NoWord cd_NoOne cd_TooMany:ClassData} {sl_RoundError sl_NoWord sl_NoOne sl_TooMany:Array (Option Value)} (X:K.In h) (G:h.Ns mainGlobals mg) (hfa:mg "law" = some (.ref fa))
    {od23 an23:Option Addr} {sl23:Array (Option Value)} {oc23 kV23 dc23 pm23 cd23 ct23:Value} {t0 t1:Tok}
    (S:Bd K mg)
    (a23:qCb K mainGlobals "law" = some (some (.ref f23)))
    (l23:K.lookup f23 = some ⟨oc23,od23,.func (qBq "law" "law" (zCN (top 36)) (zBC (top 36)) (zA7 (top 36)) .none kV23 dc23 pm23 an23 cd23 ct23),sl23⟩)
    (c23:qDu K cd23 "law" = true)
    (k23:qB9 K (.ref f23) = true)
    (y0:qCb K mainGlobals "MOST_PLACES" = some (some (.int 8 t0)))
    (y1:qCb K mainGlobals "SEATS" = some (some (.int 4 t1)))
    (xa_RoundError:qCb K mainGlobals "RoundError" = some (some (.ref a_RoundError)))
    (xl_RoundError:K.lookup a_RoundError = some ⟨.type "type",dd_RoundError,.cls cd_RoundError,sl_RoundError⟩)
    (xd_RoundError:xcD a_RoundError cd_RoundError sl_RoundError = true)
    (xn_RoundError:qC1 K a_RoundError = some cd_RoundError)
    (xo_RoundError:PySem.W.excTail cd_RoundError.mro = true)
    (xt_RoundError:qC2 K (.ref a_RoundError) = some (.type "type"))
    (xg_RoundError:qAm K (.ref a_RoundError) "__getattribute__" = some (some (.builtin "BaseException.__getattribute__")))
    (xh_RoundError:qAm K (.ref a_RoundError) "__getattr__" = some none)
    (xj_RoundError:qCc K a_RoundError = true)
    (xm_RoundError:qAm K (.ref a_RoundError) "__class__" = some (some (.builtin "object.__class__")))
    (xp_RoundError:qD7 K a_RoundError (.type "object") = some true)
    (xv_RoundError:qAl K (.ref a_RoundError) (.type "ValueError") = some true)
    (xw_RoundError:qAl K (.ref a_RoundError) (.type "BaseException") = some true)
    (xa_NoWord:qCb K mainGlobals "NoWord" = some (some (.ref a_NoWord)))
    (xl_NoWord:K.lookup a_NoWord = some ⟨.type "type",dd_NoWord,.cls cd_NoWord,sl_NoWord⟩)
    (xd_NoWord:xcD a_NoWord cd_NoWord sl_NoWord = true)
    (xn_NoWord:qC1 K a_NoWord = some cd_NoWord)
    (xo_NoWord:PySem.W.excTail cd_NoWord.mro = true)
    (xt_NoWord:qC2 K (.ref a_NoWord) = some (.type "type"))
    (xg_NoWord:qAm K (.ref a_NoWord) "__getattribute__" = some (some (.builtin "BaseException.__getattribute__")))
    (xh_NoWord:qAm K (.ref a_NoWord) "__getattr__" = some none)
    (xj_NoWord:qCc K a_NoWord = true)
    (xm_NoWord:qAm K (.ref a_NoWord) "__class__" = some (some (.builtin "object.__class__")))
    (xp_NoWord:qD7 K a_NoWord (.type "object") = some true)
    (xv_NoWord:qAl K (.ref a_NoWord) (.type "ValueError") = some true)
    (xw_NoWord:qAl K (.ref a_NoWord) (.type "BaseException") = some true)
    (xa_NoOne:qCb K mainGlobals "NoOne" = some (some (.ref a_NoOne)))
    (xl_NoOne:K.lookup a_NoOne = some ⟨.type "type",dd_NoOne,.cls cd_NoOne,sl_NoOne⟩)
    (xd_NoOne:xcD a_NoOne cd_NoOne sl_NoOne = true)
    (xn_NoOne:qC1 K a_NoOne = some cd_NoOne)
    (xo_NoOne:PySem.W.excTail cd_NoOne.mro = true)
    (xt_NoOne:qC2 K (.ref a_NoOne) = some (.type "type"))
    (xg_NoOne:qAm K (.ref a_NoOne) "__getattribute__" = some (some (.builtin "BaseException.__getattribute__")))
    (xh_NoOne:qAm K (.ref a_NoOne) "__getattr__" = some none)
    (xj_NoOne:qCc K a_NoOne = true)
    (xm_NoOne:qAm K (.ref a_NoOne) "__class__" = some (some (.builtin "object.__class__")))
    (xp_NoOne:qD7 K a_NoOne (.type "object") = some true)
    (xv_NoOne:qAl K (.ref a_NoOne) (.type "ValueError") = some true)
    (xw_NoOne:qAl K (.ref a_NoOne) (.type "BaseException") = some true)
    (xa_TooMany:qCb K mainGlobals "TooMany" = some (some (.ref a_TooMany)))
    (xl_TooMany:K.lookup a_TooMany = some ⟨.type "type",dd_TooMany,.cls cd_TooMany,sl_TooMany⟩)
    (xd_TooMany:xcD a_TooMany cd_TooMany sl_TooMany = true)
    (xn_TooMany:qC1 K a_TooMany = some cd_TooMany)
    (xo_TooMany:PySem.W.excTail cd_TooMany.mro = true)
    (xt_TooMany:qC2 K (.ref a_TooMany) = some (.type "type"))
    (xg_TooMany:qAm K (.ref a_TooMany) "__getattribute__" = some (some (.builtin "BaseException.__getattribute__")))
    (xh_TooMany:qAm K (.ref a_TooMany) "__getattr__" = some none)
    (xj_TooMany:qCc K a_TooMany = true)
    (xm_TooMany:qAm K (.ref a_TooMany) "__class__" = some (some (.builtin "object.__class__")))
    (xp_TooMany:qD7 K a_TooMany (.type "object") = some true)
    (xv_TooMany:qAl K (.ref a_TooMany) (.type "ValueError") = some true)
    (xw_TooMany:qAl K (.ref a_TooMany) (.type "BaseException") = some true)
    (ycg:qCu K (.builtin "object.__class__") "__get__" = some (some (.builtin "getset_descriptor.__get__")))
    (yct:qF3 K (.builtin "object.__class__") = some true)
    (zk_TooMany:qB9 K (.ref a_TooMany) = true)
    (zi_TooMany:qAm K (.ref a_TooMany) "__init__" = some (some (.builtin "ValueError.__init__")))
    (s_TooMany_TooMany:qAl K (.ref a_TooMany) (.ref a_TooMany) = some true)
    (s_RoundError_TooMany:qAl K (.ref a_RoundError) (.ref a_TooMany) = some false)
    (e_RoundError_TooMany:(a_RoundError == a_TooMany) = false)
    (s_NoWord_TooMany:qAl K (.ref a_NoWord) (.ref a_TooMany) = some false)
    (e_NoWord_TooMany:(a_NoWord == a_TooMany) = false)
    (s_NoOne_TooMany:qAl K (.ref a_NoOne) (.ref a_TooMany) = some false)
    (e_NoOne_TooMany:(a_NoOne == a_TooMany) = false)
    (s_NoWord_NoWord:qAl K (.ref a_NoWord) (.ref a_NoWord) = some true)
    (s_RoundError_NoWord:qAl K (.ref a_RoundError) (.ref a_NoWord) = some false)
    (e_RoundError_NoWord:(a_RoundError == a_NoWord) = false)
    (s_NoOne_NoWord:qAl K (.ref a_NoOne) (.ref a_NoWord) = some false)
    (e_NoOne_NoWord:(a_NoOne == a_NoWord) = false)
    (s_TooMany_NoWord:qAl K (.ref a_TooMany) (.ref a_NoWord) = some false)
    (e_TooMany_NoWord:(a_TooMany == a_NoWord) = false)
    (s_NoOne_NoOne:qAl K (.ref a_NoOne) (.ref a_NoOne) = some true)
    (s_RoundError_NoOne:qAl K (.ref a_RoundError) (.ref a_NoOne) = some false)
    (e_RoundError_NoOne:(a_RoundError == a_NoOne) = false)
    (s_NoWord_NoOne:qAl K (.ref a_NoWord) (.ref a_NoOne) = some false)
    (e_NoWord_NoOne:(a_NoWord == a_NoOne) = false)
    (s_TooMany_NoOne:qAl K (.ref a_TooMany) (.ref a_NoOne) = some false)
    (e_TooMany_NoOne:(a_TooMany == a_NoOne) = false)
    (s_RoundError_RoundError:qAl K (.ref a_RoundError) (.ref a_RoundError) = some true)
    (s_NoWord_RoundError:qAl K (.ref a_NoWord) (.ref a_RoundError) = some true)
    (s_NoOne_RoundError:qAl K (.ref a_NoOne) (.ref a_RoundError) = some true)
    (s_TooMany_RoundError:qAl K (.ref a_TooMany) (.ref a_RoundError) = some true)
   :∃ fd:FuncData,(∀ (s:Shared) (v:Value),BindsTo s fd ⟨[v],[]⟩ [("_law_script",v)])∧∀ base:Heap,K.In base→base.Ns mainGlobals mg→FnOk l.prog w K mg base CX0 7 fa fd ["_law_script"] (zK2 K):=by
  have e:=hfa.symm.trans (qCk X G a23)
  cases e
  have c_MOST_PLACES:RelV (V.int 8) (.int 8 t0)∧mg "MOST_PLACES" = some (.int 8 t0):=⟨⟨_,rfl⟩,qCk X G y0⟩
  have c_SEATS:RelV (V.int 4) (.int 4 t1)∧mg "SEATS" = some (.int 4 t1):=⟨⟨_,rfl⟩,qCk X G y1⟩
  have i_RoundError:Xc.XIs K a_RoundError:=⟨zI3 xl_RoundError xd_RoundError,xg_RoundError,xh_RoundError,xj_RoundError,xm_RoundError,ycg,yct,xp_RoundError⟩
  have i_NoWord:Xc.XIs K a_NoWord:=⟨zI3 xl_NoWord xd_NoWord,xg_NoWord,xh_NoWord,xj_NoWord,xm_NoWord,ycg,yct,xp_NoWord⟩
  have i_NoOne:Xc.XIs K a_NoOne:=⟨zI3 xl_NoOne xd_NoOne,xg_NoOne,xh_NoOne,xj_NoOne,xm_NoOne,ycg,yct,xp_NoOne⟩
  have i_TooMany:Xc.XIs K a_TooMany:=⟨zI3 xl_TooMany xd_TooMany,xg_TooMany,xh_TooMany,xj_TooMany,xm_TooMany,ycg,yct,xp_TooMany⟩
  have n_RoundError:XCls K mg "RoundError" a_RoundError:=⟨zCC xa_RoundError,qCk X G xa_RoundError,i_RoundError⟩
  have n_NoWord:XCls K mg "NoWord" a_NoWord:=⟨zCC xa_NoWord,qCk X G xa_NoWord,i_NoWord⟩
  have n_NoOne:XCls K mg "NoOne" a_NoOne:=⟨zCC xa_NoOne,qCk X G xa_NoOne,i_NoOne⟩
  have n_TooMany:XCls K mg "TooMany" a_TooMany:=⟨zCC xa_TooMany,qCk X G xa_TooMany,i_TooMany⟩
  have z_TooMany:XNo K mg "TooMany" a_TooMany:=⟨n_TooMany,zk_TooMany,zi_TooMany⟩
  have q0_y:(∀ c∈(["TooMany"]:List Str),∃ C,clK K c = some C∧Xc.XIs K C∧kitV K C (V.ref a_TooMany) = some true):=by
    intro c h
    simp only [qAb,qAp,or_false] at h
    subst h
    exact ⟨a_TooMany,zCC xa_TooMany,i_TooMany,(zJ2 xn_TooMany xt_TooMany s_TooMany_TooMany)⟩
  have q0_n:(∀ c∈(["RoundError","NoWord","NoOne"]:List Str),∃ C,clK K c = some C∧Xc.XIs K C∧kitV K C (V.ref a_TooMany) = some false):=by
    intro c h
    simp only [qAb,qAp,or_false] at h
    rcases h with rfl | rfl | rfl
    · exact ⟨a_RoundError,zCC xa_RoundError,i_RoundError,(zCA xn_TooMany xt_TooMany s_RoundError_TooMany e_RoundError_TooMany)⟩
    · exact ⟨a_NoWord,zCC xa_NoWord,i_NoWord,(zCA xn_TooMany xt_TooMany s_NoWord_TooMany e_NoWord_TooMany)⟩
    · exact ⟨a_NoOne,zCC xa_NoOne,i_NoOne,(zCA xn_TooMany xt_TooMany s_NoOne_TooMany e_NoOne_TooMany)⟩
  have q0:(∀ c∈(["TooMany"]:List Str),∃ C,clK K c = some C∧Xc.XIs K C∧kitV K C (V.ref a_TooMany) = some true)∧(∀ c∈(["RoundError","NoWord","NoOne"]:List Str),∃ C,clK K c = some C∧Xc.XIs K C∧kitV K C (V.ref a_TooMany) = some false):=⟨q0_y,q0_n⟩
  have q1_y:(∀ c∈(["RoundError","NoWord","NoOne","TooMany"]:List Str),∃ C,clK K c = some C∧Xc.XIs K C∧kitV K C (V.ty "ValueError") = some true):=by
    intro c h
    simp only [qAb,qAp,or_false] at h
    rcases h with rfl | rfl | rfl | rfl
    · exact ⟨a_RoundError,zCC xa_RoundError,i_RoundError,(zEY xv_RoundError)⟩
    · exact ⟨a_NoWord,zCC xa_NoWord,i_NoWord,(zEY xv_NoWord)⟩
    · exact ⟨a_NoOne,zCC xa_NoOne,i_NoOne,(zEY xv_NoOne)⟩
    · exact ⟨a_TooMany,zCC xa_TooMany,i_TooMany,(zEY xv_TooMany)⟩
  have q1_n:(∀ c∈([]:List Str),∃ C,clK K c = some C∧Xc.XIs K C∧kitV K C (V.ty "ValueError") = some false):=by
    intro c h
    simp only [qAb,qAp,or_false] at h
  have q1:(∀ c∈(["RoundError","NoWord","NoOne","TooMany"]:List Str),∃ C,clK K c = some C∧Xc.XIs K C∧kitV K C (V.ty "ValueError") = some true)∧(∀ c∈([]:List Str),∃ C,clK K c = some C∧Xc.XIs K C∧kitV K C (V.ty "ValueError") = some false):=⟨q1_y,q1_n⟩
  have q2_y:(∀ c∈(["NoWord"]:List Str),∃ C,clK K c = some C∧Xc.XIs K C∧kitV K C (V.ref a_NoWord) = some true):=by
    intro c h
    simp only [qAb,qAp,or_false] at h
    subst h
    exact ⟨a_NoWord,zCC xa_NoWord,i_NoWord,(zJ2 xn_NoWord xt_NoWord s_NoWord_NoWord)⟩
  have q2_n:(∀ c∈(["RoundError","NoOne","TooMany"]:List Str),∃ C,clK K c = some C∧Xc.XIs K C∧kitV K C (V.ref a_NoWord) = some false):=by
    intro c h
    simp only [qAb,qAp,or_false] at h
    rcases h with rfl | rfl | rfl
    · exact ⟨a_RoundError,zCC xa_RoundError,i_RoundError,(zCA xn_NoWord xt_NoWord s_RoundError_NoWord e_RoundError_NoWord)⟩
    · exact ⟨a_NoOne,zCC xa_NoOne,i_NoOne,(zCA xn_NoWord xt_NoWord s_NoOne_NoWord e_NoOne_NoWord)⟩
    · exact ⟨a_TooMany,zCC xa_TooMany,i_TooMany,(zCA xn_NoWord xt_NoWord s_TooMany_NoWord e_TooMany_NoWord)⟩
  have q2:(∀ c∈(["NoWord"]:List Str),∃ C,clK K c = some C∧Xc.XIs K C∧kitV K C (V.ref a_NoWord) = some true)∧(∀ c∈(["RoundError","NoOne","TooMany"]:List Str),∃ C,clK K c = some C∧Xc.XIs K C∧kitV K C (V.ref a_NoWord) = some false):=⟨q2_y,q2_n⟩
  have q3_y:(∀ c∈(["NoOne"]:List Str),∃ C,clK K c = some C∧Xc.XIs K C∧kitV K C (V.ref a_NoOne) = some true):=by
    intro c h
    simp only [qAb,qAp,or_false] at h
    subst h
    exact ⟨a_NoOne,zCC xa_NoOne,i_NoOne,(zJ2 xn_NoOne xt_NoOne s_NoOne_NoOne)⟩
  have q3_n:(∀ c∈(["RoundError","NoWord","TooMany"]:List Str),∃ C,clK K c = some C∧Xc.XIs K C∧kitV K C (V.ref a_NoOne) = some false):=by
    intro c h
    simp only [qAb,qAp,or_false] at h
    rcases h with rfl | rfl | rfl
    · exact ⟨a_RoundError,zCC xa_RoundError,i_RoundError,(zCA xn_NoOne xt_NoOne s_RoundError_NoOne e_RoundError_NoOne)⟩
    · exact ⟨a_NoWord,zCC xa_NoWord,i_NoWord,(zCA xn_NoOne xt_NoOne s_NoWord_NoOne e_NoWord_NoOne)⟩
    · exact ⟨a_TooMany,zCC xa_TooMany,i_TooMany,(zCA xn_NoOne xt_NoOne s_TooMany_NoOne e_TooMany_NoOne)⟩
  have q3:(∀ c∈(["NoOne"]:List Str),∃ C,clK K c = some C∧Xc.XIs K C∧kitV K C (V.ref a_NoOne) = some true)∧(∀ c∈(["RoundError","NoWord","TooMany"]:List Str),∃ C,clK K c = some C∧Xc.XIs K C∧kitV K C (V.ref a_NoOne) = some false):=⟨q3_y,q3_n⟩
  have q4:(∀ c∈(["RoundError","NoWord","NoOne","TooMany"]:List Str),∃ C,clK K c = some C∧qCy K (.ref C) (.ref a_RoundError) = some true):=by
    intro c h
    simp only [qAb,qAp,or_false] at h
    rcases h with rfl | rfl | rfl | rfl
    · exact ⟨a_RoundError,zCC xa_RoundError,zF0 xw_RoundError xn_RoundError xt_RoundError s_RoundError_RoundError⟩
    · exact ⟨a_NoWord,zCC xa_NoWord,zF0 xw_RoundError xn_RoundError xt_RoundError s_NoWord_RoundError⟩
    · exact ⟨a_NoOne,zCC xa_NoOne,zF0 xw_RoundError xn_RoundError xt_RoundError s_NoOne_RoundError⟩
    · exact ⟨a_TooMany,zCC xa_TooMany,zF0 xw_RoundError xn_RoundError xt_RoundError s_TooMany_RoundError⟩
  refine ⟨qBq "law" "law" (zCN (top 36)) (zBC (top 36)) (zA7 (top 36)) .none kV23 dc23 pm23 an23 cd23 ct23,fun s v=>.of_eq rfl,fun base _ _=>?_⟩
  exact zXY ⟨S,_,_,_,_,_,_,c_SEATS,c_MOST_PLACES,z_TooMany,n_RoundError,n_NoWord,n_NoOne,n_TooMany,q0,q1,q2,q3,q4⟩ (zTY (st:=(top 36)) l23 c23 k23)
theorem walk {l:qF7} {q:Program} {loose:List Str} {XP:(Str→Option Value)→Heap→Prop} {YP:World→Heap→Prop} {d:DefRec} {K:Params→qA2} (hn:l.most = some 63) (hdf:d.params.defaults = [])
    (hY:∀ (w:World) (h:Heap),YP w h→(K w.params).In h)
    (F:∀ (w:World) (mg:Str→Option Value) (fa:Addr) (h:Heap),(K w.params).In h→h.Ns mainGlobals mg→mg d.name = some (.ref fa) →
      ∃ fd:FuncData,(∀ (s:Shared) (u:Value),BindsTo s fd ⟨[u],[]⟩ [("_law_script",u)])∧∀ base:Heap,(K w.params).In base→base.Ns mainGlobals mg→FnOk l.prog w (K w.params) mg base CX0 7 fa fd ["_law_script"] (zK2 (K w.params))) :
    qHi q loose XP YP l.row.toRowW d [] (fun f vs=>qHf f vs) :=
  L2.walk_ofW (n:=63) (k:=7) (x:="_law_script") (CX:=fun _=>CX0) (sp:=fun w=>zK2 (K w.params)) hn (by decide) hdf ⟨rfl,by decide,by decide⟩ hY F (fun _ _ a ns hl hw _ hS=>⟨a,ns,rfl,hS,hl,hw,fun _=>rfl⟩) fun _ _ _ _ _ z=>z
end Q43
open PySem PySem.W PyProof.Rows
set_option maxRecDepth 100000 in
set_option maxHeartbeats 0 in
theorem PySem.Challenge.cw_fourway_k43_passed_once_holds : PySem.Challenge.rw_fourway_k43_passed_once.Holds := by
  w_on; o_law; k_head; (case hw=>w_witness2)
  k_fill
  refine Q43.walk (l:=qCm) rfl rfl (fun w h Y=>PySem.W.kIn_of Y) ?F
  case F =>
    intro w mg fa h KX G hmg
    refine' Q43.all_mk KX G hmg (by constructor <;> first | exact L3.mkD KX G (by k_is) (by k_is) (by k_is) (by k_is) | exact PySem.W.mg_none_of KX G (by k_is)) (by k_is) (by k_is) (by k_is) (by k_is) (by k_is) (by k_is) (by k_is) (by k_is) (by rfl) (by k_is) (by rfl) (by k_is) (by k_is) (by k_is) (by k_is) (by k_is) (by k_is) (by k_is) (by k_is) (by k_is) (by k_is) (by rfl) (by k_is) (by rfl) (by k_is) (by k_is) (by k_is) (by k_is) (by k_is) (by k_is) (by k_is) (by k_is) (by k_is) (by k_is) (by rfl) (by k_is) (by rfl) (by k_is) (by k_is) (by k_is) (by k_is) (by k_is) (by k_is) (by k_is) (by k_is) (by k_is) (by k_is) (by rfl) (by k_is) (by rfl) (by k_is) (by k_is) (by k_is) (by k_is) (by k_is) (by k_is) (by k_is) (by k_is) (by k_is) (by k_is) (by k_is) (by k_is) (by k_is) (by k_is) (by rfl) (by k_is) (by rfl) (by k_is) (by rfl) (by k_is) (by k_is) (by rfl) (by k_is) (by rfl) (by k_is) (by rfl) (by k_is) (by k_is) (by rfl) (by k_is) (by rfl) (by k_is) (by rfl) (by k_is) (by k_is) (by k_is) (by k_is)
