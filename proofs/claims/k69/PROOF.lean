import PyProof.Rows.All
import Wide.All
import OpenK.AllK
import Wide.FinOn
import Lean
import PyProof.EqAt
import PyProof.EqKinds
import PyProof.TupleCall
import PyProof.NeKinds
import PySem.Challenge.RW_fourway_k69_whole_numbers_exchanged
set_option Elab.async false
set_option linter.all false
set_option maxRecDepth 100000
noncomputable section
namespace L2
open PySem PySem.Spec PyProof.Rows
abbrev Key:=Sum Int Str
noncomputable def zWW:Key→Value→Bool
  | .inl k,v=>Value.isInt k v
  | .inr x,v=>Value.isStrOf x v
noncomputable def keyH (w:World):Key→Int
  | .inl k=>hashInt k
  | .inr x=>hashStr w x
theorem zBK:∀ {k:Key} {v:Value},zWW k v = true→(∃ i t,k = Sum.inl i∧v = Value.int i t)∨(∃ x t,k = Sum.inr x∧v = Value.str x t)
  | .inl i,v,h=>by
    obtain ⟨t,e⟩:=Value.isInt_shape (k:=i) (v:=v) h
    exact .inl ⟨i,t,rfl,e⟩
  | .inr x,v,h=>by
    obtain ⟨t,e⟩:=Value.isStrOf_shape (x:=x) (v:=v) h
    exact .inr ⟨x,t,rfl,e⟩
theorem zWV (a b:Int):decide ((Sum.inl a:Key) = Sum.inl b) = (a == b):=by
  by_cases e:a = b
  · subst e; simp
  · have h:¬ (Sum.inl a:Key) = Sum.inl b:=fun q=>e (Sum.inl.inj q)
    rw [decide_eq_false h]
    exact (beq_eq_false_iff_ne.mpr e).symm
theorem zWS (a b:Str):decide ((Sum.inr a:Key) = Sum.inr b) = decide (a = b):=by
  by_cases e:a = b
  · subst e; simp
  · have h:¬ (Sum.inr a:Key) = Sum.inr b:=fun q=>e (Sum.inr.inj q)
    rw [decide_eq_false h,decide_eq_false e]
theorem zWU (a:Int) (b:Str):decide ((Sum.inl a:Key) = Sum.inr b) = false:=decide_eq_false (fun q=>nomatch q)
theorem zWT (a:Str) (b:Int):decide ((Sum.inr a:Key) = Sum.inl b) = false:=decide_eq_false (fun q=>nomatch q)
def zM3 (prog:Program) (w:World):PySem.KeyKind prog w Key where
  is:=zWW
  hash:=keyH w
  inj:=fun v a b ha hb=>by
    rcases zBK ha with ⟨i,t,rfl,rfl⟩ | ⟨x,t,rfl,rfl⟩
    · rcases zBK hb with ⟨j,u,rfl,e⟩ | ⟨y,u,rfl,e⟩
      · injection e with e1 _; rw [e1]
      · exact nomatch e
    · rcases zBK hb with ⟨j,u,rfl,e⟩ | ⟨y,u,rfl,e⟩
      · exact nomatch e
      · injection e with e1 _; rw [e1]
  byValue:=fun k v h=>by
    rcases zBK h with ⟨i,t,rfl,rfl⟩ | ⟨x,t,rfl,rfl⟩ <;> rfl
  pyHash:=fun hv h=>by
    rcases zBK hv with ⟨i,t,rfl,rfl⟩ | ⟨x,t,rfl,rfl⟩
    · exact wpAny_pyHash_int h
    · exact wpAny_pyHash_str h
  eqBool:=fun hu hv h=>by
    rcases zBK hu with ⟨i,t,rfl,rfl⟩ | ⟨x,t,rfl,rfl⟩
    · rcases zBK hv with ⟨j,u,rfl,rfl⟩ | ⟨y,u,rfl,rfl⟩
      · rw [zWV] at h; exact wpAny_eqBool_int h
      · rw [zWU] at h; exact SeqAt.EqAt.int_str i t y u _ _ _ _ h
    · rcases zBK hv with ⟨j,u,rfl,rfl⟩ | ⟨y,u,rfl,rfl⟩
      · rw [zWT] at h; exact SeqAt.EqAt.str_int x t j u _ _ _ _ h
      · rw [zWS] at h; exact wpAny_eqBool_str h
  «strs»:=fun k x t v h=>by
    rcases zBK h with ⟨i,u,rfl,e⟩ | ⟨y,u,rfl,e⟩
    · exact nomatch e
    · injection e with e1 _
      subst e1
      cases v <;> rfl
end L2
namespace L2
open PySem PySem.Spec PyProof.Rows
inductive V where
  | non | bl (b:Bool) | int (i:Int) | str (x:Str) | byt (b:Array UInt8) | flt (b:UInt64) | ref (a:Addr) | ty (n:String)
  deriving DecidableEq
noncomputable def RelV:V→Value→Prop
  | .non,u=>u = Value.none
  | .bl b,u=>u = Value.bool b
  | .int i,u=>∃ t,u = Value.int i t
  | .str x,u=>∃ t,u = Value.str x t
  | .byt b,u=>∃ t,u = Value.bytes b t
  | .flt b,u=>∃ t,u = Value.float b t
  | .ref a,u=>u = Value.ref a
  | .ty n,u=>u = Value.type n
abbrev Vals:List V→List Value→Prop:=Paired RelV
theorem Vals.length {xs:List V} {us:List Value} (r:Vals xs us):xs.length = us.length:=Paired.length r
theorem Vals.get:∀ {xs:List V} {us:List Value} {i:Nat} {x:V},Vals xs us→xs[i]? = some x→∃ u,us[i]? = some u∧RelV x u
  | _,_,_,_,.nil,e=>by simp at e
  | _,_,0,_,.cons r _,e=>by simp at e; subst e; exact ⟨_,rfl,r⟩
  | _,_,i + 1,x,.cons _ t,e=>by
    obtain ⟨u,h1,h2⟩:=Vals.get (i:=i) (x:=x) t (by simpa using e)
    exact ⟨u,by simpa using h1,h2⟩
theorem Vals.set {x:V} {u:Value} (r:RelV x u):∀ {xs:List V} {us:List Value} (i:Nat),Vals xs us→Vals (xs.set i x) (us.set i u)
  | _,_,_,.nil=>.nil
  | _,_,0,.cons _ t=>.cons r t
  | _,_,i + 1,.cons q t=>.cons q (Vals.set r i t)
theorem Vals.append:∀ {xs ys:List V} {us ws:List Value},Vals xs us→Vals ys ws→Vals (xs ++ ys) (us ++ ws)
  | _,_,_,_,.nil,s=>s
  | _,_,_,_,.cons r t,s=>.cons r (Vals.append t s)
theorem Vals.take:∀ {xs:List V} {us:List Value} (n:Nat),Vals xs us→Vals (xs.take n) (us.take n)
  | _,_,0,_=>.nil
  | _,_,_ + 1,.nil=>.nil
  | _,_,n + 1,.cons r t=>.cons r (Vals.take n t)
theorem Vals.drop:∀ {xs:List V} {us:List Value} (n:Nat),Vals xs us→Vals (xs.drop n) (us.drop n)
  | _,_,0,r=>r
  | _,_,_ + 1,.nil=>.nil
  | _,_,n + 1,.cons _ t=>Vals.drop n t
def RelO:Option V→Option Value→Prop
  | some v,some u=>RelV v u
  | none,none=>True
  | _,_=>False
def KV {κ:Type}:List (κ × V)→List (κ × Value)→Prop:=Paired fun (p:κ × V) (q:κ × Value)=>p.1 = q.1∧RelV p.2 q.2
noncomputable def kV:Key→V
  | .inl i=>.int i
  | .inr x=>.str x
inductive HO where
  | lst (xs:List V)
  | tup (xs:List V)
  | dK (kvs:List (Key × V)) | dT (kvs:List (List Key × V))
  | set (S:Int→Bool) (n:Nat)
  | ins (C dx:Addr) (fs:List (Str × V))
  | own (x:Addr)
  | xd (fs:List (Str × V))
  | met (f x:Addr)
  | rng (lo hi:Int)
  | frz (o:Obj) (u:HO)
  | tbl (ps:Array Value)
  | ext (φ:Heap→Prop)
abbrev Hp:=Addr→Option HO
noncomputable def upd (H:Hp) (a:Addr) (o:HO):Hp:=fun b=>if b = a then some o else H b
theorem zAP {H:Hp} {a:Addr} {o:HO}:upd H a o a = some o:=by unfold upd; rw [if_pos rfl]
theorem zAO {H:Hp} {a b:Addr} {o:HO} (h:b≠a):upd H a o b = H b:=by unfold upd; rw [if_neg h]
theorem zWQ {H:Hp} {a b:Addr} {o u:HO} (h:H a = some o) (h':H b = some u) (d:o≠u):a≠b:=by
  intro e; subst e; rw [h] at h'; exact d (Option.some.inj h')
theorem zAR {H:Hp} {a b:Addr} {o:HO} (h:H a = some o) (h':H b = none):a≠b:=by
  intro e; subst e; rw [h] at h'; cases h'
section
variable (P:Program) (w:World)
def ObjOk (H:Hp) (h:Heap) (a:Addr):HO→Prop
  | .lst xs=>xs.length≤sizeLine∧∃ (its:List Value) (n:Nat),Vals xs its∧h.get? a = some { cls:=.type "list",data:=.seq its.toArray n }
  | .tup xs=>xs.length≤sizeLine∧∃ its:List Value,Vals xs its∧IsTup h a its.toArray
  | .dK kvs=>kvs.length≤sizeLine∧(a == sysModules) = false∧∃ vs,KV kvs vs∧h.DictOf (zM3 P w) a vs
  | .dT kvs=>kvs.length≤sizeLine∧(a == sysModules) = false∧∃ xs:List (List Key × Addr × Value),
      Paired (fun (p:List Key × V) (q:List Key × Addr × Value)=>p.1 = q.1∧H q.2.1 = some (.tup (p.1.map kV))∧RelV p.2 q.2.2) kvs xs ∧
      ∃ o es ep,h.get? a = some o∧o.ExactDict∧o.data = .dict es ep∧es.toList = xs.map (entryOfKey (tupleKind (zM3 P w)))∧(xs.map (·.1)).Nodup
  | .set S n=>h.SetOf (intKind P w) a S n
  | .ins C dx fs=>H dx = some (.own a)∧fs.length≤1000∧dx≠a∧h.get? a = some (PySem.W.instObj C dx) ∧
      ∃ mA,h.Ns1 dx mA∧(∀ f,RelO (fs.lookup f) (mA f))∧PySem.Within mA (fs.map (·.1))
  | .own _=>∃ o,h.get? a = some o
  | .xd fs=>∃ mA,h.Ns1 a mA∧∀ f,RelO (fs.lookup f) (mA f)
  | .rng lo hi=>∃ t u v,h.get? a = some { cls:=.type "range",data:=.fields #[.int lo t,.int hi u,.int 1 v] }
  | .frz o u=>h.get? a = some o∧ObjOk H h a u
  | .tbl ps=>h.get? a = some { cls:=.none,data:=.fields ps }
  | .met f x=>h.get? a = some (PySem.W.methodObj (.ref f) (.ref x))
  | .ext φ=>φ h∧(∃ o,h.get? a = some o)∧∀ h1 h2:Heap,φ h1→(∀ o,h1.get? a = some o→h2.get? a = some o)→φ h2
def HOk (H:Hp) (h:Heap):Prop:=∀ a o,H a = some o→ObjOk P w H h a o
end
section
variable {P:Program} {w:World} {H H':Hp} {h h':Heap} {a:Addr} {o:HO}
theorem ObjOk.lt (x:ObjOk P w H h a o):a < h.objs.size:=by
  cases o with
  | lst xs=>obtain ⟨_,_,_,_,e⟩:=x; exact Heap.lt_size e
  | tup xs=>obtain ⟨_,_,_,p⟩:=x; exact p.lt
  | dK kvs=>obtain ⟨_,_,_,_,o,_,_,e,_⟩:=x; exact Heap.lt_size e
  | dT kvs=>obtain ⟨_,_,_,_,o,_,_,e,_⟩:=x; exact Heap.lt_size e
  | set S n=>obtain ⟨o,_,_,_,e,_⟩:=x; exact Heap.lt_size e
  | ins C dx fs=>obtain ⟨_,_,_,e,_⟩:=x; exact Heap.lt_size e
  | own y=>obtain ⟨_,e⟩:=x; exact Heap.lt_size e
  | xd fs=>obtain ⟨_,⟨_,_,_,e,_⟩,_⟩:=x; exact Heap.lt_size e
  | rng lo hi=>obtain ⟨_,_,_,e⟩:=x; exact Heap.lt_size e
  | frz ob u=>obtain ⟨e,_⟩:=x; exact Heap.lt_size e
  | tbl ps=>exact Heap.lt_size (show h.get? a = some _ from x)
  | met f y=>exact Heap.lt_size (show h.get? a = some _ from x)
  | ext φ=>obtain ⟨_,⟨_,e⟩,_⟩:=x; exact Heap.lt_size e
theorem Paired.mapP {α β:Type} {F G:α→β→Prop}:∀ {l₁:List α} {l₂:List β},Paired F l₁ l₂→(∀ a b,F a b→G a b)→Paired G l₁ l₂
  | _,_,.nil,_=>.nil
  | _,_,.cons r t,f=>.cons (f _ _ r) (Paired.mapP t f)
theorem ObjOk.stay (x:ObjOk P w H h a o) (k:∀ b u,(b = a∨H b = some (.own a))→h.get? b = some u→h'.get? b = some u)
    (ho:∀ b,H b = some (.own a)→H' b = some (.own a)) (ht:∀ b xs,H b = some (.tup xs)→H' b = some (.tup xs)):ObjOk P w H' h' a o:=by
  induction o with
  | lst xs=>obtain ⟨z,its,n,r,e⟩:=x; exact ⟨z,its,n,r,k _ _ (.inl rfl) e⟩
  | tup xs=>obtain ⟨z,its,r,ob,e,c⟩:=x; exact ⟨z,its,r,ob,k _ _ (.inl rfl) e,c⟩
  | dK kvs=>obtain ⟨z,y,vs,r,ob,es,ep,e,c⟩:=x; exact ⟨z,y,vs,r,ob,es,ep,k _ _ (.inl rfl) e,c⟩
  | dT kvs =>
    obtain ⟨z,y,xs,r,ob,es,ep,e,c⟩:=x
    exact ⟨z,y,xs,Paired.mapP r fun p q z=>⟨z.1,ht _ _ z.2.1,z.2.2⟩,ob,es,ep,k _ _ (.inl rfl) e,c⟩
  | set S n=>obtain ⟨ob,es,ep,t,e,c⟩:=x; exact ⟨ob,es,ep,t,k _ _ (.inl rfl) e,c⟩
  | ins C dx fs =>
    obtain ⟨d,z,ne,e,mA,⟨od,es,ep,e2,c⟩,r⟩:=x
    exact ⟨ho _ d,z,ne,k _ _ (.inl rfl) e,mA,⟨od,es,ep,k _ _ (.inr d) e2,c⟩,r⟩
  | own y=>obtain ⟨ob,e⟩:=x; exact ⟨ob,k _ _ (.inl rfl) e⟩
  | xd fs=>obtain ⟨mA,⟨od,es,ep,e,c⟩,r⟩:=x; exact ⟨mA,⟨od,es,ep,k _ _ (.inl rfl) e,c⟩,r⟩
  | rng lo hi=>obtain ⟨t,u,v,e⟩:=x; exact ⟨t,u,v,k _ _ (.inl rfl) e⟩
  | frz ob u ih=>obtain ⟨e,q⟩:=x; exact ⟨k _ _ (.inl rfl) e,ih q⟩
  | tbl ps =>
    have e:h.get? a = some { cls:=.none,data:=.fields ps }:=x
    show h'.get? a = some { cls:=.none,data:=.fields ps }
    exact k a _ (.inl rfl) e
  | met f y =>
    have e:h.get? a = some (PySem.W.methodObj (.ref f) (.ref y)):=x
    show h'.get? a = some (PySem.W.methodObj (.ref f) (.ref y))
    exact k a _ (.inl rfl) e
  | ext φ=>obtain ⟨p,⟨o,e⟩,st⟩:=x; exact ⟨st _ _ p fun o q=>k _ _ (.inl rfl) q,⟨o,k _ _ (.inl rfl) e⟩,st⟩
theorem HOk.lt (x:HOk P w H h) (e:H a = some o):a < h.objs.size:=(x a o e).lt
theorem HOk.fresh (x:HOk P w H h) (e:h.objs.size≤a):H a = none:=by
  cases q:H a with
  | none=>rfl
  | some u=>exact absurd (Nat.lt_of_lt_of_le (x.lt q) e) (Nat.lt_irrefl _)
theorem HOk.kept (x:HOk P w H h) (k:∀ b u,h.get? b = some u→h'.get? b = some u):HOk P w H h':=fun a o e =>
  (x a o e).stay (fun b u _ q=>k b u q) (fun _ q=>q) fun _ _ q=>q
theorem HOk.laid (x:HOk P w H h) (k:∀ b u,h.get? b = some u→h'.get? b = some u) (hp:h.objs.size≤a) (new:ObjOk P w (upd H a o) h' a o):HOk P w (upd H a o) h':=fun b u e=>by
  have hn:=x.fresh hp
  by_cases hb:b = a
  · subst hb; rw [zAP] at e; cases e; exact new
  · rw [zAO hb] at e
    exact (x b u e).stay (fun c v _ q=>k c v q) (fun c q=>by rw [zAO (zAR q hn)]; exact q) fun c xs q=>by rw [zAO (zAR q hn)]; exact q
end
def Rd (H:Hp) (a:Addr) (u:HO):Prop:=H a = some u∨∃ o,H a = some (.frz o u)
theorem Rd.ok {P:Program} {w:World} {H:Hp} {h:Heap} {a:Addr} {u:HO} (r:Rd H a u) (x:HOk P w H h):ObjOk P w H h a u:=by
  rcases r with r | ⟨o,r⟩
  · exact x a u r
  · obtain ⟨_,q⟩:=x a _ r
    exact q
noncomputable def Mut:Option HO→Prop
  | some (.lst _)=>True
  | some (.dK _)=>True
  | some (.dT _)=>True
  | some (.set _ _)=>True
  | some (.ins _ _ _)=>True
  | some (.ext _)=>True
  | _=>False
section
variable {P:Program} {w:World} {H:Hp} {h h':Heap} {x e:Addr} {o':HO}
theorem HOk.write (ok:HOk P w H h) (mu:Mut (H x)) (he:e = x∨H e = some (.own x)) (k:∀ b u,b≠e→h.get? b = some u→h'.get? b = some u) (heo:∃ u,h'.get? e = some u)
    (new:ObjOk P w (upd H x o') h' x o'):HOk P w (upd H x o') h':=fun b u q=>by
  have nown:∀ c y,H c = some (.own y)→c≠x:=fun c y r z=>by subst z; rw [r] at mu; exact mu
  have ntup:∀ c xs,H c = some (.tup xs)→c≠x:=fun c xs r z=>by subst z; rw [r] at mu; exact mu
  by_cases hb:b = x
  · subst hb; rw [zAP] at q; cases q; exact new
  · rw [zAO hb] at q
    by_cases hbe:b = e
    · have q':H b = some (.own x):=by
        rcases he with z | z
        · exact absurd (hbe.trans z) hb
        · rw [hbe]; exact z
      rw [q] at q'; cases q'
      obtain ⟨v,hv⟩:=heo
      exact ⟨v,by rw [hbe]; exact hv⟩
    · refine (ok b u q).stay (fun c v hc r=>k c v ?_ r) (fun c r=>by rw [zAO (nown c b r)]; exact r) fun c xs r=>by rw [zAO (ntup c xs r)]; exact r
      rcases hc with rfl | hc
      · exact hbe
      · rintro rfl
        rcases he with z | z
        · exact nown c b hc z
        · rw [hc] at z; cases z; exact hb rfl
end
structure Un (fs ex:List Addr) (H H':Hp) (h h':Heap):Prop where
  keep:∀ b o,h.get? b = some o→H b = none→b ∉ fs→b ∉ ex→h'.get? b = some o
  slot:∀ b o,h.get? b = some o→H b = none→b∈fs→b ∉ ex→∃ sl,h'.get? b = some { o with slots:=sl }
  free:∀ b o,h.get? b = some o→H b = none→b ∉ ex→H' b = none
  there:∀ b o,h.get? b = some o→b ∉ ex→∃ o',h'.get? b = some o'
  tups:∀ b xs,H b = some (.tup xs)→H' b = some (.tup xs)
  frzs:∀ b o u,H b = some (.frz o u)→H' b = some (.frz o u)
  tbls:∀ b ps,H b = some (.tbl ps)→∃ more,H' b = some (.tbl (ps ++ more))
section
variable {fs fs' ex ex':List Addr} {H H1 H2:Hp} {h h1 h2 h':Heap} {a x e:Addr} {o:HO}
theorem Un.any (u:Un fs ex H H1 h h1) {b:Addr} {ob:Obj} (q:h.get? b = some ob) (n:H b = none) (hx:b ∉ ex):∃ sl,h1.get? b = some { ob with slots:=sl }:=by
  by_cases hb:b∈fs
  · exact u.slot b ob q n hb hx
  · exact ⟨ob.slots,u.keep b ob q n hb hx⟩
theorem Un.kept (k:∀ b u,h.get? b = some u→h'.get? b = some u):Un fs ex H H h h' :=
  ⟨fun b ob q _ _ _=>k b ob q,fun b ob q _ _ _=>⟨ob.slots,k b ob q⟩,fun _ _ _ n _=>n,fun b ob q _=>⟨ob,k b ob q⟩,fun _ _ q=>q,fun _ _ _ q=>q,fun _ ps q=>⟨#[],by rw [q]; simp⟩⟩
theorem Un.refl:Un fs ex H H h h:=Un.kept fun _ _ q=>q
theorem Un.laid (k:∀ b u,h.get? b = some u→h'.get? b = some u) (hp:h.objs.size≤a) (hn:H a = none):Un fs ex H (upd H a o) h h' where
  keep:=fun b u q _ _ _=>k b u q
  slot:=fun b u q _ _ _=>⟨u.slots,k b u q⟩
  free:=fun b u q n _=>by rw [zAO (Nat.ne_of_lt (Nat.lt_of_lt_of_le (Heap.lt_size q) hp))]; exact n
  there:=fun b u q _=>⟨u,k b u q⟩
  tups:=fun b xs q=>by rw [zAO (zAR q hn)]; exact q
  frzs:=fun b u xs q=>by rw [zAO (zAR q hn)]; exact q
  tbls:=fun b ps q=>⟨#[],by rw [zAO (zAR q hn),q]; simp⟩
theorem Un.write (mu:Mut (H x)) (he:e = x∨H e = some (.own x)) (k:∀ b u,b≠e→h.get? b = some u→h'.get? b = some u) (heo:∃ u,h'.get? e = some u):Un fs ex H (upd H x o) h h':=by
  have hx:∀ b,H b = none→b≠x:=fun b n z=>by subst z; rw [n] at mu; exact mu
  have hb:∀ b,H b = none→b≠e:=fun b n z=>by
    subst z
    rcases he with r | r
    · exact hx b n r
    · rw [n] at r; cases r
  have hm:∀ b u,H b = some u→¬ Mut (some u)→b≠x:=fun b u q nm z=>by subst z; rw [q] at mu; exact nm mu
  refine ⟨fun b u q n _ _=>k b u (hb b n) q,fun b u q n _ _=>⟨u.slots,k b u (hb b n) q⟩,fun b u q n _=>by rw [zAO (hx b n)]; exact n,fun b u q _=>?_,
    fun b xs q=>by rw [zAO (hm b _ q fun z=>z)]; exact q,fun b u xs q=>by rw [zAO (hm b _ q fun z=>z)]; exact q,fun b ps q=>⟨#[],by rw [zAO (hm b _ q fun z=>z),q]; simp⟩⟩
  by_cases hbe:b = e
  · subst hbe; exact heo
  · exact ⟨u,k b u hbe q⟩
end
noncomputable def trk (h:Heap) (H:Hp):List Addr:=(List.range h.objs.size).filter fun a=>(H a).isSome
def hidT (h:Heap) (H:Hp):Heap:=PySem.W.hideAll h (trk h H)
theorem zPZ (h:Heap) (H:Hp):(hidT h H).objs.size = h.objs.size:=PySem.W.hideAll_size _ _
theorem zRZ {h:Heap} {H:Hp} {b:Addr} {o:Obj} (e:h.get? b = some o) (n:H b = none):(hidT h H).get? b = some o :=
  PySem.W.hideAll_get _ e fun hm=>by
    have q:(H b).isSome = true:=(List.mem_filter.mp hm).2
    rw [n] at q; simp at q
theorem zUF {h:Heap} {H:Hp} {b:Addr} {o:Obj} (e:(hidT h H).get? b = some o):h.get? b = some o∧H b = none:=by
  have e':h.get? b = some o:=PySem.W.of_hideAll (trk h H) e
  refine ⟨e',?_⟩
  cases q:H b with
  | none=>rfl
  | some x =>
    have hm:b∈trk h H:=List.mem_filter.mpr ⟨List.mem_range.mpr (Heap.lt_size e'),by simp [q]⟩
    have z:(hidT h H).get? b = none:=PySem.W.hideAll_none (trk h H) hm
    rw [z] at e; cases e
noncomputable def zV8 (g h:Heap) (L:Addr):List (Addr × Obj):=(List.range h.objs.size).filterMap fun a=>if a = L∨(g.get? a).isSome = true then none else (h.get? a).map fun o=>(a,o)
def rest (g h:Heap) (L d:Addr):List (Addr × Obj):=(zV8 g h L).filter fun p=>decide (p.1≠d)
end L2
namespace L2
open PySem PySem.Spec PyProof.Rows
structure Mod (K:PySem.W.Frag) (mg:Str→Option Value) (base:Heap):Prop where
  kin:K.In base
  glob:base.Ns mainGlobals mg
  blt:∃ mb,base.Ns builtinsNs mb∧∀ x:Str,x≠"__name__"→mb x = bootBuiltins x
  nolimit:base.NoLimit
structure Cx where
  prog:Program
  w:World
  K:PySem.W.Frag
  mg:Str→Option Value
  base:Heap
  A:Around
  N:List Str
  s₀:Shared
  H₀:Hp
  env:Env
  outer:List Env
  stack:List Env
  ex:List Addr
  fn:Str→Bool
  calm:Bool
  pn:List (Addr × Obj)
  xe:Value→Shared→Prop
noncomputable def frs (l:List Env):List Addr:=l.filterMap (·.frame)
abbrev Cx.fs (X:Cx):List Addr:=frs X.outer
def Vis (sc:Scope) (x:Str):Prop:=sc.names.lookup x = some .local∨sc.names.lookup x = some .cell∨sc.names.lookup x = some .free
def Loc (sc:Scope) (x:Str):Prop:=sc.names.lookup x = some .local∨sc.names.lookup x = some .cell
def Look (env:Env) (h:Heap) (m:Str→Option Value) (x:Str) (u:Value):Prop :=
  (env.kindOf x = some .local∧m x = some u)∨((env.kindOf x = some .cell∨env.kindOf x = some .free)∧∃ c,env.cells.lookup x = some c∧h.IsCell c (some u))
structure Cx.Ok (X:Cx):Prop where
  mod:Mod X.K X.mg X.base
  kind:X.env.scope.kind = .function
  glob:X.env.globals = mainGlobals
  blt:X.env.builtins = builtinsNs
  above:X.s₀.heap.objs.size≤X.env.locals
  inj:∀ x y c,X.env.cells.lookup x = some c→X.env.cells.lookup y = some c→x = y
  has:∀ x,(X.env.kindOf x = some .cell∨X.env.kindOf x = some .free)→∃ c,X.env.cells.lookup x = some c
  cab:∀ x c,X.fn x = true→X.env.cells.lookup x = some c→X.s₀.heap.objs.size≤c
  hd:X.calm = true→X.A.handled = none
  frames:X.A.frames = some X.stack
  stk:X.stack = X.outer∨(X.stack = X.env :: X.outer∧X.env.frame = some X.env.locals)
  exf:∀ b∈X.ex,b≠X.env.locals∧∀ x c,X.env.cells.lookup x = some c→c≠b
  bs:∀ b o,X.base.get? b = some o→X.s₀.heap.get? b = some o∧X.H₀ b = none
  bsz:X.base.objs.size≤X.s₀.heap.objs.size
  noex:∀ b o,X.base.get? b = some o→b ∉ X.ex
  exfs:∀ b∈X.ex,b ∉ X.fs
  funs:X.s₀.heap.FunFrames X.base X.outer
  frf:∀ b∈X.fs,X.H₀ b = none
structure Inv (X:Cx) (pins:List (Addr × Obj)) (σ:List (Option V)) (H:Hp) (s:Shared):Prop where
  ok:X.Ok
  os:s.os = X.s₀.os
  bare:AllBare s.gens
  base:Un X.fs X.ex X.H₀ H X.s₀.heap s.heap
  loc:∃ m,s.heap.Ns X.env.locals m∧∀ (i:Nat) (x:Str) (v:V),X.N[i]? = some x→σ[i]? = some (some v)→Vis X.env.scope x→∃ u,RelV v u∧Look X.env s.heap m x u
  cell:∀ x c,X.env.cells.lookup x = some c→∃ v,s.heap.IsCell c v
  free:H X.env.locals = none
  freeC:∀ x c,X.env.cells.lookup x = some c→H c = none
  pin:∀ p∈X.pn ++ pins,s.heap.get? p.1 = some p.2∧H p.1 = none∧p.1≠X.env.locals∧p.1 ∉ X.fs∧∀ v,p.2.data≠.cell v
  hok:HOk X.prog X.w H s.heap
  len:σ.length = X.N.length
section
variable {X:Cx} {pins:List (Addr × Obj)} {σ:List (Option V)} {H H':Hp} {s:Shared} {h':Heap}
theorem Cx.Ok.nofr (ok:X.Ok) {b:Addr} {o:Obj} (e:X.base.get? b = some o):b ∉ X.fs:=fun hb=>by
  have:=(ok.funs.mem hb).1
  rw [e] at this; cases this
theorem Inv.bs (I:Inv X pins σ H s):∀ b o,X.base.get? b = some o→s.heap.get? b = some o∧H b = none:=fun b o e =>
  ⟨I.base.keep b o (I.ok.bs b o e).1 (I.ok.bs b o e).2 (I.ok.nofr e) (I.ok.noex b o e),I.base.free b o (I.ok.bs b o e).1 (I.ok.bs b o e).2 (I.ok.noex b o e)⟩
theorem Inv.bk (I:Inv X pins σ H s):∀ b o,X.base.get? b = some o→s.heap.get? b = some o:=fun b o e=>(I.bs b o e).1
theorem Inv.mod (I:Inv X pins σ H s):Mod X.K X.mg X.base:=I.ok.mod
theorem Inv.kIn (I:Inv X pins σ H s):X.K.In s.heap:=I.ok.mod.kin.keeps I.bk
theorem Inv.fr (I:Inv X pins σ H s):∃ m,Fr X.base X.env.locals s.heap m :=
  let ⟨m,hn,_⟩:=I.loc
  ⟨m,hn,I.bk,Nat.le_trans I.ok.bsz I.ok.above⟩
theorem Inv.lt (I:Inv X pins σ H s):X.env.locals < s.heap.objs.size:=let ⟨_,hn,_⟩:=I.loc; hn.lt
theorem Inv.sz (I:Inv X pins σ H s):X.s₀.heap.objs.size≤s.heap.objs.size:=Nat.le_trans I.ok.above (Nat.le_of_lt I.lt)
theorem Inv.nofs (I:Inv X pins σ H s) {a:Addr} (h:s.heap.objs.size≤a):a ∉ X.fs:=fun hb=>by
  obtain ⟨_,o,ho,_⟩:=I.ok.funs.mem hb
  exact absurd (Nat.lt_of_lt_of_le (Heap.lt_size ho) (Nat.le_trans I.sz h)) (Nat.lt_irrefl _)
theorem Inv.cne (I:Inv X pins σ H s):∀ x c,X.env.cells.lookup x = some c→c≠X.env.locals:=fun x c e z=>by
  obtain ⟨v,o,ho,hd⟩:=I.cell x c e
  obtain ⟨m,⟨o',es,ep,ho',hd',_⟩,_⟩:=I.loc
  rw [z,ho'] at ho; cases ho; rw [hd'] at hd; cases hd
theorem Inv.funs (I:Inv X pins σ H s):s.heap.FunFrames X.base X.outer:=by
  have all:∀ (l:List Env),(∀ b∈frs l,b∈X.fs)→X.s₀.heap.FunFrames X.base l→s.heap.FunFrames X.base l:=by
    intro l
    induction l with
    | nil=>intro _ _; trivial
    | cons env r ih =>
      intro hs hl
      obtain ⟨hk,⟨L,o,hf,hn,ho,hd⟩,hr⟩:=hl
      have hL:L∈X.fs:=hs L (by unfold frs; rw [List.filterMap_cons,hf]; exact List.mem_cons_self)
      obtain ⟨sl,e⟩:=I.base.slot L o ho (I.ok.frf L hL) hL fun z=>I.ok.exfs L z hL
      exact ⟨hk,⟨L,_,hf,hn,e,hd⟩,ih (fun b hb=>hs b (by unfold frs; rw [List.filterMap_cons,hf]; exact List.mem_cons_of_mem _ hb)) hr⟩
  exact all X.outer (fun _ hb=>hb) I.ok.funs
theorem Inv.stack (I:Inv X pins σ H s):s.heap.FunFrames X.base X.stack:=by
  rcases I.ok.stk with e | ⟨e,hf⟩
  · rw [e]; exact I.funs
  · rw [e]
    obtain ⟨m,hn,_⟩:=I.loc
    refine .cons (by rw [I.ok.kind]; decide) hf hn ?_ I.funs
    exact Heap.get?_none_of_le (Nat.le_trans I.ok.bsz I.ok.above)
theorem Inv.stkSub (I:Inv X pins σ H s):∀ b∈frs X.stack,b∈X.env.locals :: X.fs:=fun b hb=>by
  rcases I.ok.stk with e | ⟨e,hf⟩
  · rw [e] at hb; exact List.mem_cons_of_mem _ hb
  · rw [e] at hb
    unfold frs at hb
    rw [List.filterMap_cons,hf] at hb
    exact hb
theorem Inv.stkFree (I:Inv X pins σ H s):∀ b∈frs X.stack,H b = none:=fun b hb=>by
  rcases List.mem_cons.mp (I.stkSub b hb) with e | hb
  · rw [e]; exact I.free
  · obtain ⟨_,o,ho,_⟩:=I.ok.funs.mem hb
    exact I.base.free b o ho (I.ok.frf b hb) fun z=>I.ok.exfs b z hb
theorem Inv.step {g':Array GenState} {t':Nat} {d':Drawn} {ch:List Addr} (I:Inv X pins σ H s)
    (hch:∀ b∈ch,(b∈X.ex∨X.s₀.heap.objs.size≤b)∧b≠X.env.locals∧(∀ x c,X.env.cells.lookup x = some c→c≠b)∧∀ p∈X.pn ++ pins,p.1≠b)
    (keep:∀ b o,b≠X.env.locals→b ∉ X.fs→b ∉ ch→s.heap.get? b = some o→H b = none→h'.get? b = some o)
    (slot:∀ b o,b≠X.env.locals→b∈X.fs→b ∉ ch→s.heap.get? b = some o→H b = none→∃ sl,h'.get? b = some { o with slots:=sl }) (free:∀ b o,b ∉ ch→s.heap.get? b = some o→H b = none→H' b = none)
    (there:∀ b o,b ∉ ch→s.heap.get? b = some o→∃ o',h'.get? b = some o')
    (tups:∀ b xs,H b = some (.tup xs)→H' b = some (.tup xs)) (frzs:∀ b o u,H b = some (.frz o u)→H' b = some (.frz o u)) (tbls:∀ b ps,H b = some (.tbl ps)→∃ more,H' b = some (.tbl (ps ++ more)))
    (ns:∀ m,s.heap.Ns X.env.locals m→h'.Ns X.env.locals m) (hok:HOk X.prog X.w H' h') (hg:AllBare g') :
    Inv X pins σ H' { s with heap:=h',gens:=g',drawn:=d',toks:=t' }:=by
  have neL:∀ b o,X.s₀.heap.get? b = some o→b≠X.env.locals:=fun b o e=>Nat.ne_of_lt (Nat.lt_of_lt_of_le (Heap.lt_size e) I.ok.above)
  have neC:∀ b o,X.s₀.heap.get? b = some o→b ∉ X.ex→b ∉ ch:=fun b o e hx hb=>by
    rcases (hch b hb).1 with z | z
    · exact hx z
    · exact absurd (Nat.lt_of_lt_of_le (Heap.lt_size e) z) (Nat.lt_irrefl _)
  have cellK:∀ x c,X.env.cells.lookup x = some c→∀ v,s.heap.IsCell c v→h'.IsCell c v:=fun x c e v ⟨o,ho,hd⟩=>by
    have nch:c ∉ ch:=fun z=>(hch c z).2.2.1 x c e rfl
    by_cases hc:c∈X.fs
    · obtain ⟨sl,q⟩:=slot c o (I.cne x c e) hc nch ho (I.freeC x c e)
      exact ⟨_,q,hd⟩
    · exact ⟨o,keep c o (I.cne x c e) hc nch ho (I.freeC x c e),hd⟩
  refine ⟨I.ok,I.os,hg,⟨fun b o e n hb hx=>?_,fun b o e n hb hx=>?_,fun b o e n hx=>?_,fun b o e hx=>?_,fun b xs e=>tups b xs (I.base.tups b xs e),fun b o xs e=>frzs b o xs (I.base.frzs b o xs e),fun b ps e=>?_⟩,?_,fun x c e=>?_,?_,fun x c e=>?_,fun p hp=>?_,hok,I.len⟩
  · exact keep b o (neL b o e) hb (neC b o e hx) (I.base.keep b o e n hb hx) (I.base.free b o e n hx)
  · obtain ⟨sl,e1⟩:=I.base.slot b o e n hb hx
    obtain ⟨sl',e2⟩:=slot b _ (neL b o e) hb (neC b o e hx) e1 (I.base.free b o e n hx)
    exact ⟨sl',e2⟩
  · obtain ⟨o',e1⟩:=I.base.there b o e hx
    exact free b o' (neC b o e hx) e1 (I.base.free b o e n hx)
  · obtain ⟨o',e1⟩:=I.base.there b o e hx
    exact there b o' (neC b o e hx) e1
  · obtain ⟨m1,e1⟩:=I.base.tbls b ps e
    obtain ⟨m2,e2⟩:=tbls b _ e1
    exact ⟨m1 ++ m2,by rw [e2,Array.append_assoc]⟩
  · obtain ⟨m,hn,hl⟩:=I.loc
    refine ⟨m,ns m hn,fun i x v e1 e2 e3=>?_⟩
    obtain ⟨u,r,l⟩:=hl i x v e1 e2 e3
    refine ⟨u,r,?_⟩
    rcases l with l | ⟨k,c,e,z⟩
    · exact .inl l
    · exact .inr ⟨k,c,e,cellK x c e _ z⟩
  · obtain ⟨v,z⟩:=I.cell x c e
    exact ⟨v,cellK x c e v z⟩
  · obtain ⟨m,⟨o,_,_,ho,_⟩,_⟩:=I.loc
    exact free _ o (fun z=>(hch _ z).2.1 rfl) ho I.free
  · obtain ⟨v,o,ho,hd⟩:=I.cell x c e
    exact free c o (fun z=>(hch c z).2.2.1 x c e rfl) ho (I.freeC x c e)
  · obtain ⟨e,n,ne,nf,d⟩:=I.pin p hp
    have nch:p.1 ∉ ch:=fun z=>(hch p.1 z).2.2.2 p hp rfl
    exact ⟨keep p.1 p.2 ne nf nch e n,free p.1 p.2 nch e n,ne,nf,d⟩
theorem Inv.un {t':Nat} (I:Inv X pins σ H s) (u:Un X.fs [] H H' s.heap h') (hok:HOk X.prog X.w H' h'):Inv X pins σ H' { s with heap:=h',toks:=t' }:=by
  obtain ⟨m,⟨o,es,ep,ho,r⟩,_⟩:=id I.loc
  obtain ⟨sl,hL⟩:=u.any ho I.free (by simp)
  exact I.step (g':=s.gens) (d':=s.drawn) (ch:=[]) (fun _ z=>nomatch z) (fun b o _ hb _ e n=>u.keep b o e n hb (by simp)) (fun b o _ hb _ e n=>u.slot b o e n hb (by simp)) (fun b o _ e n=>u.free b o e n (by simp)) (fun b o _ e=>u.there b o e (by simp)) u.tups u.frzs u.tbls (fun m' hm=>by
    obtain ⟨o',es',ep',ho',r'⟩:=hm
    rw [ho] at ho'; cases ho'
    exact ⟨_,es',ep',hL,r'⟩) hok I.bare
theorem Inv.call {g':Array GenState} {t':Nat} {d':Drawn} {ch:List Addr} (I:Inv X pins σ H s) (u:Un (frs X.stack) ch H H' s.heap h') (hok:HOk X.prog X.w H' h') (hg:AllBare g')
    (hch:∀ b∈ch,(b∈X.ex∨X.s₀.heap.objs.size≤b)∧b≠X.env.locals∧(∀ x c,X.env.cells.lookup x = some c→c≠b)∧∀ p∈X.pn ++ pins,p.1≠b) :
    Inv X pins σ H' { s with heap:=h',gens:=g',drawn:=d',toks:=t' }:=by
  obtain ⟨m,⟨o,es,ep,ho,r⟩,_⟩:=id I.loc
  obtain ⟨sl,hL⟩:=u.any ho I.free fun z=>(hch _ z).2.1 rfl
  exact I.step (ch:=ch) hch (fun b o hL hb hc e n=>u.keep b o e n (fun z=>(List.mem_cons.mp (I.stkSub b z)).elim hL hb) hc) (fun b o _ _ hc e n=>u.any e n hc) (fun b o hc e n=>u.free b o e n hc) (fun b o hc e=>u.there b o e hc) u.tups u.frzs u.tbls (fun m' hm=>by
    obtain ⟨o',es',ep',ho',r'⟩:=hm
    rw [ho] at ho'; cases ho'
    exact ⟨_,es',ep',hL,r'⟩) hok hg
theorem Inv.turned {t':Nat} {it:Addr} (I:Inv X pins σ H s) (k:∀ b o,b≠it→s.heap.get? b = some o→h'.get? b = some o) (hn:H it = none) (hL:it≠X.env.locals)
    (h1:it∈X.ex∨X.s₀.heap.objs.size≤it) (h2:∀ x c,X.env.cells.lookup x = some c→c≠it) (h3:∀ p∈X.pn ++ pins,p.1≠it):Inv X pins σ H { s with heap:=h',toks:=t' }:=by
  have nit:∀ b u,H b = some u→b≠it:=fun b u e z=>by rw [z,hn] at e; cases e
  refine I.step (g':=s.gens) (d':=s.drawn) (ch:=[it]) (fun b hb=>?_) (fun b o _ _ hc e _=>k b o (fun z=>hc (by simp [z])) e) (fun b o _ _ hc e _=>⟨o.slots,k b o (fun z=>hc (by simp [z])) e⟩) (fun _ _ _ _ n=>n)
    (fun b o hc e=>⟨o,k b o (fun z=>hc (by simp [z])) e⟩) (fun _ _ e=>e) (fun _ _ _ e=>e) (fun b ps e=>⟨#[],by rw [e]; simp⟩) (fun m hm=>?_) (fun b u e=>?_) I.bare
  · have e:b = it:=by simpa using hb
    subst e
    exact ⟨h1,hL,h2,h3⟩
  · obtain ⟨o,es,ep,ho,r⟩:=hm
    exact ⟨o,es,ep,k _ o (Ne.symm hL) ho,r⟩
  · refine (I.hok b u e).stay (fun c v hc q=>k c v ?_ q) (fun _ q=>q) fun _ _ q=>q
    rcases hc with z | z
    · rw [z]; exact nit b u e
    · exact nit c _ z
theorem Inv.tok (I:Inv X pins σ H s) (t:Nat):Inv X pins σ H { s with toks:=t }:=I.un (h':=s.heap) (t':=t) Un.refl I.hok
theorem Inv.kept {t':Nat} (I:Inv X pins σ H s) (k:∀ b u,s.heap.get? b = some u→h'.get? b = some u):Inv X pins σ H { s with heap:=h',toks:=t' }:=I.un (Un.kept k) (I.hok.kept k)
theorem Inv.laid {a:Addr} {o:HO} {t':Nat} (I:Inv X pins σ H s) (k:∀ b u,s.heap.get? b = some u→h'.get? b = some u) (hp:s.heap.objs.size≤a) (new:ObjOk X.prog X.w (upd H a o) h' a o) :
    Inv X pins σ (upd H a o) { s with heap:=h',toks:=t' }:=I.un (Un.laid k hp (I.hok.fresh hp)) (I.hok.laid k hp new)
theorem Inv.write {x e:Addr} {o:HO} {t':Nat} (I:Inv X pins σ H s) (mu:Mut (H x)) (he:e = x∨H e = some (.own x)) (k:∀ b u,b≠e→s.heap.get? b = some u→h'.get? b = some u) (heo:∃ u,h'.get? e = some u)
    (new:ObjOk X.prog X.w (upd H x o) h' x o):Inv X pins σ (upd H x o) { s with heap:=h',toks:=t' }:=I.un (Un.write mu he k heo) (I.hok.write mu he k heo new)
theorem Inv.weak {σ':List (Option V)} (I:Inv X pins σ H s) (hl:σ'.length = σ.length) (w:∀ (i:Nat) v,σ'[i]? = some (some v)→σ[i]? = some (some v)):Inv X pins σ' H s :=
  ⟨I.ok,I.os,I.bare,I.base,let ⟨m,hn,hl'⟩:=I.loc; ⟨m,hn,fun i x v e1 e2 e3=>hl' i x v e1 (w i v e2) e3⟩,I.cell,I.free,I.freeC,I.pin,I.hok,hl.trans I.len⟩
theorem Inv.pins_of {pins':List (Addr × Obj)} (I:Inv X pins σ H s) (h:∀ p∈pins',s.heap.get? p.1 = some p.2∧H p.1 = none∧p.1≠X.env.locals∧p.1 ∉ X.fs∧∀ v,p.2.data≠.cell v):Inv X pins' σ H s :=
  ⟨I.ok,I.os,I.bare,I.base,I.loc,I.cell,I.free,I.freeC,fun p hp=>(List.mem_append.mp hp).elim (fun z=>I.pin p (List.mem_append_left _ z)) (h p),I.hok,I.len⟩
theorem zJJ {N:List Str} (hN:N.Nodup) {i j:Nat} {x:Str} (a:N[i]? = some x) (b:N[j]? = some x):i = j:=by
  obtain ⟨h1,e1⟩:=List.getElem?_eq_some_iff.mp a
  obtain ⟨h2,e2⟩:=List.getElem?_eq_some_iff.mp b
  exact (List.getElem_inj hN).mp (e1.trans e2.symm)
theorem zK8 {M:Model} {A:Around} {E:Value→Shared→Prop} {i:Nat} {x:Str} {v:V} {u:Value} {Q:Unit→Shared→Prop} (I:Inv X pins σ H s) (hN:X.N.Nodup) (hi:X.N[i]? = some x) (hx:Loc X.env.scope x) (r:RelV v u)
    (h:∀ s',Inv X pins (σ.set i (some v)) H s'→(∃ a,Heap.SameBut a s.heap s'.heap∧(a = X.env.locals∨X.env.cells.lookup x = some a))→Q () s') (hf:X.fn x = true∨X.env.scope.names.lookup x = some .local:=by first | exact .inl rfl | exact .inr rfl | assumption):wpAny M A (storeName X.env x u) Q E s:=by
  obtain ⟨m,hn,hl⟩:=id I.loc
  have hcls:(X.env.scope.kind == .class || (X.env.scope.kind == .module && X.env.locals != X.env.globals)) = false:=by rw [I.ok.kind]; rfl
  have hiσ:i < σ.length:=by rw [I.len]; exact (List.getElem?_eq_some_iff.mp hi).1
  have cne:=I.cne
  have tracked:∀ {a:Addr} {h':Heap},(∃ o,s.heap.get? a = some o∧H a = none)→Heap.SameBut a s.heap h'→HOk X.prog X.w H h':=fun {a h'} ha hs b ob e=>by
    obtain ⟨_,_,hfree⟩:=ha
    refine (I.hok b ob e).stay (fun c w' hc q=>(hs.2 c ?_).trans q) (fun _ q=>q) fun _ _ q=>q
    rintro rfl
    rcases hc with rfl | hc
    · rw [hfree] at e; cases e
    · rw [hfree] at hc; cases hc
  rcases hx with hk | hk
  · refine wpAny_storeName_local hk hn (fun h' hn' hs=>?_) hcls
    obtain ⟨oL,_,_,hoL,_⟩:=id hn
    refine h _ ⟨I.ok,I.os,I.bare,⟨fun b o e n hb hx=>?_,fun b o e n hb hx=>?_,I.base.free,fun b o e hx=>?_,I.base.tups,I.base.frzs,I.base.tbls⟩,⟨_,hn',fun j y v' e1 e2 e3=>?_⟩,fun y c e=>?_,I.free,I.freeC,fun p hp=>?_,tracked ⟨oL,hoL,I.free⟩ hs,by simpa using I.len⟩ ⟨_,hs,.inl rfl⟩
    · exact (hs.2 b (Nat.ne_of_lt (Nat.lt_of_lt_of_le (Heap.lt_size e) I.ok.above))).trans (I.base.keep b o e n hb hx)
    · obtain ⟨sl,e1⟩:=I.base.slot b o e n hb hx
      exact ⟨sl,(hs.2 b (Nat.ne_of_lt (Nat.lt_of_lt_of_le (Heap.lt_size e) I.ok.above))).trans e1⟩
    · obtain ⟨o',e1⟩:=I.base.there b o e hx
      exact ⟨o',(hs.2 b (Nat.ne_of_lt (Nat.lt_of_lt_of_le (Heap.lt_size e) I.ok.above))).trans e1⟩
    · by_cases hj:j = i
      · subst hj
        rw [hi] at e1; cases e1
        rw [List.getElem?_set_self hiσ] at e2
        cases e2
        exact ⟨u,r,.inl ⟨hk,by simp⟩⟩
      · rw [List.getElem?_set_ne (Ne.symm hj)] at e2
        obtain ⟨u',r',q⟩:=hl j y v' e1 e2 e3
        refine ⟨u',r',?_⟩
        rcases q with ⟨k,e⟩ | ⟨k,c,e,z⟩
        · refine .inl ⟨k,?_⟩
          have:y≠x:=fun e=>hj (zJJ hN e1 (e ▸ hi))
          simp [this,e]
        · exact .inr ⟨k,c,e,z.sameBut hs (cne y c e)⟩
    · obtain ⟨w',z⟩:=I.cell y c e
      exact ⟨w',z.sameBut hs (cne y c e)⟩
    · obtain ⟨e,n,ne,nf,d⟩:=I.pin p hp
      exact ⟨(hs.2 p.1 ne).trans e,n,ne,nf,d⟩
  · have hfn:X.fn x = true:=by
      rcases hf with z | z
      · exact z
      · rw [z] at hk; cases hk
    obtain ⟨c,hc⟩:=I.ok.has x (.inl hk)
    obtain ⟨w',z⟩:=I.cell x c hc
    refine wpAny_storeName_cell I.ok.kind hk hc z (fun h' hc' hs=>?_)
    obtain ⟨oc,hoc,hocd⟩:=id z
    refine h { s with heap:=h' } ⟨I.ok,I.os,I.bare,⟨fun b o e n hb hx=>?_,fun b o e n hb hx=>?_,I.base.free,fun b o e hx=>?_,I.base.tups,I.base.frzs,I.base.tbls⟩,⟨m,hn.sameBut hs (Ne.symm (cne x c hc)),fun j y v' e1 e2 e3=>?_⟩,fun y c' e=>?_,I.free,I.freeC,fun p hp=>?_,tracked ⟨oc,hoc,I.freeC x c hc⟩ hs,by simpa using I.len⟩ ⟨c,hs,.inr hc⟩
    · exact (hs.2 b (Nat.ne_of_lt (Nat.lt_of_lt_of_le (Heap.lt_size e) (I.ok.cab x c hfn hc)))).trans (I.base.keep b o e n hb hx)
    · obtain ⟨sl,e1⟩:=I.base.slot b o e n hb hx
      exact ⟨sl,(hs.2 b (Nat.ne_of_lt (Nat.lt_of_lt_of_le (Heap.lt_size e) (I.ok.cab x c hfn hc)))).trans e1⟩
    · obtain ⟨o',e1⟩:=I.base.there b o e hx
      exact ⟨o',(hs.2 b (Nat.ne_of_lt (Nat.lt_of_lt_of_le (Heap.lt_size e) (I.ok.cab x c hfn hc)))).trans e1⟩
    · by_cases hj:j = i
      · subst hj
        rw [hi] at e1; cases e1
        rw [List.getElem?_set_self hiσ] at e2
        cases e2
        exact ⟨u,r,.inr ⟨.inl hk,c,hc,hc'⟩⟩
      · rw [List.getElem?_set_ne (Ne.symm hj)] at e2
        obtain ⟨u',r',q⟩:=hl j y v' e1 e2 e3
        refine ⟨u',r',?_⟩
        rcases q with q | ⟨k,c',e,z'⟩
        · exact .inl q
        · refine .inr ⟨k,c',e,z'.sameBut hs ?_⟩
          rintro rfl
          exact hj (zJJ hN e1 (I.ok.inj _ _ _ e hc ▸ hi))
    · by_cases hcc:c' = c
      · subst hcc; exact ⟨_,hc'⟩
      · obtain ⟨w2,z2⟩:=I.cell y c' e
        exact ⟨w2,z2.sameBut hs hcc⟩
    · obtain ⟨e,n,ne,nf,d⟩:=I.pin p hp
      refine ⟨(hs.2 p.1 ?_).trans e,n,ne,nf,d⟩
      intro q
      rw [q,hoc] at e
      have q':oc = p.2:=Option.some.inj e
      exact d w' (by rw [← q']; exact hocd)
theorem zGR {M:Model} {A:Around} {E:Value→Shared→Prop} {i:Nat} {x:Str} {v:V} {u:Value} {Q:Unit→Shared→Prop} (I:Inv X pins σ H s) (hN:X.N.Nodup) (hi:X.N[i]? = some x) (hx:Loc X.env.scope x) (r:RelV v u)
    (h:∀ s',Inv X pins (σ.set i (some v)) H s'→Q () s') (hf:X.fn x = true∨X.env.scope.names.lookup x = some .local:=by first | exact .inl rfl | exact .inr rfl | assumption):wpAny M A (storeName X.env x u) Q E s :=
  zK8 I hN hi hx r (fun s' I' _=>h s' I') hf
theorem Inv.call' {s':Shared} {ch:List Addr} (I:Inv X pins σ H s) (ho:s'.os = s.os) (u:Un (frs X.stack) ch H H' s.heap s'.heap) (hok:HOk X.prog X.w H' s'.heap) (hg:AllBare s'.gens)
    (hch:∀ b∈ch,(b∈X.ex∨X.s₀.heap.objs.size≤b)∧b≠X.env.locals∧(∀ x c,X.env.cells.lookup x = some c→c≠b)∧∀ p∈X.pn ++ pins,p.1≠b):Inv X pins σ H' s':=by
  obtain ⟨h',g',d',t',o'⟩:=s'
  have e:o' = s.os:=ho
  subst e
  exact I.call (g':=g') (t':=t') (d':=d') u hok hg hch
end
abbrev XK:=Value→Option Addr→Hp→Prop
abbrev St:=List (Option V)
abbrev VK:=V→Hp→Prop
abbrev TE:=St→Hp→VK→Prop
abbrev TT:=St→Hp→(Bool→Hp→Prop)→Prop
abbrev TA:=St→Hp→(List V→Hp→Prop)→Prop
structure Ends where
  nx:St→Hp→Prop
  rt:VK
  bk:St→Hp→Prop:=fun _ _=>False
  ct:St→Hp→Prop:=fun _ _=>False
abbrev TS:=Ends→St→Hp→Prop
def EP (X:Cx) (pins:List (Addr × Obj)) (σ:St) (Q:VK) (u:Value) (s':Shared):Prop:=∃ v H',Inv X pins σ H' s'∧RelV v u∧Q v H'
def TP (X:Cx) (pins:List (Addr × Obj)) (σ:St) (Q:Bool→Hp→Prop) (b:Bool) (s':Shared):Prop:=∃ H',Inv X pins σ H' s'∧Q b H'
def AP (X:Cx) (pins:List (Addr × Obj)) (σ:St) (Q:List V→Hp→Prop) (us:List Value) (s':Shared):Prop:=∃ vs H',Inv X pins σ H' s'∧Vals vs us∧Q vs H'
def SP (X:Cx) (pins:List (Addr × Obj)) (D:Ends) (f:Flow) (s':Shared):Prop :=
  match f with
  | .next=>∃ σ' H',Inv X pins σ' H' s'∧D.nx σ' H'
  | .brk=>∃ σ' H',Inv X pins σ' H' s'∧D.bk σ' H'
  | .cont=>∃ σ' H',Inv X pins σ' H' s'∧D.ct σ' H'
  | .ret u=>∃ v σ' H',Inv X pins σ' H' s'∧RelV v u∧D.rt v H'
def PE (X:Cx) (e:Expr) (t:TE):Prop :=
  ∀ (pins:List (Addr × Obj)) (s:Shared) (σ:St) (H:Hp) (Q:VK),Inv X pins σ H s→t σ H Q→wpAny (model X.prog X.w) X.A (eval e X.env) (EP X pins σ Q) X.xe s
def PT (X:Cx) (e:Expr) (t:TT):Prop :=
  ∀ (pins:List (Addr × Obj)) (s:Shared) (σ:St) (H:Hp) (Q:Bool→Hp→Prop),Inv X pins σ H s→t σ H Q→wpAny (model X.prog X.w) X.A (isTrue e X.env (eval e X.env)) (TP X pins σ Q) X.xe s
def PW (X:Cx) (e:Expr) (t:TT):Prop :=
  ∀ (whole:Sem Value) (pins:List (Addr × Obj)) (s:Shared) (σ:St) (H:Hp) (Q:Bool→Hp→Prop),Inv X pins σ H s→t σ H Q→wpAny (model X.prog X.w) X.A (isTrue e X.env whole) (TP X pins σ Q) X.xe s
theorem PW.pt {X:Cx} {e:Expr} {t:TT} (h:PW X e t):PT X e t:=h _
def PA (X:Cx) (es:List Expr) (t:TA):Prop :=
  ∀ (pos:Pos) (pins:List (Addr × Obj)) (s:Shared) (σ:St) (H:Hp) (Q:List V→Hp→Prop),Inv X pins σ H s→t σ H Q→wpAny (model X.prog X.w) X.A (spliced (backTo pos (starEach es X.env))) (AP X pins σ Q) X.xe s
def PS (X:Cx) (st:Stmt) (t:TS):Prop :=
  ∀ (pins:List (Addr × Obj)) (s:Shared) (σ:St) (H:Hp) (D:Ends),Inv X pins σ H s→t D σ H→wpAny (model X.prog X.w) X.A (exec st X.env) (SP X pins D) X.xe s
def PSs (X:Cx) (st:List Stmt) (t:TS):Prop :=
  ∀ (pins:List (Addr × Obj)) (s:Shared) (σ:St) (H:Hp) (D:Ends),Inv X pins σ H s→t D σ H→wpAny (model X.prog X.w) X.A (execs st X.env) (SP X pins D) X.xe s
theorem thn {α:Type} {t:Sem α} {Q Q':α→Shared→Prop} {M:Model} {A:Around} {E:Value→Shared→Prop} {s:Shared} (h:wpAny M A t Q E s) (hQ:∀ a s,Q a s→Q' a s):wpAny M A t Q' E s:=wpAny_mono h hQ fun _ _ x=>x
end L2
namespace L2
open PySem PySem.Spec PyProof.Rows
section
variable {X:Cx}
theorem bin {a b:Expr} {ta tb:TE} (ha:PE X a ta) (hb:PE X b tb) {pins:List (Addr × Obj)} {s:Shared} {σ:St} {H:Hp} {R:V→V→Hp→Prop} (I:Inv X pins σ H s) (h:ta σ H fun x H1=>tb σ H1 fun y H2=>R x y H2)
    {α:Type} {Q:α→Shared→Prop} {f:Value→Value→Sem α}
    (hf:∀ v u s2 x y H2,Inv X pins σ H2 s2→RelV x v→RelV y u→R x y H2→wpAny (model X.prog X.w) X.A (f v u) Q X.xe s2) :
    wpAny (model X.prog X.w) X.A (eval a X.env) (fun v s₁=>wpAny (model X.prog X.w) X.A (eval b X.env) (fun u s₂=>wpAny (model X.prog X.w) X.A (f v u) Q X.xe s₂) X.xe s₁) X.xe s:=by
  refine thn (ha pins s σ H _ I h) fun v s1 ⟨x,H1,I1,r1,q1⟩=>?_
  refine thn (hb pins s1 σ H1 _ I1 q1) fun u s2 ⟨y,H2,I2,r2,q2⟩=>?_
  exact hf v u s2 x y H2 I2 r1 r2 q2
noncomputable def tVar (i:Nat):TE:=fun σ H Q=>∃ v,σ[i]? = some (some v)∧Q v H
noncomputable def tC (v:V):TE:=fun _ H Q=>Q v H
theorem zWE {i:Nat} {x:Str} {pos:Pos} (hN:X.N[i]? = some x) (hv:Vis X.env.scope x) (hd:(x == ("__debug__":Str)) = false:=by decide) (hcd:(x == ("__classdict__":Str)) = false:=by decide):PE X (.Name x pos) (tVar i):=by
  intro pins s σ H Q I h
  obtain ⟨v,e,h⟩:=h
  obtain ⟨m,hn,hl⟩:=I.loc
  obtain ⟨u,r,l⟩:=hl i x v hN e hv
  have fin:EP X pins σ Q u s:=⟨v,H,I,r,h⟩
  rcases l with ⟨hk,hm⟩ | ⟨hk,c,hc,hcell⟩
  · exact wpAny_Name (wpAny_loadName_local I.ok.kind hk hn hm fin) hd
  · rcases hk with hk | hk
    · exact wpAny_Name (wpAny_loadName_cell I.ok.kind hk hc hcell fin) hd
    · exact wpAny_Name (wpAny_loadName_free I.ok.kind hk hc hcell fin hcd) hd
theorem zA7 {i j pos}:PE X (.Constant (.int i) j pos) (tC (.int i)):=fun _ _ _ H _ I h=>wpAny_Constant_int ⟨.int i,H,I.tok _,⟨_,rfl⟩,h⟩
theorem zNU {b j pos}:PE X (.Constant (.bool b) j pos) (tC (.bl b)):=fun _ _ _ H _ I h=>Constant_bool ⟨.bl b,H,I,rfl,h⟩
theorem zPD {j pos}:PE X (.Constant .none j pos) (tC .non):=fun _ _ _ H _ I h=>Constant_none ⟨.non,H,I,rfl,h⟩
theorem zSW {x j pos}:PE X (.Constant (.str x) j pos) (tC (.str x)):=fun _ _ _ H _ I h=>Calls.Constant_str ⟨.str x,H,I.tok _,⟨_,rfl⟩,h⟩
def Gl (X:Cx) (x:Str):Prop:=X.env.kindOf x = some .globalImplicit
theorem zHL {E:Value→Shared→Prop} {pins:List (Addr × Obj)} {s:Shared} {σ:St} {H:Hp} {x:Str} {u:Value} {pos:Pos} {Q:Value→Shared→Prop} (I:Inv X pins σ H s) (hg:Gl X x) (hm:X.mg x = some u) (h:Q u s)
    (hd:(x == ("__debug__":Str)) = false:=by decide):wpAny (model X.prog X.w) X.A (eval (.Name x pos) X.env) Q E s :=
  Calls.Name_function_global I.ok.kind hg (Calls.loadGlobal_global (by rw [I.ok.glob]; exact I.mod.glob.keeps I.bk) hm h) hd
theorem zGJ {E:Value→Shared→Prop} {pins:List (Addr × Obj)} {s:Shared} {σ:St} {H:Hp} {x:Str} {u:Value} {pos:Pos} {Q:Value→Shared→Prop} (I:Inv X pins σ H s) (hg:Gl X x) (hm:X.mg x = none) (hv:bootBuiltins x = some u) (h:Q u s)
    (hn:x≠"__name__":=by decide) (hd:(x == ("__debug__":Str)) = false:=by decide):wpAny (model X.prog X.w) X.A (eval (.Name x pos) X.env) Q E s:=by
  obtain ⟨mb,h1,h2⟩:=I.mod.blt
  exact Calls.Name_function_global I.ok.kind hg (Calls.loadGlobal_builtin (by rw [I.ok.glob]; exact I.mod.glob.keeps I.bk) hm (by rw [I.ok.blt]; exact h1.keeps I.bk) ((h2 x hn).trans hv) h) hd
theorem zHC {x:Str} {v:V} {u:Value} {pos:Pos} (hg:Gl X x) (hm:X.mg x = none) (hv:bootBuiltins x = some u) (r:RelV v u) (hn:x≠"__name__":=by decide) (hd:(x == ("__debug__":Str)) = false:=by decide):PE X (.Name x pos) (tC v) :=
  fun _ _ _ H _ I h=>zGJ I hg hm hv ⟨v,H,I,r,h⟩ hn hd
variable {a b:Expr} {ta tb:TE} {pos:Pos}
noncomputable def tB (t:TE):TT:=fun σ H Q=>t σ H fun x H1=>∃ c,x = .bl c∧Q c H1
variable {tA tB':TT} {rest:List Expr}
noncomputable def tAnd (t u:TT):TT:=fun σ H Q=>t σ H fun c H1=>if c = true then u σ H1 Q else Q false H1
noncomputable def tOr (t u:TT):TT:=fun σ H Q=>t σ H fun c H1=>if c = true then Q true H1 else u σ H1 Q
noncomputable def tNot (t:TT):TT:=fun σ H Q=>t σ H fun c H1=>Q (!c) H1
theorem zLS (ha:PT X a tA):PW X (.BoolOp .And [a] pos) tA:=by
  intro wh pins s σ H Q I h
  refine isTrue_and (thn (ha pins s σ H Q I h) fun c s1 e=>?_)
  cases c with
  | true=>exact isTrue_and_nil e
  | false=>exact e
theorem zP5 (ha:PT X a tA):PW X (.BoolOp .Or [a] pos) tA:=by
  intro wh pins s σ H Q I h
  refine isTrue_or (thn (ha pins s σ H Q I h) fun c s1 e=>?_)
  cases c with
  | false=>exact isTrue_or_nil e
  | true=>exact e
theorem zP7 (ha:PT X a tA) (hb:PW X (.BoolOp .And (b :: rest) pos) tB'):PW X (.BoolOp .And (a :: b :: rest) pos) (tAnd tA tB'):=by
  intro wh pins s σ H Q I h
  refine isTrue_and (thn (ha pins s σ H _ I h) fun c s1 ⟨H1,I1,q1⟩=>?_)
  cases c with
  | true=>exact hb wh pins s1 σ H1 Q I1 q1
  | false=>exact ⟨H1,I1,q1⟩
theorem zP6 (ha:PT X a tA) (hb:PW X (.BoolOp .Or (b :: rest) pos) tB'):PW X (.BoolOp .Or (a :: b :: rest) pos) (tOr tA tB'):=by
  intro wh pins s σ H Q I h
  refine isTrue_or (thn (ha pins s σ H _ I h) fun c s1 ⟨H1,I1,q1⟩=>?_)
  cases c with
  | true=>exact ⟨H1,I1,q1⟩
  | false=>exact hb wh pins s1 σ H1 Q I1 q1
theorem zHB (ha:PT X a tA):PT X (.UnaryOp .Not a pos) (tNot tA):=by
  intro pins s σ H Q I h
  exact isTrue_not (ha pins s σ H (fun c H1=>Q (!c) H1) I h)
theorem zN0 {op} {t:TE} (h:PE X a t):PE X (.BoolOp op [a] pos) t:=fun pins s σ H Q I hw=>BoolOp_one (h pins s σ H Q I hw)
noncomputable def tIf (t:TT) (ta tb:TE):TE:=fun σ H Q=>t σ H fun c H1=>if c = true then ta σ H1 Q else tb σ H1 Q
theorem zGS {c:Expr} (hc:PT X c tA) (ha:PE X a ta) (hb:PE X b tb):PE X (.IfExp c a b pos) (tIf tA ta tb):=by
  intro pins s σ H Q I h
  refine wpAny_IfExp (thn (hc pins s σ H _ I h) fun d s1 ⟨H1,I1,q1⟩=>?_)
  cases d with
  | true=>exact ha pins s1 σ H1 Q I1 q1
  | false=>exact hb pins s1 σ H1 Q I1 q1
end
end L2
namespace L2
open PySem PySem.Spec PyProof.Rows
def SqL (K:PySem.W.Frag) (H:Hp) (a:Addr) (xs:List V):Prop :=
  Rd H a (.lst xs) ∨
    ∃ (o:Obj) (its:Array Value) (n:Nat),K.lookup a = some o∧o.cls = .type "list"∧o.dict = none∧o.data = .seq its n∧its.size≤sizeLine∧Vals xs its.toList
def SqT (K:PySem.W.Frag) (H:Hp) (a:Addr) (xs:List V):Prop :=
  Rd H a (.tup xs) ∨
    ∃ (o:Obj) (its:Array Value) (n:Nat),K.lookup a = some o∧o.cls = .type "tuple"∧o.data = .seq its n∧its.size≤sizeLine∧Vals xs its.toList
noncomputable def absV:Value→Option V
  | .none=>some .non
  | .bool b=>some (.bl b)
  | .int i _=>some (.int i)
  | .str x _=>some (.str x)
  | .bytes b _=>some (.byt b)
  | .float b _=>some (.flt b)
  | .ref a=>some (.ref a)
  | .type n=>some (.ty n)
  | _=>none
theorem RelV.abs {x:V} {u:Value} (r:RelV x u):absV u = some x:=by
  cases x with
  | non=>cases r; rfl
  | bl _=>cases r; rfl
  | int _=>obtain ⟨t,rfl⟩:=r; rfl
  | str _=>obtain ⟨t,rfl⟩:=r; rfl
  | byt _=>obtain ⟨t,rfl⟩:=r; rfl
  | flt _=>obtain ⟨t,rfl⟩:=r; rfl
  | ref _=>cases r; rfl
  | ty _=>cases r; rfl
theorem RelV.inj {x y:V} {u:Value} (r:RelV x u) (q:RelV y u):x = y:=Option.some.inj (r.abs.symm.trans q.abs)
theorem Vals.inj:∀ {xs ys:List V} {us:List Value},Vals xs us→Vals ys us→xs = ys
  | _,_,_,.nil,.nil=>rfl
  | _,_,_,.cons r t,.cons r' t'=>by rw [r.inj r',Vals.inj t t']
section
variable {X:Cx} {pins:List (Addr × Obj)} {σ:St} {H:Hp} {s:Shared} {a:Addr} {xs ys:List V}
theorem SqL.of {K:PySem.W.Frag} (h:H a = some (.lst xs)):SqL K H a xs:=.inl (.inl h)
theorem SqT.of {K:PySem.W.Frag} (h:H a = some (.tup xs)):SqT K H a xs:=.inl (.inl h)
theorem Inv.list (I:Inv X pins σ H s) (h:SqL X.K H a xs):∃ its:List Value,Vals xs its∧PlainL s.heap a its.toArray∧xs.length≤sizeLine:=by
  rcases h with h | ⟨o,its,n,hk,hc,hd,hs,hz,r⟩
  · obtain ⟨z,its,n,r,e⟩:=h.ok I.hok
    exact ⟨its,r,⟨_,n,e,rfl,rfl,rfl⟩,z⟩
  · refine ⟨its.toList,r,⟨o,n,I.kIn a o hk,hc,hd,by simpa using hs⟩,?_⟩
    have e:=r.length
    simp only [Array.length_toList] at e
    omega
theorem Inv.tuple (I:Inv X pins σ H s) (h:SqT X.K H a xs):∃ its:List Value,Vals xs its∧IsTup s.heap a its.toArray∧xs.length≤sizeLine:=by
  rcases h with h | ⟨o,its,n,hk,hc,hs,hz,r⟩
  · obtain ⟨z,its,r,p⟩:=h.ok I.hok
    exact ⟨its,r,p,z⟩
  · refine ⟨its.toList,r,⟨o,I.kIn a o hk,hc,n,by simpa using hs⟩,?_⟩
    have e:=r.length
    simp only [Array.length_toList] at e
    omega
theorem Inv.list_inj (I:Inv X pins σ H s) (h:SqL X.K H a xs) (h':SqL X.K H a ys):xs = ys:=by
  obtain ⟨its,r,⟨o,n,e,_,_,d⟩,_⟩:=I.list h
  obtain ⟨its',r',⟨o',n',e',_,_,d'⟩,_⟩:=I.list h'
  rw [e] at e'; cases e'
  rw [d] at d'
  injection d' with d1 _
  have:its = its':=by simpa using congrArg Array.toList d1
  subst this
  exact r.inj r'
theorem Inv.tuple_inj (I:Inv X pins σ H s) (h:SqT X.K H a xs) (h':SqT X.K H a ys):xs = ys:=by
  obtain ⟨its,r,⟨o,e,_,n,d⟩,_⟩:=I.tuple h
  obtain ⟨its',r',⟨o',e',_,n',d'⟩,_⟩:=I.tuple h'
  rw [e] at e'; cases e'
  rw [d] at d'
  injection d' with d1 _
  have:its = its':=by simpa using congrArg Array.toList d1
  subst this
  exact r.inj r'
end
abbrev Cx.wish (X:Cx) (E:Value→Shared→Prop):Cx:={ X with xe:=E }
abbrev Cx.nox (X:Cx):Cx:=X.wish fun _ _=>False
theorem Cx.Ok.wish {X:Cx} (ok:X.Ok) (E:Value→Shared→Prop):(X.wish E).Ok :=
  ⟨ok.mod,ok.kind,ok.glob,ok.blt,ok.above,ok.inj,ok.has,ok.cab,ok.hd,ok.frames,ok.stk,ok.exf,ok.bs,ok.bsz,ok.noex,ok.exfs,ok.funs,ok.frf⟩
theorem Cx.Ok.unwish {X:Cx} {E:Value→Shared→Prop} (ok:(X.wish E).Ok):X.Ok :=
  ⟨ok.mod,ok.kind,ok.glob,ok.blt,ok.above,ok.inj,ok.has,ok.cab,ok.hd,ok.frames,ok.stk,ok.exf,ok.bs,ok.bsz,ok.noex,ok.exfs,ok.funs,ok.frf⟩
section
variable {X:Cx} {pins:List (Addr × Obj)} {σ:St} {H:Hp} {s:Shared} {E:Value→Shared→Prop}
theorem Inv.wish (I:Inv X pins σ H s) (E:Value→Shared→Prop):Inv (X.wish E) pins σ H s:=⟨I.ok.wish E,I.os,I.bare,I.base,I.loc,I.cell,I.free,I.freeC,I.pin,I.hok,I.len⟩
theorem Inv.unwish (I:Inv (X.wish E) pins σ H s):Inv X pins σ H s:=⟨I.ok.unwish,I.os,I.bare,I.base,I.loc,I.cell,I.free,I.freeC,I.pin,I.hok,I.len⟩
theorem SP.unwish {D:Ends} {f:Flow} {s':Shared} (h:SP (X.wish E) pins D f s'):SP X pins D f s':=by
  cases f with
  | next=>obtain ⟨σ',H',I,q⟩:=h; exact ⟨σ',H',I.unwish,q⟩
  | brk=>obtain ⟨σ',H',I,q⟩:=h; exact ⟨σ',H',I.unwish,q⟩
  | cont=>obtain ⟨σ',H',I,q⟩:=h; exact ⟨σ',H',I.unwish,q⟩
  | ret u=>obtain ⟨v,σ',H',I,r,q⟩:=h; exact ⟨v,σ',H',I.unwish,r,q⟩
theorem PSs.nox {st:List Stmt} {t:TS} (h:PSs X.nox st t):PSs X st t:=fun pins s σ H D I hw =>
  wpAny_mono (h pins s σ H D (I.wish _) hw) (fun _ _ q=>q.unwish) fun _ _ z=>False.elim z
end
section
variable {X:Cx} {st:Stmt} {rest:List Stmt} {t u:TS} {e:Expr} {te:TE} {pos:Pos}
noncomputable def zVO:TS:=fun D σ H=>D.nx σ H
noncomputable def tSeq (t u:TS):TS:=fun D σ H=>t { D with nx:=u D } σ H
theorem zBU:PSs X [] zVO:=fun _ _ σ H _ I h=>wpAny_execs_nil ⟨σ,H,I,h⟩
theorem zA4 (h1:PS X st t) (h2:PSs X rest u):PSs X (st :: rest) (tSeq t u):=by
  intro pins s σ H D I h
  refine wpAny_execs_cons (thn (h1 pins s σ H { D with nx:=u D } I h) fun f s1 q=>?_)
  cases f with
  | next =>
    obtain ⟨σ',H',I',q⟩:=q
    exact h2 pins s1 σ' H' D I' q
  | ret v=>exact q
  | brk=>exact q
  | cont=>exact q
theorem zAD (h1:PS X st t):PSs X [st] t:=by
  intro pins s σ H D I h
  refine wpAny_execs_cons (thn (h1 pins s σ H D I h) fun f s1 q=>?_)
  cases f with
  | next=>exact wpAny_execs_nil q
  | ret v=>exact q
  | brk=>exact q
  | cont=>exact q
theorem Inv.quiet {pins:List (Addr × Obj)} {σ:St} {H:Hp} {s:Shared} (I:Inv X pins σ H s):interactive X.env = false:=by simp [interactive,I.ok.kind]
noncomputable def zTJ (te:TE):TS:=fun D σ H=>te σ H fun _ H1=>D.nx σ H1
theorem zU6 (he:PE X e te) (hs:swapsWith e none pos.line X.env = pure false:=by rfl):PS X (.Expr e pos) (zTJ te):=by
  intro pins s σ H D I h
  exact wpAny_Expr_any (thn (he pins s σ H _ I h) fun v s1 ⟨x,H1,I1,r1,q1⟩=>⟨σ,H1,I1,q1⟩) I.quiet hs
noncomputable def tRet (te:TE):TS:=fun D σ H=>te σ H D.rt
theorem zB4 (he:PE X e te):PS X (.Return (some e) pos) (tRet te):=by
  intro pins s σ H D I h
  exact wpAny_Return_some (thn (he pins s σ H _ I h) fun v s1 ⟨x,H1,I1,r1,q1⟩=>⟨x,σ,H1,I1,r1,q1⟩)
noncomputable def tIfS (c:TT) (t u:TS):TS:=fun D σ H=>c σ H fun b H1=>if b = true then t D σ H1 else u D σ H1
theorem zDZ {c:Expr} {a b:List Stmt} {tc:TT} (hc:PT X c tc) (ha:PSs X a t) (hb:PSs X b u):PS X (.If c a b pos) (tIfS tc t u):=by
  intro pins s σ H D I h
  refine wpAny_If (thn (hc pins s σ H _ I h) fun d s1 ⟨H1,I1,q1⟩=>?_)
  cases d with
  | true=>exact ha pins s1 σ H1 D I1 q1
  | false=>exact hb pins s1 σ H1 D I1 q1
end
abbrev TG:=V→St→Hp→(St→Hp→Prop)→Prop
abbrev TGs:=List V→St→Hp→(St→Hp→Prop)→Prop
def PG (X:Cx) (target:Expr) (t:TG):Prop :=
  ∀ (pins:List (Addr × Obj)) (s:Shared) (σ:St) (H:Hp) (v:V) (u:Value) (Q:St→Hp→Prop),Inv X pins σ H s→RelV v u→t v σ H Q →
    wpAny (model X.prog X.w) X.A (assign target X.env u) (fun _ s'=>∃ σ' H',Inv X pins σ' H' s'∧Q σ' H') X.xe s
def PGs (X:Cx) (ts:List Expr) (t:TGs):Prop :=
  ∀ (pins:List (Addr × Obj)) (s:Shared) (σ:St) (H:Hp) (vs:List V) (us:List Value) (Q:St→Hp→Prop),Inv X pins σ H s→Vals vs us→t vs σ H Q →
    wpAny (model X.prog X.w) X.A (assignInOrder ((assignEach ts X.env).map (·.2)) us) (fun _ s'=>∃ σ' H',Inv X pins σ' H' s'∧Q σ' H') X.xe s
abbrev TSet:=V→V→V→Hp→(Hp→Prop)→Prop
def PSet (X:Cx) (t:TSet):Prop :=
  ∀ (pins:List (Addr × Obj)) (s:Shared) (σ:St) (H:Hp) (o i v:V) (ov iv u:Value) (Q:Hp→Prop),Inv X pins σ H s→RelV o ov→RelV i iv→RelV v u→t o i v H Q →
    wpAny (model X.prog X.w) X.A (setItem ov iv u) (fun _ s'=>∃ H',Inv X pins σ H' s'∧Q H') X.xe s
section
variable {X:Cx} {pos:Pos}
noncomputable def zJO (i:Nat):TG:=fun v σ H Q=>Q (σ.set i (some v)) H
theorem zAH {i:Nat} {x:Str} (hN:X.N.Nodup) (hi:X.N[i]? = some x) (hx:Loc X.env.scope x) (hf:X.fn x = true∨X.env.scope.names.lookup x = some .local:=by first | exact .inl rfl | exact .inr rfl | assumption):PG X (.Name x pos) (zJO i):=by
  intro pins s σ H v u Q I r h
  exact wpAny_assign_Name (zGR I hN hi hx r (fun s' I'=>⟨_,H,I',h⟩) hf)
noncomputable def gNil:TGs:=fun vs σ H Q=>vs = []∧Q σ H
noncomputable def zX8 (t:TG) (u:TGs):TGs:=fun vs σ H Q=>∃ v r,vs = v :: r∧t v σ H fun σ' H'=>u r σ' H' Q
theorem zLV:PGs X [] gNil:=by
  intro pins s σ H vs us Q I r h
  obtain ⟨e,h⟩:=h
  subst e
  cases r
  exact assignInOrder_nil ⟨σ,H,I,h⟩
theorem zEL {e:Expr} {es:List Expr} {t:TG} {u:TGs} (h1:PG X e t) (h2:PGs X es u)
    (hs:(assignEach (e :: es) X.env).map (·.2) = assign e X.env :: (assignEach es X.env).map (·.2):=by rfl):PGs X (e :: es) (zX8 t u):=by
  intro pins s σ H vs us Q I r h
  obtain ⟨v,vr,e1,h⟩:=h
  subst e1
  cases r with
  | cons r rr =>
    rw [hs]
    refine assignInOrder_cons (thn (h1 pins s σ H _ _ _ I r h) fun _ s1 ⟨σ1,H1,I1,q1⟩=>?_)
    exact h2 pins s1 σ1 H1 _ _ Q I1 rr q1
noncomputable def gTup (K:PySem.W.Frag) (n:Nat) (t:TGs):TG:=fun v σ H Q=>∃ a xs,v = .ref a∧SqT K H a xs∧xs.length = n∧t xs σ H Q
theorem zWC {es:List Expr} {k:Nat} {t:TGs} {n:Nat} (hc:X.calm = true) (h:PGs X es t)
    (hn:(assignEach es X.env).length = n:=by rfl) (hst:(assignEach es X.env).findIdx? (·.1) = none:=by rfl):PG X (.Tuple es k pos) (gTup X.K n t):=by
  intro pins s σ H v u Q I r hw
  obtain ⟨a,xs,e1,hq,hl,hw⟩:=hw
  subst e1
  cases r
  obtain ⟨its,rv,ht,hz⟩:=I.tuple hq
  refine assign_Tuple_tuple (I.ok.hd hc) ht (by simp [hn,← hl,rv.length]) hst fun h' hx=>?_
  have I1:Inv X pins σ H { s with heap:=h' }:=I.kept (t':=s.toks) fun b o e=>hx b o (Nat.ne_of_lt (Heap.lt_size e)) e
  exact h pins _ σ H xs _ Q I1 (by simpa using rv) hw
noncomputable def gSub (to ti:TE) (t:TSet):TG:=fun v σ H Q=>to σ H fun o H1=>ti σ H1 fun i H2=>t o i v H2 fun H3=>Q σ H3
theorem zFH {o i:Expr} {to ti:TE} {t:TSet} (ho:PE X o to) (hi:PE X i ti) (hs:PSet X t)
    (ha:∀ v,assign (.Subscript o i pos) X.env v = (do
      let ov ← holding [v] (eval o X.env)
      let iv ← holding [v,ov] (eval i X.env)
      standAt pos
      holding [v,ov,iv] (setItem ov iv v)
      release [v,ov,iv] []):=by intro _; rfl):PG X (.Subscript o i pos) (gSub to ti t):=by
  intro pins s σ H v u Q I r h
  rw [ha]
  refine wpAny_bind (wpAny_holding (thn (ho pins s σ H _ I h) fun ov s1 ⟨x,H1,I1,r1,q1⟩=>?_))
  refine wpAny_bind (wpAny_holding (thn (hi pins s1 σ H1 _ I1 q1) fun iv s2 ⟨y,H2,I2,r2,q2⟩=>?_))
  refine wpAny_bind (wpAny_standAt (wpAny_bind (wpAny_holding (thn (hs pins s2 σ H2 x y v ov iv u _ I2 r1 r2 r q2) fun _ s3 ⟨H3,I3,q3⟩=>?_))))
  exact wpAny_release ⟨σ,H3,I3,q3⟩
noncomputable def tAsg (te:TE) (g:TG):TS:=fun D σ H=>te σ H fun x H1=>g x σ H1 D.nx
theorem zEV {tg e:Expr} {te:TE} {g:TG} (he:PE X e te) (hg:PG X tg g) (hs:swapsWithSole [tg] e pos.line X.env = pure false:=by rfl) (hw:swappedStores [tg] e X.env = pure none:=by rfl)
    (h1:(assignEach [tg] X.env).map (·.2) = [assign tg X.env]:=by rfl):PS X (.Assign [tg] e pos) (tAsg te g):=by
  intro pins s σ H D I h
  refine wpAny_Assign_stores (thn (he pins s σ H _ I h) fun v s1 ⟨x,H1,I1,r1,q1⟩=>?_) hs hw
  rw [h1]
  exact thn (hg pins s1 σ H1 x v _ I1 r1 q1) fun _ s2 q=>q
theorem zAL {i:Nat} {x:Str} {e:Expr} {te:TE} {pos':Pos} (hN:X.N.Nodup) (hi:X.N[i]? = some x) (hx:Loc X.env.scope x) (he:PE X e te) (hs:swapsWith e (some (.Name x pos')) pos.line X.env = pure false:=by rfl) (hf:X.fn x = true∨X.env.scope.names.lookup x = some .local:=by first | exact .inl rfl | exact .inr rfl | assumption) :
    PS X (.Assign [.Name x pos'] e pos) (tAsg te (zJO i)):=by
  intro pins s σ H D I h
  refine wpAny_Assign_Name (thn (he pins s σ H _ I h) fun v s1 ⟨y,H1,I1,r1,q1⟩=>?_) hs
  exact zGR I1 hN hi hx r1 (fun s2 I2=>⟨_,H1,I2,q1⟩) hf
end
section
variable {X:Cx} {pos:Pos}
noncomputable def zOQ (c:TT) (tb:TS):TS:=fun D σ H=>∃ W:Nat→St→Hp→Prop,(∃ m,W m σ H)∧∀ m σ H,W m σ H →
  c σ H fun b H1=>if b = true then ∃ N:St→Hp→Prop,(∀ σ' H',N σ' H'→∃ m',m' < m∧W m' σ' H')∧tb { D with nx:=N,ct:=N,bk:=D.nx } σ H1 else D.nx σ H1
theorem zMY {c:Expr} {body:List Stmt} {tc:TT} {tb:TS} (hp:PassesOwn (model X.prog X.w) X.A X.env X.xe) (hc:PT X c tc) (hb:PSs X body tb):PS X (.While c body [] pos) (zOQ tc tb):=by
  intro pins s σ H D I h
  obtain ⟨W,⟨m0,w0⟩,turn⟩:=h
  refine wpAny_While (codeAny_whileLoop (fun n s'=>∃ σ' H',Inv X pins σ' H' s'∧W n σ' H') ?_ m0 ⟨σ,H,I,w0⟩)
  rintro n s1 ⟨σ1,H1,I1,w1⟩
  refine wpAny_passesOwn hp (thn (hc pins s1 σ1 H1 _ I1 (turn n σ1 H1 w1)) fun b s2 ⟨H2,I2,q2⟩=>?_)
  cases b with
  | true =>
    obtain ⟨N,hN,q2⟩:=q2
    rw [if_pos rfl]
    refine wpAny_passesOwn hp (thn (hb pins s2 σ1 H2 _ I2 q2) fun f s3 q3=>?_)
    cases f with
    | next =>
      obtain ⟨σ3,H3,I3,n3⟩:=q3
      obtain ⟨m',hm,w3⟩:=hN σ3 H3 n3
      exact ⟨m',hm,σ3,H3,I3,w3⟩
    | cont =>
      obtain ⟨σ3,H3,I3,n3⟩:=q3
      obtain ⟨m',hm,w3⟩:=hN σ3 H3 n3
      exact ⟨m',hm,σ3,H3,I3,w3⟩
    | brk=>exact q3
    | ret v=>exact q3
  | false =>
    rw [if_neg Bool.false_ne_true]
    exact wpAny_execs_nil ⟨σ1,H2,I2,q2⟩
end
structure It where
  go:Nat→Hp→Prop
  yld:Nat→Hp→V→Hp→Prop
  stop:Nat→Hp→Prop
def FpOk (X:Cx) (pins:List (Addr × Obj)) (H:Hp) (b:Addr):Prop :=
  H b = none∧b≠X.env.locals∧b ∉ X.fs∧(b∈X.ex∨X.s₀.heap.objs.size≤b)∧(∀ x c,X.env.cells.lookup x = some c→c≠b)∧∀ p∈X.pn ++ pins,p.1≠b
theorem Inv.fpOk {X:Cx} {pins:List (Addr × Obj)} {σ:St} {H H':Hp} {s:Shared} {b:Addr} (I:Inv X pins σ H s) (hb:s.heap.objs.size≤b) (hn:H' b = none):FpOk X pins H' b:=by
  refine ⟨hn,Nat.ne_of_gt (Nat.lt_of_lt_of_le I.lt hb),I.nofs hb,.inr (Nat.le_trans I.sz hb),fun x c e z=>?_,fun p hp z=>?_⟩
  · obtain ⟨v,q⟩:=I.cell x c e
    exact absurd (Nat.lt_of_lt_of_le q.lt (by rw [z]; exact hb)) (Nat.lt_irrefl _)
  · exact absurd (Nat.lt_of_lt_of_le (Heap.lt_size (I.pin p hp).1) (by rw [z]; exact hb)) (Nat.lt_irrefl _)
structure Turn (P:Program) (w:World) (K:PySem.W.Frag) (tg:Expr) (J:It) (fp:List Addr) (it:Addr) (tn:Nat→Heap→Prop):Prop where
  mem:it∈fp
  obj:∀ i h,tn i h→∀ b∈fp,∃ o,h.get? b = some o∧∀ v,o.data≠.cell v
  keep:∀ i h h',tn i h→(∀ b∈fp,∀ o,h.get? b = some o→h'.get? b = some o)→tn i h'
  item:∀ (X:Cx),X.prog = P→X.w = w→X.K = K→X.calm = true→∀ (i:Nat) (pins:List (Addr × Obj)) (s:Shared) (σ:St) (H:Hp) (E:Value→Shared→Prop),Inv X pins σ H s→(∀ b∈fp,FpOk X pins H b)→tn i s.heap→J.go i H →
    wpAny (model P w) X.A (pyNext (.ref it)) (fun r s1=>∃ u,r = some u ∧
      wpAny (model P w) X.A (letOwnedTupleGo tg (.ref it) u) (fun _ s2=>∃ x H',Inv X pins σ H' s2∧RelV x u∧J.yld i H x H'∧tn (i + 1) s2.heap∧∀ b∈fp,H' b = none) E s1) E s
  done:∀ (X:Cx),X.prog = P→X.w = w→X.K = K→X.calm = true→∀ (i:Nat) (pins:List (Addr × Obj)) (s:Shared) (σ:St) (H:Hp) (E:Value→Shared→Prop),Inv X pins σ H s→(∀ b∈fp,FpOk X pins H b)→tn i s.heap→J.stop i H →
    wpAny (model P w) X.A (pyNext (.ref it)) (fun r s1=>r = none∧Inv X pins σ H s1) E s
  self:∀ (A:Around) (i:Nat) (s:Shared) (Q:Value→Shared→Prop) (E:Value→Shared→Prop),tn i s.heap→Q (.ref it) s→wpAny (model P w) A (pyIter (.ref it)) Q E s
abbrev TI:=St→Hp→(It→Hp→Prop)→Prop
def PIE (X:Cx) (pins:List (Addr × Obj)) (σ:St) (tg:Expr) (R:It→Hp→Prop) (itv:Value) (s2:Shared):Prop :=
  ∃ (it:Addr) (fp:List Addr) (tn:Nat→Heap→Prop) (J:It) (H':Hp),itv = .ref it∧Inv X pins σ H' s2∧Turn X.prog X.w X.K tg J fp it tn∧tn 0 s2.heap∧(∀ b∈fp,FpOk X pins H' b)∧R J H'
def PI (X:Cx) (tg iter:Expr) (wi:TI):Prop :=
  ∀ (pins:List (Addr × Obj)) (s:Shared) (σ:St) (H:Hp) (R:It→Hp→Prop),Inv X pins σ H s→wi σ H R →
    wpAny (model X.prog X.w) X.A (eval iter X.env) (fun v s1=>wpAny (model X.prog X.w) X.A (pyIter v) (PIE X pins σ tg R) X.xe s1) X.xe s
theorem zS1 {M:Model} {A:Around} {E:Value→Shared→Prop} {s:Shared} {tg:Expr} {it:Addr} {u:Value} {o:Obj} {n:String} {vs:Array Value} {Q:Unit→Shared→Prop} (ho:s.heap.get? it = some o) (hc:o.cls = .type n) (hd:o.data = .fields vs)
    (hn:["enumerate","zip","dict_itemiterator","dict_reverseitemiterator","odict_iterator","itertools.zip_longest","itertools.pairwise"].contains n = false) (hQ:Q () s):wpAny M A (letOwnedTupleGo tg (.ref it) u) Q E s:=by
  unfold letOwnedTupleGo
  cases tg <;> first
    | exact wpAny_pure hQ
    | (cases u <;> first
        | exact wpAny_pure hQ
        | (refine wpAny_bind (wpAny_load ho ?_)
           rw [hc,hd]
           show wpAny M A (if (["enumerate","zip","dict_itemiterator","dict_reverseitemiterator","odict_iterator","itertools.zip_longest","itertools.pairwise"].contains n && vs[0]? == some (rawInt _)) = true then _ else _) Q E s
           rw [if_neg (by intro h; rw [hn,Bool.false_and] at h; cases h)]
           exact wpAny_pure hQ))
noncomputable def Itl (K:PySem.W.Frag) (a:Addr):It :=
  ⟨fun i H=>∃ xs x,SqL K H a xs∧xs[i]? = some x,fun i H x H'=>H' = H∧∀ xs,SqL K H a xs→xs[i]? = some x,fun i H=>∃ xs,SqL K H a xs∧xs.length≤i⟩
noncomputable def Itt (K:PySem.W.Frag) (a:Addr):It :=
  ⟨fun i H=>∃ xs x,SqT K H a xs∧xs[i]? = some x,fun i H x H'=>H' = H∧∀ xs,SqT K H a xs→xs[i]? = some x,fun i H=>∃ xs,SqT K H a xs∧xs.length≤i⟩
noncomputable def Itr (lo:Int) (n:Nat):It:=⟨fun i _=>i < n,fun i H x H'=>H' = H∧x = .int (lo + i),fun i _=>n≤i⟩
theorem zON {P:Program} {w:World} {K:PySem.W.Frag} {tg:Expr} (a it:Addr):Turn P w K tg (Itl K a) [it] it (fun i h=>h.IsListIter it a i) where
  mem:=by simp
  obj:=fun i h st b hb=>by
    have e:b = it:=by simpa using hb
    subst e
    obtain ⟨o,e,c,d⟩:=st
    exact ⟨o,e,fun v z=>by rw [d] at z; cases z⟩
  keep:=fun i h h' st k=>st.at fun o e=>k it (by simp) o e
  item:=by
    intro X hP hw hK hc i pins s σ H E I hf st hg
    subst hP hw hK
    obtain ⟨xs,x,hq,hx⟩:=hg
    obtain ⟨its,rv,p,hz⟩:=I.list hq
    obtain ⟨u,hu,ru⟩:=rv.get hx
    obtain ⟨f0,f1,f2,f3,f4,f5⟩:=hf it (by simp)
    refine wpAny_pyNext_list_item st p.isList (x:=u) (by simpa using hu) fun h' st' sb=>?_
    have I1:Inv X pins σ H { s with heap:=h' }:=I.turned (t':=s.toks) (fun b o hb e=>(sb.2 b hb).trans e) f0 f1 f3 f4 f5
    obtain ⟨o,e,c,d⟩:=id st'
    exact ⟨u,rfl,zS1 (s:={ s with heap:=h' }) e c d (by decide) ⟨x,H,I1,ru,⟨rfl,fun ys hy=>by rw [I.list_inj hy hq]; exact hx⟩,st',fun b hb=>(hf b hb).1⟩⟩
  done:=by
    intro X hP hw hK hc i pins s σ H E I hf st hg
    subst hP hw hK
    obtain ⟨xs,hq,hx⟩:=hg
    obtain ⟨its,rv,p,hz⟩:=I.list hq
    obtain ⟨f0,f1,f2,f3,f4,f5⟩:=hf it (by simp)
    have hl:=rv.length
    exact wpAny_pyNext_list_end (I.ok.hd hc) st p.isList (by simp; omega) fun h' eb=>⟨rfl,I.turned (t':=s.toks) (fun b o hb e=>eb b o hb e) f0 f1 f3 f4 f5⟩
  self:=fun _ _ _ _ _ st h=>wpAny_pyIter_listiter st h
theorem zNN {P:Program} {w:World} {K:PySem.W.Frag} {tg:Expr} (a it:Addr):Turn P w K tg (Itt K a) [it] it (fun i h=>h.IsTupleIter it a i) where
  mem:=by simp
  obj:=fun i h st b hb=>by
    have e:b = it:=by simpa using hb
    subst e
    obtain ⟨o,e,c,d⟩:=st
    exact ⟨o,e,fun v z=>by rw [d] at z; cases z⟩
  keep:=fun i h h' st k=>st.at fun o e=>k it (by simp) o e
  item:=by
    intro X hP hw hK hc i pins s σ H E I hf st hg
    subst hP hw hK
    obtain ⟨xs,x,hq,hx⟩:=hg
    obtain ⟨its,rv,p,hz⟩:=I.tuple hq
    obtain ⟨u,hu,ru⟩:=rv.get hx
    obtain ⟨f0,f1,f2,f3,f4,f5⟩:=hf it (by simp)
    refine wpAny_pyNext_tuple_item st (show s.heap.IsTuple a its.toArray from p) (x:=u) (by simpa using hu) fun h' st' sb=>?_
    have I1:Inv X pins σ H { s with heap:=h' }:=I.turned (t':=s.toks) (fun b o hb e=>(sb.2 b hb).trans e) f0 f1 f3 f4 f5
    obtain ⟨o,e,c,d⟩:=id st'
    exact ⟨u,rfl,zS1 (s:={ s with heap:=h' }) e c d (by decide) ⟨x,H,I1,ru,⟨rfl,fun ys hy=>by rw [I.tuple_inj hy hq]; exact hx⟩,st',fun b hb=>(hf b hb).1⟩⟩
  done:=by
    intro X hP hw hK hc i pins s σ H E I hf st hg
    subst hP hw hK
    obtain ⟨xs,hq,hx⟩:=hg
    obtain ⟨its,rv,p,hz⟩:=I.tuple hq
    obtain ⟨f0,f1,f2,f3,f4,f5⟩:=hf it (by simp)
    have hl:=rv.length
    exact wpAny_pyNext_tuple_end (I.ok.hd hc) st (show s.heap.IsTuple a its.toArray from p) (by simp; omega) fun h' eb=>⟨rfl,I.turned (t':=s.toks) (fun b o hb e=>eb b o hb e) f0 f1 f3 f4 f5⟩
  self:=fun _ _ _ _ _ st h=>wpAny_pyIter_tupleiter st h
theorem zNO {P:Program} {w:World} {K:PySem.W.Frag} {tg:Expr} (it:Addr) (lo:Int) (n:Nat):Turn P w K tg (Itr lo n) [it] it (fun i h=>IsRangeIter h it (lo + (i:Nat) * 1) ((n:Int) - (i:Nat)) 1) where
  mem:=by simp
  obj:=fun i h st b hb=>by
    have e:b = it:=by simpa using hb
    subst e
    exact ⟨_,st,fun v z=>by
      have z':Data.fields _ = Data.cell v:=z
      cases z'⟩
  keep:=fun i h h' st k=>k it (by simp) _ st
  item:=by
    intro X hP hw hK hc i pins s σ H E I hf st hg
    subst hP hw hK
    obtain ⟨f0,f1,f2,f3,f4,f5⟩:=hf it (by simp)
    have W:=Walks.range (prog:=X.prog) (w:=X.w) (I.ok.hd hc) it lo 1 n
    refine W.item i s _ _ hg st fun v h' tk hv st' kk=>?_
    obtain ⟨t,rfl⟩:=hv
    have I1:Inv X pins σ H { s with heap:=h',toks:=tk }:=I.turned (fun b o hb e=>kk b o (by simpa using hb) e) f0 f1 f3 f4 f5
    refine ⟨_,rfl,zS1 (s:={ s with heap:=h',toks:=tk }) (n:="range_iterator") st' rfl rfl (by decide) ⟨.int (lo + i),H,I1,⟨t,?_⟩,⟨rfl,rfl⟩,st',fun b hb=>(hf b hb).1⟩⟩
    rw [Int.mul_one]
  done:=by
    intro X hP hw hK hc i pins s σ H E I hf st hg
    subst hP hw hK
    obtain ⟨f0,f1,f2,f3,f4,f5⟩:=hf it (by simp)
    exact wpAny_pyNext_range_end (I.ok.hd hc) st (by have:n≤i:=hg; omega) fun h' eb=>⟨rfl,I.turned (t':=s.toks) (fun b o hb e=>eb b o hb e) f0 f1 f3 f4 f5⟩
  self:=fun _ _ _ _ _ st h=>wpAny_pyIter_rangeiter st h
end L2
namespace L2
open PySem PySem.Spec PyProof.Rows
section
variable {X:Cx} {tg:Expr}
theorem zMX {pins:List (Addr × Obj)} {σ:St} {H:Hp} {s:Shared} {R:It→Hp→Prop} {E:Value→Shared→Prop} {lo hi:Int} {t u v:Tok} {tk:Nat} (I:Inv X pins σ H s) (h1:-(2 ^ 62)≤lo) (h2:lo < 2 ^ 62) (h3:-(2 ^ 62)≤hi) (h4:hi < 2 ^ 62)
    (q:R (Itr lo (hi - lo).toNat) H):wpAny (model X.prog X.w) X.A (pyIter (.ref s.heap.objs.size)) (PIE X pins σ tg R) E { s with heap:=s.heap.push { cls:=.type "range",data:=.fields #[.int lo t,.int hi u,.int 1 v] },toks:=tk }:=by
  refine wpAny_pyIter_range (IsRange.new ..) (small_one h1 h2 h3 h4) ?_
  have I1:Inv X pins σ H { s with heap:=s.heap.push { cls:=.type "range",data:=.fields #[.int lo t,.int hi u,.int 1 v] },toks:=tk }:=I.kept fun b o e=>Heap.get?_push_of_some _ e
  refine ⟨(s.heap.push { cls:=.type "range",data:=.fields #[.int lo t,.int hi u,.int 1 v] }).objs.size,[(s.heap.push { cls:=.type "range",data:=.fields #[.int lo t,.int hi u,.int 1 v] }).objs.size],_,_,H,rfl,
    I1.kept (t':=tk) fun b o e=>Heap.get?_push_of_some _ e,zNO _ lo (hi - lo).toNat,?_,fun b hb=>?_,q⟩
  · have e1:lo + ((0:Nat):Int) * 1 = lo:=by simp
    have e2:(((hi - lo).toNat:Nat):Int) - ((0:Nat):Int) = Builtin.Range.rangeSize lo hi 1:=by rw [rangeSize_one]; split <;> omega
    show IsRangeIter _ _ (lo + ((0:Nat):Int) * 1) ((((hi - lo).toNat:Nat):Int) - ((0:Nat):Int)) 1
    rw [e1,e2]
    exact Heap.get?_push_size _ rfl
  · have e:b = (s.heap.push { cls:=.type "range",data:=.fields #[.int lo t,.int hi u,.int 1 v] }).objs.size:=by simpa using hb
    subst e
    exact I1.fpOk (Nat.le_refl _) (I1.hok.fresh (Nat.le_refl _))
def zX7 (ta:TA):TI:=fun σ H R=>ta σ H fun vs H1=>∃ j:Int,vs = [.int j]∧-(2 ^ 62)≤j∧j < 2 ^ 62∧R (Itr 0 j.toNat) H1
def zX6 (ta:TA):TI:=fun σ H R=>ta σ H fun vs H1=>∃ i j:Int,vs = [.int i,.int j]∧(-(2 ^ 62)≤i∧i < 2 ^ 62∧-(2 ^ 62)≤j∧j < 2 ^ 62)∧R (Itr i (j - i).toNat) H1
theorem zAX {a:Expr} {ta:TA} {p pos:Pos} (hg:Gl X "range") (hm:X.mg "range" = none) (ha:PA X [a] ta) (hs:starEach [a] X.env = [(false,eval a X.env)]:=by rfl):PI X tg (.Call (.Name "range" p) [a] [] pos) (zX7 ta):=by
  intro pins s σ H R I h
  refine Call_ (zGJ I hg hm boot_range (PyProof.Rows.callWith_type1 (thn (ha pos pins s σ H _ I h) fun us s1 ⟨vs,H1,I1,r1,q1⟩=>?_) hs rfl))
  obtain ⟨j,e,q1,q2,q⟩:=q1
  subst e
  cases r1 with
  | cons r rr =>
    cases rr
    obtain ⟨t,rfl⟩:=r
    exact call_range_1 (zMX I1 (by omega) (by omega) q1 q2 (by simpa using q))
theorem zKJ {a b:Expr} {ta:TA} {p pos:Pos} (hg:Gl X "range") (hm:X.mg "range" = none) (ha:PA X [a,b] ta) (hs:starEach [a,b] X.env = [(false,eval a X.env),(false,eval b X.env)]:=by rfl) (hs2:starEach [b] X.env = [(false,eval b X.env)]:=by rfl) :
    PI X tg (.Call (.Name "range" p) [a,b] [] pos) (zX6 ta):=by
  intro pins s σ H R I h
  refine Call_ (zGJ I hg hm boot_range (PyProof.Rows.callWith_type1 (thn (ha pos pins s σ H _ I h) fun us s1 ⟨vs,H1,I1,r1,q1⟩=>?_) (by rw [hs,hs2]) (by rw [hs2]; rfl)))
  obtain ⟨i,j,e,⟨q1,q2,q3,q4⟩,q⟩:=q1
  subst e
  cases r1 with
  | cons r rr =>
    cases rr with
    | cons r' rr =>
      cases rr
      obtain ⟨t,rfl⟩:=r
      obtain ⟨t',rfl⟩:=r'
      exact call_range_2 (zMX I1 q1 q2 q3 q4 q)
noncomputable def tFor (wi:TI) (g:TG) (tb:TS):TS:=fun D σ H=>wi σ H fun J H1=>∃ W:Nat→Nat→St→Hp→Prop,(∃ m,W 0 m σ H1)∧∀ i m σ H,W i m σ H →
  (J.stop i H∧D.nx σ H)∨(J.go i H∧∃ N:St→Hp→Prop,(∀ σ' H',N σ' H'→∃ m',m' < m∧W (i + 1) m' σ' H')∧∀ x H',J.yld i H x H'→g x σ H' fun σ2 H2=>tb { D with nx:=N,ct:=N,bk:=D.nx } σ2 H2)
noncomputable def zIL (fp:List Addr) (h:Heap):List (Addr × Obj):=fp.filterMap fun b=>(h.get? b).map fun o=>(b,o)
theorem zEN {fp:List Addr} {h:Heap} {b:Addr} {o:Obj} (hb:b∈fp) (e:h.get? b = some o):(b,o)∈zIL fp h:=List.mem_filterMap.mpr ⟨b,hb,by rw [e]; rfl⟩
theorem zPM {fp:List Addr} {h:Heap} {p:Addr × Obj} (hp:p∈zIL fp h):p.1∈fp∧h.get? p.1 = some p.2:=by
  obtain ⟨b,hb,e⟩:=List.mem_filterMap.mp hp
  cases q:h.get? b with
  | none=>rw [q] at e; cases e
  | some o =>
    rw [q] at e
    have e':(b,o) = p:=Option.some.inj e
    subst e'
    exact ⟨hb,q⟩
theorem Inv.pinned {pins:List (Addr × Obj)} {σ:St} {H:Hp} {s:Shared} {fp:List Addr} (I:Inv X pins σ H s) (hf:∀ b∈fp,FpOk X pins H b) (ho:∀ b∈fp,∃ o,s.heap.get? b = some o∧∀ v,o.data≠.cell v):Inv X (pins ++ zIL fp s.heap) σ H s :=
  I.pins_of fun p hp=>(List.mem_append.mp hp).elim (fun z=>I.pin p (List.mem_append_right _ z)) fun z=>by
    obtain ⟨hb,e⟩:=zPM z
    obtain ⟨f0,f1,f2,_⟩:=hf p.1 hb
    obtain ⟨o,e',d⟩:=ho p.1 hb
    rw [e] at e'; cases e'
    exact ⟨e,f0,f1,f2,d⟩
theorem Inv.unpinned {pins pl:List (Addr × Obj)} {σ:St} {H:Hp} {s:Shared} (I:Inv X (pins ++ pl) σ H s):Inv X pins σ H s:=I.pins_of fun p hp=>I.pin p (List.mem_append_right _ (List.mem_append_left _ hp))
theorem zWA {iter:Expr} {body:List Stmt} {wi:TI} {g:TG} {tb:TS} {pos:Pos} (hp:PassesOwn (model X.prog X.w) X.A X.env X.xe) (hc:X.calm = true) (hi:PI X tg iter wi) (hg:PG X tg g) (hb:PSs X body tb)
    (hs:∀ x,foldedSetIterable iter X.env x = pure x:=by intro _; rfl):PS X (.For tg iter body [] pos) (tFor wi g tb):=by
  intro pins s σ H D I h
  refine wpAny_For (thn (hi pins s σ H _ I h) fun v s1 h1=>thn h1 fun itv s2 h2=>?_) hs
  obtain ⟨it,fp,tn,J,H2,e,I2,T,st2,f2,W,⟨m0,w0⟩,turn⟩:=h2
  subst e
  have stat:∀ {H':Hp},(∀ b∈fp,H' b = none)→∀ b∈fp,FpOk X pins H' b:=fun hn b hb=>⟨hn b hb,(f2 b hb).2⟩
  refine codeAny_forLoop_any (fun n s'=>∃ i σ' H',Inv X pins σ' H' s'∧tn i s'.heap∧(∀ b∈fp,H' b = none)∧W i n σ' H') ?_ m0 ⟨0,σ,H2,I2,st2,fun b hb=>(f2 b hb).1,w0⟩
  rintro n s3 ⟨i,σ3,H3,I3,st3,fr3,w3⟩
  rcases turn i n σ3 H3 w3 with ⟨stop,qn⟩ | ⟨go,N,hN,step⟩
  · refine wpAny_passesOwn hp (thn (T.done X rfl rfl rfl hc i pins s3 σ3 H3 X.xe I3 (stat fr3) st3 stop) fun r s4 ⟨hr,I4⟩=>?_)
    subst hr
    exact wpAny_execs_nil ⟨σ3,H3,I4,qn⟩
  · refine wpAny_passesOwn hp (thn (T.item X rfl rfl rfl hc i pins s3 σ3 H3 X.xe I3 (stat fr3) st3 go) fun r s4 ⟨u,hr,h4⟩=>?_)
    subst hr
    refine wpAny_passesOwn hp (thn h4 fun _ s5 ⟨x,H5,I5,r5,y5,st5,fr5⟩=>?_)
    have I5':=I5.pinned (stat fr5) (T.obj _ _ st5)
    refine wpAny_passesOwn hp (thn (hg _ s5 σ3 H5 x u _ I5' r5 (step x H5 y5)) fun _ s6 ⟨σ6,H6,I6,q6⟩=>?_)
    refine wpAny_passesOwn hp (thn (hb _ s6 σ6 H6 _ I6 q6) fun f s7 q7=>?_)
    have again:∀ {σ7:St} {H7:Hp},Inv X (pins ++ zIL fp s5.heap) σ7 H7 s7→N σ7 H7→∃ m,m < n∧∃ i σ' H',Inv X pins σ' H' s7∧tn i s7.heap∧(∀ b∈fp,H' b = none)∧W i m σ' H':=fun {σ7 H7} I7 n7=>by
      obtain ⟨m',hm,w7⟩:=hN σ7 H7 n7
      refine ⟨m',hm,i + 1,σ7,H7,I7.unpinned,T.keep _ _ _ st5 fun b hb o e=>(I7.pin (b,o) (List.mem_append_right _ (List.mem_append_right _ (zEN hb e)))).1,fun b hb=>?_,w7⟩
      obtain ⟨o,e,d⟩:=T.obj _ _ st5 b hb
      exact (I7.pin (b,o) (List.mem_append_right _ (List.mem_append_right _ (zEN hb e)))).2.1
    cases f with
    | next=>obtain ⟨σ7,H7,I7,n7⟩:=q7; exact again I7 n7
    | cont=>obtain ⟨σ7,H7,I7,n7⟩:=q7; exact again I7 n7
    | brk=>obtain ⟨σ7,H7,I7,q7⟩:=q7; exact ⟨σ7,H7,I7.unpinned,q7⟩
    | ret v=>obtain ⟨x7,σ7,H7,I7,r7,q7⟩:=q7; exact ⟨x7,σ7,H7,I7.unpinned,r7,q7⟩
end
end L2
namespace L2
open PySem PySem.Spec PyProof.Rows
abbrev R2:=V→V→Hp→VK→Prop
def OpR (X:Cx) (f:Value→Value→Sem Value) (r:R2):Prop :=
  ∀ (pins:List (Addr × Obj)) (s:Shared) (σ:St) (H:Hp) (x y:V) (v u:Value) (Q:VK),Inv X pins σ H s→RelV x v→RelV y u→r x y H Q →
    wpAny (model X.prog X.w) X.A (f v u) (EP X pins σ Q) X.xe s
def UnR (X:Cx) (f:Value→Sem Value) (r:V→Hp→VK→Prop):Prop :=
  ∀ (pins:List (Addr × Obj)) (s:Shared) (σ:St) (H:Hp) (x:V) (v:Value) (Q:VK),Inv X pins σ H s→RelV x v→r x H Q →
    wpAny (model X.prog X.w) X.A (f v) (EP X pins σ Q) X.xe s
def zD3 (X:Cx) (f:Value) (r:List V→Hp→VK→Prop):Prop :=
  ∀ (pins:List (Addr × Obj)) (s:Shared) (σ:St) (H:Hp) (xs:List V) (us:List Value) (Q:VK),Inv X pins σ H s→Vals xs us→r xs H Q →
    wpAny (model X.prog X.w) X.A (call f us) (EP X pins σ Q) X.xe s
def TruR (X:Cx) (r:V→Hp→(Bool→Hp→Prop)→Prop):Prop :=
  ∀ (pins:List (Addr × Obj)) (s:Shared) (σ:St) (H:Hp) (x:V) (v:Value) (Q:Bool→Hp→Prop),Inv X pins σ H s→RelV x v→r x H Q →
    wpAny (model X.prog X.w) X.A (truthy v) (TP X pins σ Q) X.xe s
noncomputable def tOp (r:R2) (ta tb:TE):TE:=fun σ H Q=>ta σ H fun x H1=>tb σ H1 fun y H2=>r x y H2 Q
noncomputable def tUn (r:V→Hp→VK→Prop) (ta:TE):TE:=fun σ H Q=>ta σ H fun x H1=>r x H1 Q
noncomputable def rI (C:Int→Int→Prop) (g:Int→Int→V):R2:=fun x y H Q=>∃ i j,x = .int i∧y = .int j∧C i j∧Q (g i j) H
noncomputable def rI0 (g:Int→Int→V):R2:=fun x y H Q=>∃ i j,x = .int i∧y = .int j∧Q (g i j) H
def rU (g:Int→V):V→Hp→VK→Prop:=fun x H Q=>∃ i,x = .int i∧Q (g i) H
section
variable {X:Cx} {a b c:Expr} {ta tb tc:TE} {pos:Pos}
theorem binT (ha:PE X a ta) (hb:PE X b tb) {pins:List (Addr × Obj)} {s:Shared} {σ:St} {H:Hp} {R:V→V→Hp→Prop} (I:Inv X pins σ H s)
    (h:ta σ H fun x H1=>tb σ H1 fun y H2=>R x y H2) {Q:Value→Shared→Prop} {f:Value→Value→Sem Value}
    (hf:∀ v u s2 x y H2,Inv X pins σ H2 s2→RelV x v→RelV y u→R x y H2→wpAny (model X.prog X.w) X.A (f v u) Q X.xe s2) :
    wpAny (model X.prog X.w) X.A (eval a X.env) (fun v s₁=>wpAny (model X.prog X.w) X.A (eval b X.env) (fun u s₂=>wpAny (model X.prog X.w) X.A (f v u) Q X.xe s₂) X.xe s₁) X.xe s:=by
  refine thn (ha pins s σ H _ I h) fun v s1 ⟨x,H1,I1,r1,q1⟩=>?_
  refine thn (hb pins s1 σ H1 _ I1 q1) fun u s2 ⟨y,H2,I2,r2,q2⟩=>?_
  exact hf v u s2 x y H2 I2 r1 r2 q2
theorem zAK {op:Operator} {r:R2} (ho:OpR X (binaryOp op) r) (ha:PE X a ta) (hb:PE X b tb):PE X (.BinOp a op b pos) (tOp r ta tb):=by
  intro pins s σ H Q I h
  exact wpAny_BinOp (binT ha hb I h fun v u s2 x y H2 I2 rx ry q=>ho pins s2 σ H2 x y v u Q I2 rx ry q)
theorem zYC {op:UnaryOp} {r:V→Hp→VK→Prop} (ho:UnR X (unaryOp op) r) (ha:PE X a ta):PE X (.UnaryOp op a pos) (tUn r ta):=by
  intro pins s σ H Q I h
  exact UnaryOp_ (thn (ha pins s σ H _ I h) fun v s1 ⟨x,H1,I1,r1,q1⟩=>ho pins s1 σ H1 x v Q I1 r1 q1)
theorem opI {f:Value→Value→Sem Value} {C:Int→Int→Prop} {g:Int→Int→Int}
    (rule:∀ (i j:Int) (t u:Tok) (s:Shared) (Q:Value→Shared→Prop) (E:Value→Shared→Prop),C i j→Q (.int (g i j) s.toks) { s with toks:=s.toks + 1 }→wpAny (model X.prog X.w) X.A (f (.int i t) (.int j u)) Q E s) :
    OpR X f (rI C fun i j=>.int (g i j)):=by
  intro pins s σ H x y v u Q I rx ry h
  obtain ⟨i,j,rfl,rfl,hc,q⟩:=h
  obtain ⟨t,rfl⟩:=rx
  obtain ⟨t',rfl⟩:=ry
  exact rule i j t t' s _ _ hc ⟨.int (g i j),H,I.tok _,⟨_,rfl⟩,q⟩
theorem opI0 {f:Value→Value→Sem Value} {g:Int→Int→Int}
    (rule:∀ (i j:Int) (t u:Tok) (s:Shared) (Q:Value→Shared→Prop) (E:Value→Shared→Prop),Q (.int (g i j) s.toks) { s with toks:=s.toks + 1 }→wpAny (model X.prog X.w) X.A (f (.int i t) (.int j u)) Q E s) :
    OpR X f (rI0 fun i j=>.int (g i j)):=by
  intro pins s σ H x y v u Q I rx ry h
  obtain ⟨i,j,rfl,rfl,q⟩:=h
  obtain ⟨t,rfl⟩:=rx
  obtain ⟨t',rfl⟩:=ry
  exact rule i j t t' s _ _ ⟨.int (g i j),H,I.tok _,⟨_,rfl⟩,q⟩
theorem opB0 {f:Value→Value→Sem Value} {g:Int→Int→Bool}
    (rule:∀ (i j:Int) (t u:Tok) (s:Shared) (Q:Value→Shared→Prop) (E:Value→Shared→Prop),Q (.bool (g i j)) s→wpAny (model X.prog X.w) X.A (f (.int i t) (.int j u)) Q E s) :
    OpR X f (rI0 fun i j=>.bl (g i j)):=by
  intro pins s σ H x y v u Q I rx ry h
  obtain ⟨i,j,rfl,rfl,q⟩:=h
  obtain ⟨t,rfl⟩:=rx
  obtain ⟨t',rfl⟩:=ry
  exact rule i j t t' s _ _ ⟨.bl (g i j),H,I,rfl,q⟩
def CPow (i j:Int):Prop:=0≤j∧j≤1000000∧i.natAbs < 2 ^ 64
def CMul (i j:Int):Prop:=(-(2 ^ 64) < i∧i < 2 ^ 64)∨(-(2 ^ 64) < j∧j < 2 ^ 64)
theorem CMul.ok {i j:Int} (h:CMul i j):IntMulOk i j:=by
  rcases h with ⟨h1,h2⟩ | ⟨h1,h2⟩
  · exact .of_left (intBits_le_64 h1 h2)
  · exact .of_right (intBits_le_64 h1 h2)
theorem zWO:OpR X (binaryOp .Add) (rI0 fun i j=>.int (i + j)):=opI0 fun _ _ _ _ _ _ _ q=>add_int q
theorem zWI:OpR X (binaryOp .Sub) (rI0 fun i j=>.int (i - j)):=opI0 fun _ _ _ _ _ _ _ q=>sub_int q
theorem zWL:OpR X (binaryOp .Mod) (rI (fun _ j=>0 < j) fun i j=>.int (i % j)):=opI fun i j _ _ _ _ _ hc q=>by
  have h1:(0:Int) < j:=hc
  exact mod_int' (by omega) (by rw [Int.fmod_eq_emod_of_nonneg i (by omega)]; exact q)
theorem zWJ:OpR X (binaryOp .Pow) (rI CPow fun i j=>.int (i ^ j.toNat)):=opI fun _ _ _ _ _ _ _ hc q=>pow_int_small hc.1 hc.2.1 hc.2.2 q
theorem zWH:OpR X (binaryOp .BitXor) (rI0 fun i j=>.int (Builtin.bitXor i j)):=opI0 fun _ _ _ _ _ _ _ q=>xor_int q
theorem unI {f:Value→Sem Value} {g:Int→Int}
    (rule:∀ (i:Int) (t:Tok) (s:Shared) (Q:Value→Shared→Prop) (E:Value→Shared→Prop),Q (.int (g i) s.toks) { s with toks:=s.toks + 1 }→wpAny (model X.prog X.w) X.A (f (.int i t)) Q E s) :
    UnR X f (rU fun i=>.int (g i)):=by
  intro pins s σ H x v Q I rx h
  obtain ⟨i,rfl,q⟩:=h
  obtain ⟨t,rfl⟩:=rx
  exact rule i t s _ _ ⟨.int (g i),H,I.tok _,⟨_,rfl⟩,q⟩
theorem zVJ:UnR X (unaryOp .USub) (rU fun i=>.int (-i)):=unI fun _ _ _ _ _ q=>neg_int q
end
noncomputable def scal:V→V→Bool
  | .non,.non=>true | .non,.int _=>true | .int _,.non=>true | .non,.bl _=>true | .bl _,.non=>true | .non,.str _=>true | .str _,.non=>true
  | .int _,.int _=>true | .bl _,.bl _=>true | .str _,.str _=>true | .byt _,.byt _=>true
  | .int _,.str _=>true | .str _,.int _=>true | .bl _,.str _=>true | .str _,.bl _=>true
  | _,_=>false
def rEq:R2:=fun x y H Q=>scal x y = true∧Q (.bl (decide (x = y))) H
def rNe:R2:=fun x y H Q=>scal x y = true∧Q (.bl (!decide (x = y))) H
theorem zQ8 {i j:Int}:decide (V.int i = V.int j) = (i == j):=by
  rw [Bool.eq_iff_iff]
  simp
theorem dec_bl {i j:Bool}:decide (V.bl i = V.bl j) = (i == j):=by
  rw [Bool.eq_iff_iff]
  simp
theorem zQ7 {i j:Str}:decide (V.str i = V.str j) = (i == j):=by
  rw [Bool.eq_iff_iff]
  simp
theorem zQ9 {i j:Array UInt8}:decide (V.byt i = V.byt j) = (i.toList == j.toList):=by
  rw [Bool.eq_iff_iff]
  cases i
  cases j
  simp
section
variable {X:Cx} {a b c:Expr} {ta tb tc:TE} {pos:Pos}
theorem fin_bl {pins:List (Addr × Obj)} {σ:St} {H:Hp} {s:Shared} {Q:VK} {k k':Bool} (I:Inv X pins σ H s) (q:Q (.bl k) H) (e:k = k'):EP X pins σ Q (.bool k') s:=by
  subst e
  exact ⟨.bl k,H,I,rfl,q⟩
theorem zYI:OpR X (compareOp .Eq) rEq:=by
  intro pins s σ H x y v u Q I rx ry h
  obtain ⟨hs,q⟩:=h
  cases x with
  | non =>
    cases rx
    cases y with
    | non=>cases ry; exact PySem.EqNone.eq_none_none (fin_bl I q (by simp))
    | bl j=>cases ry; exact PySem.EqNone.eq_none_bool (fin_bl I q (by simp))
    | int j=>obtain ⟨t',rfl⟩:=ry; exact PySem.EqNone.eq_none_int (fin_bl I q (by simp))
    | str j=>obtain ⟨t',rfl⟩:=ry; exact PySem.EqNone.eq_none_str (fin_bl I q (by simp))
    | _=>exact absurd (show false = true from hs) Bool.false_ne_true
  | bl i =>
    cases rx
    cases y with
    | non=>cases ry; exact PySem.EqNone.eq_bool_none (fin_bl I q (by simp))
    | bl j=>cases ry; exact eq_bool (fin_bl I q dec_bl)
    | str j=>obtain ⟨t',rfl⟩:=ry; exact PySem.EqMixed.eq_bool_str (fin_bl I q (by simp))
    | _=>exact absurd (show false = true from hs) Bool.false_ne_true
  | int i =>
    obtain ⟨t,rfl⟩:=rx
    cases y with
    | non=>cases ry; exact PySem.EqNone.eq_int_none (fin_bl I q (by simp))
    | int j=>obtain ⟨t',rfl⟩:=ry; exact eq_int (fin_bl I q zQ8)
    | str j=>obtain ⟨t',rfl⟩:=ry; exact PySem.EqMixed.eq_int_str (fin_bl I q (by simp))
    | _=>exact absurd (show false = true from hs) Bool.false_ne_true
  | str i =>
    obtain ⟨t,rfl⟩:=rx
    cases y with
    | non=>cases ry; exact PySem.EqNone.eq_str_none (fin_bl I q (by simp))
    | bl j=>cases ry; exact PySem.EqMixed.eq_str_bool (fin_bl I q (by simp))
    | int j=>obtain ⟨t',rfl⟩:=ry; exact PySem.EqMixed.eq_str_int (fin_bl I q (by simp))
    | str j=>obtain ⟨t',rfl⟩:=ry; exact eq_str (fin_bl I q zQ7)
    | _=>exact absurd (show false = true from hs) Bool.false_ne_true
  | byt i =>
    obtain ⟨t,rfl⟩:=rx
    cases y with
    | byt j=>obtain ⟨t',rfl⟩:=ry; exact PySem.W.eq_bytes (fin_bl I q zQ9)
    | _=>exact absurd (show false = true from hs) Bool.false_ne_true
  | _=>cases y <;> exact absurd (show false = true from hs) Bool.false_ne_true
theorem zYF:OpR X (compareOp .NotEq) rNe:=by
  intro pins s σ H x y v u Q I rx ry h
  obtain ⟨hs,q⟩:=h
  cases x with
  | non =>
    cases rx
    cases y with
    | non=>cases ry; exact PySem.EqNone.ne_none_none (fin_bl I q (by simp))
    | bl j=>cases ry; exact PySem.EqNone.ne_none_bool (fin_bl I q (by simp))
    | int j=>obtain ⟨t',rfl⟩:=ry; exact PySem.EqNone.ne_none_int (fin_bl I q (by simp))
    | str j=>obtain ⟨t',rfl⟩:=ry; exact PySem.EqNone.ne_none_str (fin_bl I q (by simp))
    | _=>exact absurd (show false = true from hs) Bool.false_ne_true
  | bl i =>
    cases rx
    cases y with
    | non=>cases ry; exact PySem.EqNone.ne_bool_none (fin_bl I q (by simp))
    | bl j=>cases ry; exact ne_bool (fin_bl I q (congrArg not dec_bl))
    | str j=>obtain ⟨t',rfl⟩:=ry; exact PySem.EqMixed.ne_bool_str (fin_bl I q (by simp))
    | _=>exact absurd (show false = true from hs) Bool.false_ne_true
  | int i =>
    obtain ⟨t,rfl⟩:=rx
    cases y with
    | non=>cases ry; exact PySem.EqNone.ne_int_none (fin_bl I q (by simp))
    | int j=>obtain ⟨t',rfl⟩:=ry; exact ne_int (fin_bl I q (congrArg not zQ8))
    | str j=>obtain ⟨t',rfl⟩:=ry; exact PySem.EqMixed.ne_int_str (fin_bl I q (by simp))
    | _=>exact absurd (show false = true from hs) Bool.false_ne_true
  | str i =>
    obtain ⟨t,rfl⟩:=rx
    cases y with
    | non=>cases ry; exact PySem.EqNone.ne_str_none (fin_bl I q (by simp))
    | bl j=>cases ry; exact PySem.EqMixed.ne_str_bool (fin_bl I q (by simp))
    | int j=>obtain ⟨t',rfl⟩:=ry; exact PySem.EqMixed.ne_str_int (fin_bl I q (by simp))
    | str j=>obtain ⟨t',rfl⟩:=ry; exact ne_str (fin_bl I q (congrArg not zQ7))
    | _=>exact absurd (show false = true from hs) Bool.false_ne_true
  | byt i =>
    obtain ⟨t,rfl⟩:=rx
    cases y with
    | byt j=>obtain ⟨t',rfl⟩:=ry; exact PySem.W.ne_bytes (fin_bl I q (congrArg not zQ9))
    | _=>exact absurd (show false = true from hs) Bool.false_ne_true
  | _=>cases y <;> exact absurd (show false = true from hs) Bool.false_ne_true
theorem zYG:OpR X (compareOp .Lt) (rI0 fun i j=>.bl (decide (i < j))):=opB0 fun _ _ _ _ _ _ _ q=>lt_int q
theorem zYH:OpR X (compareOp .Gt) (rI0 fun i j=>.bl (decide (j < i))):=opB0 fun _ _ _ _ _ _ _ q=>gt_int q
theorem zPJ:OpR X (compareOp .In) (fun x y H Q=>∃ i j,x = .str i∧y = .str j∧Q (.bl (!(Builtin.Str.occurrences j i 0 j.length 1).isEmpty)) H):=by
  intro pins s σ H x y v u Q I rx ry h
  obtain ⟨i,j,rfl,rfl,q⟩:=h
  obtain ⟨t,rfl⟩:=rx
  obtain ⟨t',rfl⟩:=ry
  exact in_str (fin_bl I q rfl)
theorem zUA:OpR X (compareOp .IsNot) (fun x y H Q=>y = .non∧Q (.bl (!decide (x = .non))) H):=by
  intro pins s σ H x y v u Q I rx ry h
  obtain ⟨rfl,q⟩:=h
  cases ry
  refine isnot_none_gen (fin_bl I q ?_)
  cases x <;> first
    | (cases rx; rfl)
    | (obtain ⟨t,rfl⟩:=rx; rfl)
theorem zB9 (b:Expr) {op:CmpOp} (h:op≠.In:=by decide) (h2:op≠.NotIn:=by decide):behindInMarks op b = false:=by
  have e1:(op == CmpOp.In) = false:=by cases op <;> first | rfl | exact absurd rfl h
  have e2:(op == CmpOp.NotIn) = false:=by cases op <;> first | rfl | exact absurd rfl h2
  cases b <;> simp [behindInMarks,e1,e2]
theorem zG7 {op:CmpOp} {r:R2} (ho:OpR X (compareOp op) r) (ha:PE X a ta) (hb:PE X b tb) (hm:behindInMarks op b = false):PE X (.Compare a [op] [b] pos) (tOp r ta tb):=by
  intro pins s σ H Q I h
  exact wpAny_Compare1 (binT ha hb I h fun v u s2 x y H2 I2 rx ry q=>ho pins s2 σ H2 x y v u Q I2 rx ry q) hm
def TruV (K:PySem.W.Frag) (x:V) (H:Hp) (k:Bool):Prop :=
  match x with
  | .non=>k = false
  | .bl b=>k = b
  | .int i=>k = (i != 0)
  | .str y=>y.length≤sizeLine∧k = ((y.length:Int) != 0)
  | .byt y=>y.size≤sizeLine∧k = ((y.size:Int) != 0)
  | .ref p=>(∃ xs,SqL K H p xs∧k = !xs.isEmpty)∨(∃ xs,SqT K H p xs∧k = !xs.isEmpty)∨∃ kvs,H p = some (.dK kvs)∧k = !kvs.isEmpty
  | _=>False
theorem zO5 {κ:Type} {kvs:List (κ × V)} {vs:List (κ × Value)} (r:KV kvs vs):(!vs.isEmpty) = !kvs.isEmpty:=by
  cases r <;> rfl
theorem zIP {xs:List V} {its:List Value} (r:Vals xs its):(!its.toArray.isEmpty) = !xs.isEmpty:=by
  cases r <;> simp
theorem zHK:(sizeLine:Nat) < 2 ^ 63:=by rw [sizeLine_eq]; decide
theorem zSQ:TruR X (fun x H Q=>∃ k,TruV X.K x H k∧Q k H):=by
  intro pins s σ H x v Q I rx h
  obtain ⟨k,e,q⟩:=h
  have hl:=zHK
  have hs:sizeLine = 16777216:=sizeLine_eq
  cases x with
  | non =>
    cases rx
    have e':k = false:=e
    subst e'
    exact truthy_none ⟨H,I,q⟩
  | bl b =>
    cases rx
    have e':k = b:=e
    subst e'
    exact wpAny_truthy_bool ⟨H,I,q⟩
  | int i =>
    obtain ⟨t,rfl⟩:=rx
    have e':k = (i != 0):=e
    subst e'
    exact PySem.P.truthy_int ⟨H,I,q⟩
  | str y =>
    obtain ⟨t,rfl⟩:=rx
    obtain ⟨hy,e'⟩:y.length≤sizeLine∧k = ((y.length:Int) != 0):=e
    subst e'
    exact PySem.P.truthy_str (by omega) ⟨H,I.tok _,q⟩
  | byt y =>
    obtain ⟨t,rfl⟩:=rx
    obtain ⟨hy,e'⟩:y.size≤sizeLine∧k = ((y.size:Int) != 0):=e
    subst e'
    exact PySem.W.truthy_bytes (by omega) ⟨H,I.tok _,q⟩
  | ref p =>
    cases rx
    have e':(∃ xs,SqL X.K H p xs∧k = !xs.isEmpty)∨(∃ xs,SqT X.K H p xs∧k = !xs.isEmpty)∨∃ kvs,H p = some (.dK kvs)∧k = !kvs.isEmpty:=e
    rcases e' with ⟨xs,hx,e'⟩ | ⟨xs,hx,e'⟩ | ⟨kvs,hx,e'⟩
    · subst e'
      obtain ⟨its,r,pl,hz⟩:=I.list hx
      have hlen:=r.length
      exact wpAny_truthy_list pl.isList (by simp only [List.size_toArray]; omega) ⟨H,I.tok _,by rw [zIP r]; exact q⟩
    · subst e'
      obtain ⟨its,r,pl,hz⟩:=I.tuple hx
      have hlen:=r.length
      exact truthy_tuple pl (by simp only [List.size_toArray]; omega) ⟨H,I.tok _,by rw [zIP r]; exact q⟩
    · subst e'
      obtain ⟨hz,hS,vs,r,m⟩:kvs.length≤sizeLine∧(p == sysModules) = false∧∃ vs,KV kvs vs∧s.heap.DictOf (zM3 X.prog X.w) p vs:=I.hok p _ hx
      have hlen:kvs.length = vs.length:=Paired.length r
      exact wpAny_truthy_dict hS m (by omega) ⟨H,I.tok _,by rw [zO5 r]; exact q⟩
  | _=>exact (show False from e).elim
theorem zNV:OpR X (binaryOp .Add) (fun x y H Q=>∃ i j,x = .str i∧y = .str j∧i.length + j.length≤sizeLine∧Q (.str (i ++ j)) H):=by
  intro pins s σ H x y v u Q I rx ry h
  obtain ⟨i,j,rfl,rfl,hz,q⟩:=h
  obtain ⟨t,rfl⟩:=rx
  obtain ⟨t',rfl⟩:=ry
  exact add_str (fun t' tk=>⟨.str (i ++ j),H,I.tok _,⟨_,rfl⟩,q⟩) hz
theorem zI8 {x:V} {us:List Value} (r:Vals [x] us):∃ u,us = [u]∧RelV x u:=by
  cases r with
  | cons r1 r2=>cases r2; exact ⟨_,rfl,r1⟩
theorem zQO {x y:V} {us:List Value} (r:Vals [x,y] us):∃ u w',us = [u,w']∧RelV x u∧RelV y w':=by
  cases r with
  | cons r1 r2 =>
    cases r2 with
    | cons r3 r4=>cases r4; exact ⟨_,_,rfl,r1,r3⟩
theorem zQF (hc:X.calm = true):zD3 X (.builtin "min") (fun xs H Q=>∃ i j,xs = [.int i,.int j]∧Q (.int (if j < i then j else i)) H):=by
  intro pins s σ H xs us Q I r h
  obtain ⟨i,j,rfl,q⟩:=h
  obtain ⟨u,w',rfl,⟨t,rfl⟩,⟨t',rfl⟩⟩:=zQO r
  refine min_two_ints (I.ok.hd hc) fun h' tk k=>⟨_,H,I.kept k,?_,q⟩
  by_cases hj:j < i
  · rw [if_pos hj,if_pos hj]; exact ⟨_,rfl⟩
  · rw [if_neg hj,if_neg hj]; exact ⟨_,rfl⟩
end
end L2
namespace L2
open PySem PySem.Spec PyProof.Rows
structure ObjM (h:Heap) (x dx C:Addr) (mA:Str→Option Value):Prop where
  obj:h.get? x = some (PySem.W.instObj C dx)
  ns:h.Ns1 dx mA
  ne:dx≠x
theorem zKT {h:Heap} {dx:Addr} {mA:Str→Option Value} (n:h.Ns1 dx mA):∃ od,h.get? dx = some od∧∀ name,PySem.W.lookIn name od = some (mA name):=by
  obtain ⟨o,es,ep,ho,hd,hk,_,hm⟩:=n
  refine ⟨o,ho,fun name=>?_⟩
  have e:=hm name
  unfold nsFind findBy at e
  rw [← Array.find?_toList] at e
  unfold PySem.W.lookIn
  rw [hd]
  dsimp only
  split
  · rename_i y q
    rw [q] at e
    exact congrArg some e
  · rename_i q
    rw [q] at e
    have a:es.toList.any (·.refKey) = false:=by
      rw [List.any_eq_false]
      intro y hy
      obtain ⟨z,t,hkey⟩:=hk y (Array.mem_toList_iff.mp hy)
      simp [DictEntry.refKey,hkey]
    have a':¬ es.toList.any (·.refKey) = true:=by rw [a]; exact Bool.false_ne_true
    rw [if_neg a']
    exact congrArg some e
theorem ObjM.look {h:Heap} {x dx C:Addr} {mA:Str→Option Value} (I:ObjM h x dx C mA):∃ od,PySem.W.InstAt h x (PySem.W.instObj C dx) C (some od)∧∀ name,PySem.W.lookIn name od = some (mA name) :=
  let ⟨od,ho,hl⟩:=zKT I.ns
  ⟨od,⟨I.obj,rfl,rfl,ho⟩,hl⟩
section
variable {prog:Program} {w:World} {A:Around} {E:Value→Shared→Prop} {s:Shared} {K:PySem.W.Frag} {x dx C f:Addr} {mA:Str→Option Value} {name:Str} {v:Value}
end
section
variable {P:Program} {w:World} {H H':Hp} {h h':Heap} {a C dx:Addr} {fs fs':List (Str × V)}
theorem zUS (hok:HOk P w H h) (e:H a = some (.ins C dx fs)):∃ mA,ObjM h a dx C mA∧(∀ f,RelO (fs.lookup f) (mA f))∧PySem.Within mA (fs.map (·.1))∧fs.length≤1000∧H dx = some (.own a):=by
  obtain ⟨d,z,ne,ob,mA,n,r,q⟩:=(show ObjOk P w H h a (.ins C dx fs) from hok a _ e)
  exact ⟨mA,⟨ob,n,ne⟩,r,q,z,d⟩
end
structure Cls (K:PySem.W.Frag) (C:Addr):Prop where
  pg:PySem.W.plainGet K C Str.empty = true
  hd:PySem.W.hasDictIn K C = true
  po:PySem.W.plainOver K C = true
  sa:PySem.W.findIn K (.ref C) "__setattr__" = some (some (.builtin "object.__setattr__"))
theorem Cls.get {K:PySem.W.Frag} {C:Addr} (c:Cls K C) (f:Str):PySem.W.plainGet K C f = true:=c.pg
def zTC (K:PySem.W.Frag) (C:Addr) (f:Str):Prop:=PySem.W.findIn K (.ref C) f = some none
structure Con (K:PySem.W.Frag) (C:Addr) (f:Str) (v:V) (u:Value):Prop where
  at_:PySem.W.findIn K (.ref C) f = some (some u)
  rel:RelV v u
  get:PySem.W.specialIn K u "__get__" = some none
  cp:PySem.W.copiedNames.contains f = false
structure Meth (K:PySem.W.Frag) (C:Addr) (m:Str) (f:Addr):Prop where
  at_:PySem.W.findIn K (.ref C) m = some (some (.ref f))
  fn:PySem.W.isFn K (.ref f) = true
  kp:PySem.W.keepIn K (.ref f) = true
section
variable {X:Cx} {pins:List (Addr × Obj)} {σ:St} {H:Hp} {s:Shared} {a C dx:Addr} {fs:List (Str × V)} {f:Str} {v:V} {A:Around} {E:Value→Shared→Prop}
end
section
variable {X:Cx} {o e value:Expr} {f:Str} {pos pos' tpos:Pos} {ta tv:TE}
end
section
variable {X:Cx} {pins:List (Addr × Obj)} {σ:St} {H:Hp} {s:Shared} {A:Around} {E:Value→Shared→Prop} {Q:Value→Shared→Prop} {c:Value} {b:Bool}
inductive TyOf (K:PySem.W.Frag) (H:Hp):V→Value→Prop where
  | non:TyOf K H .non (.type "NoneType")
  | bl (x:Bool):TyOf K H (.bl x) (.type "bool")
  | int (i:Int):TyOf K H (.int i) (.type "int")
  | str (x:Str):TyOf K H (.str x) (.type "str")
  | flt (x:UInt64):TyOf K H (.flt x) (.type "float")
  | lst {a:Addr} {xs:List V} (e:H a = some (.lst xs)):TyOf K H (.ref a) (.type "list")
  | frz {a:Addr} {o:Obj} {xs:List V} (e:H a = some (.frz o (.lst xs))):TyOf K H (.ref a) (.type "list")
  | tup {a:Addr} {xs:List V} (e:H a = some (.tup xs)):TyOf K H (.ref a) (.type "tuple")
  | dK {a:Addr} {kvs:List (Key × V)} (e:H a = some (.dK kvs)):TyOf K H (.ref a) (.type "dict")
  | dT {a:Addr} {kvs:List (List Key × V)} (e:H a = some (.dT kvs)):TyOf K H (.ref a) (.type "dict")
  | ins {a C dx:Addr} {fs:List (Str × V)} (e:H a = some (.ins C dx fs)) (cl:Cls K C) (ha:PySem.W.findIn K (.ref C) "__class__" = some (some (.builtin "object.__class__")))
      (hn:PySem.W.specialIn K (.builtin "object.__class__") "__get__" = some (some (.builtin "getset_descriptor.__get__"))) (htk:PySem.W.takesIn K (.builtin "object.__class__") = some true)
      (hm:PySem.W.mroIn K C (.type "object") = some true):TyOf K H (.ref a) (.ref C)
theorem zPU {x:V} {u t:Value} (I:Inv X pins σ H s) (rx:RelV x u) (ty:TyOf X.K H x t) (e:PySem.W.kitOne X.K t c = some b) (h:∀ tk,Q (.bool b) { s with toks:=tk }) :
    wpAny (model X.prog X.w) A (call (.builtin "isinstance") [u,c]) Q E s:=by
  cases ty with
  | non=>cases (show u = Value.none from rx); exact PySem.W.kia_one PySem.W.kitx_none I.kIn True.intro e (fun z=>nomatch z) h
  | bl y=>cases (show u = Value.bool y from rx); exact PySem.W.kia_one PySem.W.kitx_bool I.kIn True.intro e (fun z=>nomatch z) h
  | int i=>obtain ⟨t,q⟩:=(show ∃ t,u = Value.int i t from rx); cases q; exact PySem.W.kia_one PySem.W.kitx_int I.kIn True.intro e (fun z=>nomatch z) h
  | str y=>obtain ⟨t,q⟩:=(show ∃ t,u = Value.str y t from rx); cases q; exact PySem.W.kia_one PySem.W.kitx_str I.kIn True.intro e (fun z=>nomatch z) h
  | flt y=>obtain ⟨t,q⟩:=(show ∃ t,u = Value.float y t from rx); cases q; exact PySem.W.kia_one PySem.W.kitx_float I.kIn True.intro e (fun z=>nomatch z) h
  | @lst a xs ea =>
    cases (show u = Value.ref a from rx)
    obtain ⟨_,_,n,_,h1⟩:=(show ObjOk X.prog X.w H s.heap a (.lst xs) from I.hok a _ ea)
    exact PySem.W.kia_one PySem.W.kitx_list I.kIn ⟨_,h1,rfl⟩ e (fun z=>nomatch z) h
  | @frz a ob xs ea =>
    cases (show u = Value.ref a from rx)
    obtain ⟨_,_,_,n,_,h1⟩:=(show ObjOk X.prog X.w H s.heap a (.frz ob (.lst xs)) from I.hok a _ ea)
    exact PySem.W.kia_one PySem.W.kitx_list I.kIn ⟨_,h1,rfl⟩ e (fun z=>nomatch z) h
  | @tup a xs ea =>
    cases (show u = Value.ref a from rx)
    obtain ⟨_,_,_,p⟩:=(show ObjOk X.prog X.w H s.heap a (.tup xs) from I.hok a _ ea)
    obtain ⟨o,h1,h2,_⟩:=p
    exact PySem.W.kia_one PySem.W.kitx_tuple I.kIn ⟨o,h1,h2⟩ e (fun z=>nomatch z) h
  | @dK a kvs ea =>
    cases (show u = Value.ref a from rx)
    obtain ⟨_,_,vs,_,p⟩:=(show ObjOk X.prog X.w H s.heap a (.dK kvs) from I.hok a _ ea)
    obtain ⟨o,es,ep,h1,h2,_⟩:=p
    exact PySem.W.kia_one PySem.W.kitx_dict I.kIn ⟨o,h1,h2.1⟩ e (fun z=>nomatch z) h
  | @dT a kvs ea =>
    cases (show u = Value.ref a from rx)
    obtain ⟨_,_,xs,_,o,es,ep,h1,h2,_⟩:=(show ObjOk X.prog X.w H s.heap a (.dT kvs) from I.hok a _ ea)
    exact PySem.W.kia_one PySem.W.kitx_dict I.kIn ⟨o,h1,h2.1⟩ e (fun z=>nomatch z) h
  | @ins a C dx fs ea cl ha hn htk hm =>
    cases (show u = Value.ref a from rx)
    obtain ⟨mA,O,_⟩:=zUS I.hok ea
    obtain ⟨od,J,_⟩:=O.look
    exact PySem.W.kia_one (PySem.W.kitx_own (cl.get _) cl.hd ha hn htk hm) I.kIn J e (fun z=>nomatch z) h
end
end L2
namespace L2
open PySem PySem.Spec PyProof.Rows
structure Room (k:Nat) (A:Around):Prop where
  hd:A.handled = none
  dp:A.depth + 3 * k + 5 < recursionLimit
  un:A.units + 16 * k + 200 < cLine
theorem Room.mono {j k:Nat} {A:Around} (r:Room k A) (h:j≤k):Room j A:=⟨r.hd,by have:=r.dp; omega,by have:=r.un; omega⟩
theorem Room.deeper {k:Nat} {A:Around} (r:Room (k + 1) A) (env:Env):Room k (A.deeper env) :=
  ⟨r.hd,by have:=r.dp; show A.depth + 1 + 3 * k + 5 < _; omega,by have:=r.un; show A.units + 3 + 16 * k + 200 < _; omega⟩
theorem Room.depth {k:Nat} {A:Around} (r:Room k A):A.depth < recursionLimit:=by have:=r.dp; omega
theorem Room.units {k:Nat} {A:Around} (r:Room k A):A.units + 64 < cLine:=by have:=r.un; omega
noncomputable def tNil:TA:=fun _ H Q=>Q [] H
noncomputable def zI9 (ta:TE) (tr:TA):TA:=fun σ H Q=>ta σ H fun x H1=>tr σ H1 fun xs H2=>Q (x :: xs) H2
section
variable {X:Cx} {e:Expr} {es:List Expr} {te:TE} {t:TA} {pos:Pos}
theorem zA5:PA X [] tNil:=fun _ _ _ _ H Q I h=>Calls.spliced_nil ⟨[],H,I,.nil,h⟩
theorem zA1 (ha:PE X e te) (hr:PA X es t) (hs:starEach (e :: es) X.env = (false,eval e X.env) :: starEach es X.env:=by rfl):PA X (e :: es) (zI9 te t):=by
  intro pos pins s σ H Q I h
  rw [hs]
  show wpAny _ _ (spliced ((false,eval e X.env) :: backTo pos (starEach es X.env))) _ _ s
  refine Calls.spliced_cons (thn (ha pins s σ H _ I h) fun u s1 ⟨x,H1,I1,r1,q1⟩=>?_)
  exact thn (hr pos pins s1 σ H1 _ I1 q1) fun us s2 ⟨xs,H2,I2,r2,q2⟩=>⟨x :: xs,H2,I2,.cons r1 r2,q2⟩
def tTup (t:TA):TE:=fun σ H Q=>t σ H fun xs H1=>xs.length≤sizeLine∧∀ p,H1 p = none→Q (.ref p) (upd H1 p (.tup xs))
def tLst (t:TA):TE:=fun σ H Q=>t σ H fun xs H1=>xs.length≤sizeLine∧∀ p,H1 p = none→Q (.ref p) (upd H1 p (.lst xs))
theorem zWF {x1} (h:PA X es t):PE X (.Tuple es x1 pos) (tTup t):=by
  intro pins s σ H Q I hq
  refine wpAny_Tuple_spliced (thn (h pos pins s σ H _ I hq) fun us s1 ⟨xs,H1,I1,r,z,q⟩=>⟨by rw [← r.length]; exact z,?_⟩)
  have hf:H1 s1.heap.objs.size = none:=I1.hok.fresh (Nat.le_refl _)
  refine ⟨.ref s1.heap.objs.size,upd H1 s1.heap.objs.size (.tup xs),I1.laid (t':=s1.toks) (fun b u e=>Heap.get?_push_of_some _ e) (Nat.le_refl _) ?_,rfl,q _ hf⟩
  exact ⟨z,us,r,⟨_,Heap.get?_push_size _ rfl,rfl,_,rfl⟩⟩
theorem zEB (h:PA X es t):PE X (.List es pos) (tLst t):=by
  intro pins s σ H Q I hq
  refine wpAny_List_spliced (thn (h pos pins s σ H _ I hq) fun us s1 ⟨xs,H1,I1,r,z,q⟩=>⟨by rw [← r.length]; exact z,?_⟩)
  have hf:H1 s1.heap.objs.size = none:=I1.hok.fresh (Nat.le_refl _)
  refine ⟨.ref s1.heap.objs.size,upd H1 s1.heap.objs.size (.lst xs),I1.laid (t':=s1.toks) (fun b u e=>Heap.get?_push_of_some _ e) (Nat.le_refl _) ?_,rfl,q _ hf⟩
  exact ⟨z,us,0,r,Heap.get?_push_size _ rfl⟩
end
abbrev Sp:=List V→Hp→VK→XK→Prop
abbrev CXT:=List Env→Hp→Shared→XK→Value→Shared→Prop
structure Env0 (P:Program) (w:World) (K:PySem.W.Frag) (mg:Str→Option Value) (base:Heap) (A:Around) (outer:List Env) (s:Shared) (H:Hp):Prop where
  frames:A.frames = some outer
  mod:Mod K mg base
  bs:∀ b o,base.get? b = some o→s.heap.get? b = some o∧H b = none
  bsz:base.objs.size≤s.heap.objs.size
  funs:s.heap.FunFrames base outer
  frf:∀ b∈frs outer,H b = none
  hok:HOk P w H s.heap
  bare:AllBare s.gens
def CE (outer:List Env) (P:Program) (w:World) (H:Hp) (s:Shared) (Q:VK) (u:Value) (s':Shared):Prop :=
  ∃ v H',s'.os = s.os∧AllBare s'.gens∧Un (frs outer) [] H H' s.heap s'.heap∧HOk P w H' s'.heap∧RelV v u∧Q v H'
def CR (CX:CXT) (outer:List Env) (P:Program) (w:World) (H:Hp) (s:Shared) (Q:VK) (E:XK) (r:Result) (s':Shared):Prop :=
  match r with
  | .ok (.ret u)=>CE outer P w H s Q u s'
  | .ok _=>False
  | .error e=>CX outer H s E e s'
structure FnOk (P:Program) (w:World) (K:PySem.W.Frag) (mg:Str→Option Value) (base:Heap) (CX:CXT) (k:Nat) (f:Addr) (fd:FuncData) (ps:List Str) (sp:Sp):Prop where
  len:∀ vs H Q E,sp vs H Q E→vs.length = ps.length
  run:∀ (A:Around) (outer:List Env) (s:Shared) (H:Hp) (args:Args) (us:List Value) (vs:List V) (Q:VK) (E:XK),Room k A→Env0 P w K mg base A outer s H→BindsTo s fd args (ps.zip us)→Vals vs us→sp vs H Q E →
    codeAny (model P w) A (.call (.ref f) args) (CR CX outer P w H s Q E) s
theorem FnOk.imp {P:Program} {w:World} {K:PySem.W.Frag} {mg:Str→Option Value} {base:Heap} {CX:CXT} {k:Nat} {f:Addr} {fd:FuncData} {ps:List Str} {sp sp':Sp} (F:FnOk P w K mg base CX k f fd ps sp)
    (h:∀ vs H Q E,sp' vs H Q E→sp vs H Q E):FnOk P w K mg base CX k f fd ps sp' :=
  ⟨fun vs H Q E q=>F.len vs H Q E (h _ _ _ _ q),fun A outer s H args us vs Q E hr he hb hv hs=>F.run A outer s H args us vs Q E hr he hb hv (h _ _ _ _ hs)⟩
section
variable {X:Cx} {pins:List (Addr × Obj)} {σ:St} {H:Hp} {s s':Shared}
theorem Inv.env0 (I:Inv X pins σ H s):Env0 X.prog X.w X.K X.mg X.base X.A X.stack s H :=
  ⟨I.ok.frames,I.ok.mod,I.bs,Nat.le_trans I.ok.bsz I.sz,I.stack,I.stkFree,I.hok,I.bare⟩
theorem Inv.after {Q:VK} {u:Value} (I:Inv X pins σ H s) (h:CE X.stack X.prog X.w H s Q u s'):EP X pins σ Q u s':=by
  obtain ⟨v,H',os,bare,un,hok,r,q⟩:=h
  obtain ⟨hh,g,d,t,os'⟩:=s'
  obtain rfl:os' = s.os:=os
  exact ⟨v,H',I.call (h':=hh) (g':=g) (d':=d) (t':=t) (ch:=[]) un hok bare (fun b z=>absurd z (by simp)),r,q⟩
end
noncomputable def zJ5 (sp:Sp) (dvs:List V) (E:XK) (t:TA):TE:=fun σ H Q=>t σ H fun vs H1=>sp (vs ++ dvs) H1 Q E
def Binds (K:PySem.W.Frag) (fd:FuncData) (ps:List Str) (ds:List Value):Prop :=
  ∀ (s:Shared) (us:List Value),K.In s.heap→(us ++ ds).length = ps.length→BindsTo s fd ⟨us,[]⟩ (ps.zip (us ++ ds))
theorem Binds.all {K:PySem.W.Frag} {fd:FuncData} {ps:List Str} (h:∀ us:List Value,us.length = ps.length→bindArgs fd ⟨us,[]⟩ = pure (ps.zip us)):Binds K fd ps []:=fun s us _ hl=>by
  rw [List.append_nil] at hl ⊢
  exact .of_eq (h us hl)
def zQN (CX:CXT) (X:Cx) (E:XK):Prop:=∀ (pins:List (Addr × Obj)) (σ:St) (H:Hp) (s:Shared) (e:Value) (s':Shared),Inv X pins σ H s→CX X.stack H s E e s'→X.xe e s'
section
variable {X:Cx} {CX:CXT} {k:Nat} {f C:Addr} {fd:FuncData} {ps:List Str} {sp:Sp} {dvs:List V} {ds:List Value} {E:XK} {x m:Str} {p pos apos:Pos} {e o:Expr} {es:List Expr} {ta:TE} {t:TA}
theorem zVV {pins:List (Addr × Obj)} {σ:St} {H:Hp} {s:Shared} {Q:VK} {us:List Value} {vs:List V} (F:FnOk X.prog X.w X.K X.mg X.base CX k f fd ps sp) (hr:Room k X.A) (hb:Binds X.K fd ps ds) (hd:Vals dvs ds) (hx:zQN CX X E)
    (I:Inv X pins σ H s) (r:Vals vs us) (h:sp (vs ++ dvs) H Q E):wpAny (model X.prog X.w) X.A (call (.ref f) us) (EP X pins σ Q) X.xe s:=by
  have r2:Vals (vs ++ dvs) (us ++ ds):=r.append hd
  have hl:(us ++ ds).length = ps.length:=by rw [← r2.length]; exact F.len _ _ _ _ h
  refine wpAny_call (codeAny_mono (F.run X.A X.stack s H ⟨us,[]⟩ (us ++ ds) (vs ++ dvs) Q E hr I.env0 (hb s us I.kIn hl) r2 h) fun r s' hq=>?_)
  cases r with
  | error e=>exact hx pins σ H s e s' I hq
  | ok fl =>
    cases fl with
    | ret u=>exact I.after hq
    | next=>exact False.elim hq
    | brk=>exact False.elim hq
    | cont=>exact False.elim hq
theorem zU8 (F:FnOk X.prog X.w X.K X.mg X.base CX k f fd ps sp) (hr:Room k X.A) (hg:Gl X x) (hm:X.mg x = some (.ref f)) (hk:PySem.W.keepIn X.K (.ref f) = true) (hb:Binds X.K fd ps ds) (hd:Vals dvs ds) (hx:zQN CX X E)
    (ha:PA X (e :: es) t) (hdb:(x == ("__debug__":Str)) = false:=by decide) (he:starEach (e :: es) X.env = (false,eval e X.env) :: starEach es X.env:=by rfl) (hpl:(backTo pos (starEach es X.env)).any (·.1) = false:=by rfl) :
    PE X (.Call (.Name x p) (e :: es) [] pos) (zJ5 sp dvs E t):=by
  intro pins s σ H Q I h
  refine wpAny_Call_Name_kw (zHL I hg hm ?_ hdb)
  refine PySem.W.callWith_K (h₀:=X.base) I.ok.mod.kin hk (thn (ha pos pins s σ H _ I h) fun us s1 ⟨vs,H1,I1,r,q⟩=>⟨I1.kIn,?_⟩) he hpl
  exact zVV F hr hb hd hx I1 r q
structure Mk (K:PySem.W.Frag) (C f:Addr):Prop where
  makes:PySem.W.makesIn K C = true
  init:PySem.W.findIn K (.ref C) "__init__" = some (some (.ref f))
  fn:PySem.W.isFn K (.ref f) = true
  kp:PySem.W.keepIn K (.ref C) = true
end
section
variable {X:Cx} {CX:CXT} {k:Nat} {f C:Addr} {fd:FuncData} {ps ks:List Str} {sp:Sp} {E:XK} {x m:Str} {p pos apos kpos:Pos} {e o:Expr} {es:List Expr} {kws:List Keyword} {te ta:TE} {t tk:TA} {nm:Option Str}
structure KBinds (K:PySem.W.Frag) (fd:FuncData) (ps ks:List Str) (g:List Value→List Value→List Value) (gV:List V→List V→List V):Prop where
  to:∀ (s:Shared) (us ws:List Value),K.In s.heap→(g us ws).length = ps.length→BindsTo s fd ⟨us,ks.zip ws⟩ (ps.zip (g us ws))
  rel:∀ {vs:List V} {us:List Value} {zs:List V} {ws:List Value},Vals vs us→Vals zs ws→Vals (gV vs zs) (g us ws)
variable {g:List Value→List Value→List Value} {gV:List V→List V→List V}
end
structure FnScope (N P:List Str) (sc:Scope):Prop where
  kind:sc.kind = .function
  co:sc.isCoroutine = false
  gen:sc.isGenerator = false
  nd:N.Nodup
  pre:N.take P.length = P
  par:∀ x∈P,sc.names.lookup x = some .local∨sc.names.lookup x = some .cell
  nofree:∀ y∈sc.names,y.2≠.free
theorem zLB {kindOf:Str→Option NameKind} {x:Str}:∀ {binds:List (Str × Value)} {m:Str→Option Value},(∀ v,(x,v) ∉ binds)→bindL kindOf binds m x = m x
  | [],_,_=>rfl
  | (n,v) :: r,m,h=>by
    unfold bindL
    rw [zLB fun w hw=>h w (List.mem_cons_of_mem _ hw)]
    split
    · have:x≠n:=by rintro rfl; exact h v List.mem_cons_self
      simp [this]
    · rfl
theorem zLD {kindOf:Str→Option NameKind} {x:Str}:∀ {binds:List (Str × Value)} {m:Str→Option Value},(∀ v,(x,v) ∉ binds)→bindC kindOf binds m x = m x
  | [],_,_=>rfl
  | (n,v) :: r,m,h=>by
    unfold bindC
    rw [zLD fun w hw=>h w (List.mem_cons_of_mem _ hw)]
    split
    · rfl
    · have:x≠n:=by rintro rfl; exact h v List.mem_cons_self
      simp [this]
theorem zLC {kindOf:Str→Option NameKind} {x:Str} {v:Value}:∀ {P:List Str} {vs:List Value} {i:Nat} {m:Str→Option Value},P.Nodup→P[i]? = some x→vs[i]? = some v→kindOf x = some .local →
    bindL kindOf (P.zip vs) m x = some v
  | [],_,_,_,_,h,_,_=>by simp at h
  | _ :: _,[],_,_,_,_,h,_=>by simp at h
  | p :: P,w :: vs,0,m,nd,h1,h2,hk=>by
    simp at h1 h2; subst h1; subst h2
    show bindL kindOf ((p,w) :: P.zip vs) m p = _
    unfold bindL
    rw [zLB fun v hv=>(List.nodup_cons.mp nd).1 (List.of_mem_zip hv).1,if_pos hk]
    simp
  | p :: P,w :: vs,i + 1,m,nd,h1,h2,hk=>by
    show bindL kindOf ((p,w) :: P.zip vs) m x = _
    unfold bindL
    exact zLC (i:=i) (List.nodup_cons.mp nd).2 (by simpa using h1) (by simpa using h2) hk
theorem zLE {kindOf:Str→Option NameKind} {x:Str} {v:Value}:∀ {P:List Str} {vs:List Value} {i:Nat} {m:Str→Option Value},P.Nodup→P[i]? = some x→vs[i]? = some v→kindOf x≠some .local →
    bindC kindOf (P.zip vs) m x = some v
  | [],_,_,_,_,h,_,_=>by simp at h
  | _ :: _,[],_,_,_,_,h,_=>by simp at h
  | p :: P,w :: vs,0,m,nd,h1,h2,hk=>by
    simp at h1 h2; subst h1; subst h2
    show bindC kindOf ((p,w) :: P.zip vs) m p = _
    unfold bindC
    rw [zLD fun v hv=>(List.nodup_cons.mp nd).1 (List.of_mem_zip hv).1,if_neg hk]
    simp
  | p :: P,w :: vs,i + 1,m,nd,h1,h2,hk=>by
    show bindC kindOf ((p,w) :: P.zip vs) m x = _
    unfold bindC
    exact zLE (i:=i) (List.nodup_cons.mp nd).2 (by simpa using h1) (by simpa using h2) hk
noncomputable def start (N:List Str) (vs:List V):St:=vs.map some ++ List.replicate (N.length - vs.length) none
noncomputable def cxOf (CX:CXT) (P:Program) (w:World) (K:PySem.W.Frag) (mg:Str→Option Value) (base:Heap) (N:List Str) (qual:Str) (scope:Scope) (f:Addr) (cd:Value) (A:Around) (outer:List Env) (s:Shared) (H:Hp) (E:XK):Cx where
  prog:=P
  w:=w
  K:=K
  mg:=mg
  base:=base
  A:=A.deeper (envOfC qual scope s.heap.objs.size f cd)
  N:=N
  s₀:=s
  H₀:=H
  env:=envOfC qual scope s.heap.objs.size f cd
  outer:=outer
  stack:=envOfC qual scope s.heap.objs.size f cd :: outer
  ex:=[]
  calm:=true
  fn:=fun _=>true
  pn:=[]
  xe:=fun e s'=>wpAny (model P w) (A.deeper (envOfC qual scope s.heap.objs.size f cd)) (leaving (envOfC qual scope s.heap.objs.size f cd) e) (fun _ s''=>CX outer H s E e s'') (fun e' s''=>CX outer H s E e' s'') s'
theorem zNH {sc:Scope} {n:Nat} {x:Str} (h:sc.names.lookup x = some .cell):∃ c,(cellsFrom n sc.names []).lookup x = some c:=by
  have q:=PySem.W.cellsFrom_some sc.names n [] (.inl h)
  exact Option.isSome_iff_exists.mp q
theorem zPX {CX:CXT} {P:Program} {w:World} {K:PySem.W.Frag} {mg:Str→Option Value} {base:Heap} {N ps:List Str} {qual:Str} {scope:Scope} {f:Addr} {cd:Value} {A:Around} {outer:List Env} {s s1:Shared} {H:Hp} {E:XK} {us:List Value} {vs:List V}
    (S:FnScope N ps scope) (hd:A.handled = none) (e0:Env0 P w K mg base A outer s H) (hl:vs.length = ps.length) (r:Vals vs us)
    (x:InCallC s s.heap.objs.size (bindL (envOfC qual scope s.heap.objs.size f cd).kindOf (ps.zip us) fun _=>none) (cellsFrom (s.heap.objs.size + 1) scope.names []) (bindC (envOfC qual scope s.heap.objs.size f cd).kindOf (ps.zip us) fun _=>none) s1) :
    Inv (cxOf CX P w K mg base N qual scope f cd A outer s H E) [] (start N vs) H s1:=by
  have hpl:ps.length≤N.length:=by have:=congrArg List.length S.pre; rw [List.length_take] at this; omega
  obtain ⟨h1,tk,rfl,hk⟩:=x.done
  have noA:∀ b:Addr,b ∉ (cxOf CX P w K mg base N qual scope f cd A outer s H E).ex:=fun b z=>absurd (show b∈([]:List Addr) from z) (by simp)
  refine ⟨⟨e0.mod,S.kind,rfl,rfl,Nat.le_refl _,fun y z c h1 h2=>?_,fun y hy=>?_,fun y c _ h=>?_,fun _=>hd,Around.frames_deeper e0.frames,.inr ⟨rfl,rfl⟩,fun b z=>absurd z (noA b),e0.bs,e0.bsz,fun b _ _=>noA b,fun b z=>absurd z (noA b),e0.funs,e0.frf⟩,
    rfl,e0.bare,Un.kept hk,⟨_,x.toInCall.ns,fun i y v h1 h2 h3=>?_⟩,fun y c h=>⟨_,x.cell y c h⟩,e0.hok.fresh (Nat.le_refl _),fun y c h=>?_,fun p hp=>absurd (show p∈([]:List (Addr × Obj)) from hp) (by simp),e0.hok.kept hk,?_⟩
  · exact name_of_addr x.apart (PySem.mem_of_lookup h1) (PySem.mem_of_lookup h2)
  · have hy:scope.names.lookup y = some .cell∨scope.names.lookup y = some .free:=hy
    rcases hy with hy | hy
    · exact zNH hy
    · exact absurd rfl (S.nofree _ (PySem.mem_of_lookup hy))
  · exact Nat.le_of_lt (x.above y c (PySem.mem_of_lookup h))
  · have hi:i < vs.length:=by
      unfold start at h2
      by_cases hi:i < vs.length
      · exact hi
      · rw [List.getElem?_append_right (by simpa using hi)] at h2
        rw [List.getElem?_replicate] at h2
        split at h2 <;> cases h2
    have ha:vs[i]? = some v:=by
      unfold start at h2
      rw [List.getElem?_append_left (by simpa using hi),List.getElem?_map] at h2
      cases e:vs[i]? with
      | none=>rw [e] at h2; cases h2
      | some a=>rw [e] at h2; cases h2; rfl
    obtain ⟨u,hu,rv⟩:=r.get ha
    have hp:ps[i]? = some y:=by
      rw [← S.pre,List.getElem?_take_of_lt (by omega)]; exact h1
    have ndP:ps.Nodup:=by rw [← S.pre]; exact S.nd.sublist (List.take_sublist _ _)
    refine ⟨u,rv,?_⟩
    rcases S.par y (List.mem_of_getElem? hp) with k | k
    · exact .inl ⟨k,zLC ndP hp hu k⟩
    · obtain ⟨c,e⟩:=zNH (n:=s.heap.objs.size + 1) k
      refine .inr ⟨.inl k,c,e,?_⟩
      have q:=x.cell y c e
      rw [zLE ndP hp hu (by show scope.names.lookup y≠_; rw [k]; decide)] at q
      exact q
  · exact e0.hok.fresh (Nat.le_of_lt (x.above y c (PySem.mem_of_lookup h)))
  · unfold start
    show _ = N.length
    rw [List.length_append,List.length_map,List.length_replicate]
    omega
theorem zXA {CX:CXT} {P:Program} {w:World} {K:PySem.W.Frag} {mg:Str→Option Value} {base:Heap} {k:Nat} {f:Addr} {name qual:Str} {params:Arguments} {body:List Stmt} {scope:Scope} {dV kV doc pm cdv ct oc:Value} {an od:Option Addr}
    {osl:Array (Option Value)} {N ps:List Str} {sp:Sp} (lk:K.lookup f = some ⟨oc,od,.func (PySem.W.fnOf name qual params body scope dV kV doc pm an cdv ct),osl⟩) (hcd:PySem.W.codeIn K cdv qual = true) (S:FnScope N ps scope)
    (len:∀ vs H Q E,sp vs H Q E→vs.length = ps.length)
    (hbody:∀ (A:Around) (outer:List Env) (s:Shared) (H:Hp) (vs:List V) (Q:VK) (E:XK),Room k (A.deeper (envOfC qual scope s.heap.objs.size f cdv))→sp vs H Q E →
      ∃ t,PSs (cxOf CX P w K mg base N qual scope f cdv A outer s H E) body t∧t { nx:=fun _ H'=>Q .non H',rt:=Q } (start N vs) H) :
    FnOk P w K mg base CX (k + 1) f (PySem.W.fnOf name qual params body scope dV kV doc pm an cdv ct) ps sp:=by
  refine ⟨len,fun A outer s H args us vs Q E hr e0 hb r hsp=>?_⟩
  have hl:=len _ _ _ _ hsp
  have KX:K.In s.heap:=e0.mod.kin.keeps fun b o e=>(e0.bs b o e).1
  have lim:s.heap.NoLimit:=e0.mod.nolimit.keeps fun b o e=>(e0.bs b o e).1
  have hkind:∀ y∈ps.zip us,scope.names.lookup y.1 = some .local∨(scope.names.lookup y.1 = some .cell∧((cellsFrom (s.heap.objs.size + 1) scope.names []).lookup y.1).isSome = true):=fun ⟨n,v⟩ hy=>by
    rcases S.par n (List.of_mem_zip hy).1 with q | q
    · exact .inl q
    · exact .inr ⟨q,PySem.W.cellsFrom_some _ _ _ (.inl q)⟩
  refine codeAny_call_function hr.depth (KX _ _ lk) rfl S.co S.gen rfl (PySem.W.codeRec_of KX hcd) (hb _ _ _ _ ?_)
  refine wpAny_newFunctionEnv_cells S.kind hkind fun env he s1 x=>?_
  subst he
  refine ⟨lim.keeps x.toInCall.keep,codeAny_func ?_⟩
  obtain ⟨t,ht,hq⟩:=hbody A outer s H vs Q E (hr.deeper _) hsp
  have I:Inv (cxOf CX P w K mg base N qual scope f cdv A outer s H E) [] (start N vs) H s1:=zPX S hr.hd e0 hl r x
  refine wpAny_mono (ht [] s1 (start N vs) H _ I hq) (fun fl s' hs=>?_) fun e s' hs=>hs
  have fin:∀ {σ':St} {H':Hp} {v:V} {u:Value},Inv (cxOf CX P w K mg base N qual scope f cdv A outer s H E) [] σ' H' s'→RelV v u→Q v H'→CE outer P w H s Q u s' :=
    fun {σ' H' v u} J rv q=>⟨v,H',J.os,J.bare,J.base,J.hok,rv,q⟩
  cases fl with
  | ret u =>
    obtain ⟨v,σ',H',J,rv,q⟩:=hs
    exact fin J rv q
  | next =>
    obtain ⟨σ',H',J,q⟩:=hs
    exact fin (v:=V.non) (u:=Value.none) J rfl q
  | brk =>
    obtain ⟨_,_,_,q⟩:=hs
    exact False.elim q
  | cont =>
    obtain ⟨_,_,_,q⟩:=hs
    exact False.elim q
end L2
namespace L2
open PySem PySem.Spec PyProof.Rows
section
variable {X:Cx} {x:Str} {p pos:Pos} {e:Expr} {es:List Expr} {t:TA} {id T:String} {r:List V→Hp→VK→Prop}
noncomputable def tCB (r:List V→Hp→VK→Prop) (t:TA):TE:=fun σ H Q=>t σ H fun vs H1=>r vs H1 Q
theorem zAJ (hc:zD3 X (.builtin id) r) (hg:Gl X x) (hm:X.mg x = none) (hv:bootBuiltins x = some (.builtin id)) (ha:PA X (e :: es) t) (hn:x≠"__name__":=by decide) (hdb:(x == ("__debug__":Str)) = false:=by decide)
    (he:starEach (e :: es) X.env = (false,eval e X.env) :: starEach es X.env:=by rfl) (hpl:(backTo pos (starEach es X.env)).any (·.1) = false:=by rfl):PE X (.Call (.Name x p) (e :: es) [] pos) (tCB r t):=by
  intro pins s σ H Q I h
  refine wpAny_Call_Name_kw (zGJ I hg hm hv ?_ hn hdb)
  exact PyProof.Rows.callWith_builtin1 (thn (ha pos pins s σ H _ I h) fun us s1 ⟨vs,H1,I1,r1,q1⟩=>hc pins s1 σ H1 vs us Q I1 r1 q1) he hpl
theorem zCI (hc:zD3 X (.type T) r) (hg:Gl X x) (hm:X.mg x = none) (hv:bootBuiltins x = some (.type T)) (ha:PA X (e :: es) t) (hn:x≠"__name__":=by decide) (hdb:(x == ("__debug__":Str)) = false:=by decide)
    (he:starEach (e :: es) X.env = (false,eval e X.env) :: starEach es X.env:=by rfl) (hpl:(backTo pos (starEach es X.env)).any (·.1) = false:=by rfl):PE X (.Call (.Name x p) (e :: es) [] pos) (tCB r t):=by
  intro pins s σ H Q I h
  refine wpAny_Call_Name_kw (zGJ I hg hm hv ?_ hn hdb)
  exact PyProof.Rows.callWith_type1 (thn (ha pos pins s σ H _ I h) fun us s1 ⟨vs,H1,I1,r1,q1⟩=>hc pins s1 σ H1 vs us Q I1 r1 q1) he hpl
end
end L2

namespace HT
open PySem PyProof.Rows
section
open PySem.SeqAt
open PySem.AutoSeq1 (wpAny_loadPart')
open PySem.MeetsSeq PySem.MeetsSeq2 PySem.MeetsSeq3
end
section
variable {prog:Program} {w:World} {A:Around} {E:Value→Shared→Prop} {s:Shared}
noncomputable def sIx (n d:Nat):Option Int→Nat
  | none=>d
  | some v=>if v < 0 then (v + (n:Int)).toNat else min v.toNat n
end
end HT
namespace L2
open PySem PySem.Spec PyProof.Rows
abbrev TO:=St→Hp→(Option Int→Hp→Prop)→Prop
def PO (X:Cx) (e:Option Expr) (t:TO):Prop :=
  ∀ (pins:List (Addr × Obj)) (s:Shared) (σ:St) (H:Hp) (Q:Option Int→Hp→Prop),Inv X pins σ H s→t σ H Q →
    wpAny (model X.prog X.w) X.A (evalPart e X.env) (fun u s'=>∃ o H',Inv X pins σ H' s'∧IsPart u o∧Q o H') X.xe s
noncomputable def zOR:TO:=fun _ H Q=>Q none H
noncomputable def zVN (t:TE):TO:=fun σ H Q=>t σ H fun x H1=>∃ i,x = .int i∧Q (some i) H1
section
variable {X:Cx} {e:Expr} {te:TE} {lo hi:Option Expr} {tl th:TO} {pos p2:Pos}
theorem zLU:PO X none zOR:=by
  intro pins s σ H Q I h
  rw [evalPart_none]
  exact wpAny_pure ⟨none,H,I,.none,h⟩
theorem zLT (h:PE X e te):PO X (some e) (zVN te):=by
  intro pins s σ H Q I hw
  rw [evalPart_some]
  refine thn (h pins s σ H _ I hw) fun u s1 ⟨x,H1,I1,r1,q1⟩=>?_
  obtain ⟨i,rfl,q⟩:=q1
  obtain ⟨t,rfl⟩:=r1
  exact ⟨some i,H1,I1,.int i t,q⟩
def SlR (X:Cx) (r:V→Option Int→Option Int→Hp→VK→Prop):Prop :=
  ∀ (pins:List (Addr × Obj)) (s:Shared) (σ:St) (H:Hp) (x:V) (v vl vu:Value) (lo hi:Option Int) (sl:Addr) (Q:VK),Inv X pins σ H s→RelV x v→s.heap.IsSliceOf sl vl vu .none→IsPart vl lo→IsPart vu hi→r x lo hi H Q →
    ∃ T id,typeLookup (.type T) "__getitem__" = pure (some (.builtin id))∧s.TypeIs v T∧wpAny (model X.prog X.w) X.A (getItem v (.ref sl)) (EP X pins σ Q) X.xe s
noncomputable def tSl (r:V→Option Int→Option Int→Hp→VK→Prop) (te:TE) (tl th:TO):TE:=fun σ H Q=>te σ H fun x H1=>tl σ H1 fun l H2=>th σ H2 fun u H3=>r x l u H3 Q
theorem zJC {r:V→Option Int→Option Int→Hp→VK→Prop} (hr:SlR X r) (he:PE X e te) (hl:PO X lo tl) (hu:PO X hi th):PE X (.Subscript e (.Slice lo hi none p2) pos) (tSl r te tl th):=by
  intro pins s σ H Q I h
  refine Subscript_ (thn (he pins s σ H _ I h) fun v s1 ⟨x,H1,I1,r1,q1⟩=>?_)
  refine wpAny_Slice (thn (hl pins s1 σ H1 _ I1 q1) fun vl s2 ⟨l,H2,I2,pl,q2⟩=>thn (hu pins s2 σ H2 _ I2 q2) fun vu s3 ⟨u,H3,I3,pu,q3⟩=>?_)
  rw [evalPart_none]
  refine wpAny_pure ?_
  have I4:Inv X pins σ H3 { s3 with heap:=s3.heap.push { cls:=.type "slice",data:=.fields #[vl,vu,.none] } }:=I3.kept (t':=s3.toks) fun b ob q=>Heap.get?_push_of_some _ q
  obtain ⟨T,id,hT,ht,hg⟩:=hr pins { s3 with heap:=s3.heap.push { cls:=.type "slice",data:=.fields #[vl,vu,.none] } } σ H3 x v vl vu l u s3.heap.objs.size Q I4 r1 (Heap.IsSliceOf.new ..) pl pu q3
  show wpAny (model X.prog X.w) X.A (subscriptTail e (.Slice lo hi none p2) v (.ref s3.heap.objs.size)) (EP X pins σ Q) X.xe { s3 with heap:=s3.heap.push { cls:=.type "slice",data:=.fields #[vl,vu,.none] } }
  exact tail_any (ops:=[.ref s3.heap.objs.size,v]) ht hT hg (by with_unfolding_all rfl)
def cutV (xs:List V) (lo hi:Option Int):List V:=(xs.drop (HT.sIx xs.length 0 lo)).take (HT.sIx xs.length xs.length hi - HT.sIx xs.length 0 lo)
theorem zMC (xs:List V) (lo hi:Option Int):(cutV xs lo hi).length≤xs.length:=by
  unfold cutV
  rw [List.length_take,List.length_drop]
  omega
end
end L2
namespace L2
open PySem PySem.Spec PyProof.Rows
noncomputable def ixN (n:Nat) (i:Int):Option Nat:=if 0≤i then (if i < n then some i.toNat else none) else if -(n:Int)≤i then some (i + n).toNat else none
def atI {α:Type} (xs:List α) (i:Int):Option α:=(ixN xs.length i).bind fun j=>xs[j]?
theorem zPQ {n:Nat} {i:Int} {j:Nat} (h:ixN n i = some j):seqIndex? i n = some j∧j < n∧-(n:Int)≤i∧i < n:=by
  unfold ixN at h
  by_cases h0:0≤i
  · rw [if_pos h0] at h
    by_cases h1:i < n
    · rw [if_pos h1] at h
      have e:i.toNat = j:=Option.some.inj h
      exact ⟨by rw [seqIndex_of h0 h1,e],by omega,by omega,h1⟩
    · rw [if_neg h1] at h; cases h
  · rw [if_neg h0] at h
    by_cases h1:-(n:Int)≤i
    · rw [if_pos h1] at h
      have e:(i + n).toNat = j:=Option.some.inj h
      exact ⟨by rw [seqIndex_neg (by omega) h1,e],by omega,h1,by omega⟩
    · rw [if_neg h1] at h; cases h
theorem zMI {α:Type} {xs:List α} {i:Int} {v:α} (h:atI xs i = some v):∃ j,seqIndex? i xs.length = some j∧xs[j]? = some v∧j < xs.length∧-(xs.length:Int)≤i∧i < xs.length:=by
  unfold atI at h
  cases e:ixN xs.length i with
  | none=>rw [e] at h; cases h
  | some j =>
    rw [e] at h
    obtain ⟨h1,h2,h3,h4⟩:=zPQ e
    exact ⟨j,h1,h,h2,h3,h4⟩
def zVB (b:Expr):Prop:=∀ o i,subscripted b false o i = operate [o,i] (getItem o i)
def IxR (X:Cx) (r:R2):Prop :=
  ∀ (value slice:Expr) (pins:List (Addr × Obj)) (s:Shared) (σ:St) (H:Hp) (x y:V) (v u:Value) (Q:VK),Inv X pins σ H s→RelV x v→RelV y u→r x y H Q →
    subscripted slice false v u = operate [v,u] (getItem v u)→wpAny (model X.prog X.w) X.A (subscriptTail value slice v u) (EP X pins σ Q) X.xe s
def MtR (X:Cx) (id:String) (r:V→List V→Hp→VK→Prop):Prop :=
  ∀ (pins:List (Addr × Obj)) (s:Shared) (σ:St) (H:Hp) (x:V) (xs:List V) (v:Value) (us:List Value) (Q:VK),Inv X pins σ H s→RelV x v→Vals xs us→r x xs H Q →
    wpAny (model X.prog X.w) X.A (call (.builtin id) (v :: us)) (EP X pins σ Q) X.xe s
section
variable {X:Cx} {a b:Expr} {ta tb:TE} {pos:Pos}
theorem zBO {r:R2} (hr:IxR X r) (ha:PE X a ta) (hb:PE X b tb) (hs:zVB b):PE X (.Subscript a b pos) (tOp r ta tb):=by
  intro pins s σ H Q I h
  exact Subscript_ (binT ha hb I h fun v u s2 x y H2 I2 rx ry q=>hr a b pins s2 σ H2 x y v u Q I2 rx ry q (hs _ _))
def rIxL (K:PySem.W.Frag):R2:=fun x y H Q=>∃ p xs i v,x = .ref p∧y = .int i∧SqL K H p xs∧atI xs i = some v∧Q v H
def rIxT (K:PySem.W.Frag):R2:=fun x y H Q=>∃ p xs i v,x = .ref p∧y = .int i∧SqT K H p xs∧atI xs i = some v∧Q v H
def rIxS:R2:=fun x y H Q=>∃ z i c,x = .str z∧y = .int i∧z.length≤sizeLine∧atI z.cps.toList i = some c∧Q (.str ⟨#[c]⟩) H
theorem zUP:IxR X (rIxL X.K):=by
  intro value slice pins s σ H x y v u Q I rx ry h hs
  obtain ⟨p,xs,i,z,rfl,rfl,hq,he,q⟩:=h
  cases rx
  obtain ⟨t,rfl⟩:=ry
  obtain ⟨its,r,pl,hz⟩:=I.list hq
  obtain ⟨j,h1,h2,h3,h4,h5⟩:=zMI he
  obtain ⟨w,ew,rw'⟩:=r.get h2
  have hl:=r.length
  have hn:=zHK
  have fin:EP X pins σ Q w s:=⟨z,H,I,rw',q⟩
  by_cases h0:0≤i
  · have hj:i.toNat = j:=by
      rw [seqIndex_of h0 h5] at h1
      exact Option.some.inj h1
    exact item_listR pl.isList h0 (by omega) (by rw [hj]; simpa using ew) fin hs
  · have hj:(i + (its.toArray.size:Int)).toNat = j:=by
      rw [seqIndex_neg (by omega) h4] at h1
      rw [List.size_toArray,← hl]
      exact Option.some.inj h1
    exact subscriptTail_builtinR (x:=w) pl.isList.typeIs slot_list_getitem.lookup
      (wpAny_getItem_list_neg (Q:=fun r s'=>r = w∧EP X pins σ Q r s') pl.isList (by omega) (by rw [List.size_toArray] <;> omega) (by omega) (by rw [hj]; simpa using ew) ⟨rfl,fin⟩) hs
theorem zWZ:IxR X (rIxT X.K):=by
  intro value slice pins s σ H x y v u Q I rx ry h hs
  obtain ⟨p,xs,i,z,rfl,rfl,hq,he,q⟩:=h
  cases rx
  obtain ⟨t,rfl⟩:=ry
  obtain ⟨its,r,pl,hz⟩:=I.tuple hq
  obtain ⟨j,h1,h2,h3,h4,h5⟩:=zMI he
  obtain ⟨w,ew,rw'⟩:=r.get h2
  have hl:=r.length
  have hn:=zHK
  have fin:EP X pins σ Q w s:=⟨z,H,I,rw',q⟩
  exact subscriptTail_builtinR (x:=w) pl.typeIs slot_tuple_getitem.lookup
    (getItem_tuple (j:=j) (Q:=fun r s'=>r = w∧EP X pins σ Q r s') pl (by omega) (by omega) (by rw [List.size_toArray,← hl]; exact h1) (by simpa using ew) ⟨rfl,fin⟩) hs
theorem zX1:IxR X rIxS:=by
  intro value slice pins s σ H x y v u Q I rx ry h hs
  obtain ⟨z,i,c,rfl,rfl,hz,he,q⟩:=h
  obtain ⟨t,rfl⟩:=rx
  obtain ⟨t',rfl⟩:=ry
  obtain ⟨j,h1,h2,h3,h4,h5⟩:=zMI he
  have hl:z.cps.toList.length = z.length:=by simp [Str.length]
  rw [hl] at h1 h4 h5
  have hn:=zHK
  exact tail_any (typeIs_str s z t) slot_str_getitem.lookup (getItem_str (c:=c) (by
    have e1:decide (i < -(2 ^ 63:Int)) = false:=decide_eq_false (by omega)
    have e2:decide (i ≥ 2 ^ 63) = false:=decide_eq_false (by omega)
    rw [e1,e2,Bool.or_false]) (by rw [h1]; simpa using h2) ⟨.str ⟨#[c]⟩,H,I.tok _,⟨_,rfl⟩,q⟩) hs
theorem zO3 (its:List Value) (n j:Nat) (u:Value):Obj.mapSeq (·.setIfInBounds j u) { cls:=.type "list",data:=.seq its.toArray n } = { cls:=.type "list",data:=.seq (its.set j u).toArray n }:=by
  simp [Obj.mapSeq]
theorem Inv.lst {pins:List (Addr × Obj)} {σ:St} {H:Hp} {s:Shared} {p:Addr} {xs:List V} (I:Inv X pins σ H s) (h:H p = some (.lst xs)) :
    ∃ (its:List Value) (n:Nat),Vals xs its∧s.heap.get? p = some { cls:=.type "list",data:=.seq its.toArray n }∧xs.length≤sizeLine:=by
  obtain ⟨z,its,n,r,e⟩:=I.hok p _ h
  exact ⟨its,n,r,e,z⟩
theorem Inv.lstUpd {pins:List (Addr × Obj)} {σ:St} {H:Hp} {s:Shared} {p:Addr} {xs ys:List V} {its its':List Value} {n n':Nat} {f:Obj→Obj} (I:Inv X pins σ H s) (h:H p = some (.lst xs))
    (ho:s.heap.get? p = some { cls:=.type "list",data:=.seq its.toArray n }) (hf:f { cls:=.type "list",data:=.seq its.toArray n } = { cls:=.type "list",data:=.seq its'.toArray n' }) (r:Vals ys its') (hz:ys.length≤sizeLine) (t:Nat) :
    Inv X pins σ (upd H p (.lst ys)) { s with heap:=s.heap.update p f,toks:=t }:=by
  have e:(s.heap.update p f).get? p = some { cls:=.type "list",data:=.seq its'.toArray n' }:=by
    rw [Heap.get?_update_self f ho (by rw [hf] <;> rfl),hf]
  refine I.write (x:=p) (e:=p) (by rw [h]; trivial) (.inl rfl) (fun b u hb q=>(Heap.get?_update_other _ _ (Ne.symm hb)).trans q) ⟨_,e⟩ ?_
  exact ⟨hz,its',n',r,e⟩
def zYB:V→V→V→Hp→(Hp→Prop)→Prop:=fun o i v H Q=>∃ p xs k j,o = .ref p∧i = .int k∧H p = some (.lst xs)∧ixN xs.length k = some j∧Q (upd H p (.lst (xs.set j v)))
theorem zR4:PSet X zYB:=by
  intro pins s σ H o i v ov iv u Q I ro ri rv h
  obtain ⟨p,xs,k,j,rfl,rfl,hp,hj,q⟩:=h
  cases ro
  obtain ⟨t,rfl⟩:=ri
  obtain ⟨its,n,r,ho,hz⟩:=I.lst hp
  obtain ⟨h1,h2,h3,h4⟩:=zPQ hj
  have hl:=r.length
  have hn:=zHK
  have I':Inv X pins σ (upd H p (.lst (xs.set j v))) { s with heap:=s.heap.update p (Obj.mapSeq (·.setIfInBounds j u)) } :=
    I.lstUpd hp ho (zO3 its n j u) (r.set rv j) (by rw [List.length_set]; exact hz) s.toks
  by_cases h0:0≤k
  · have hk:k.toNat = j:=by
      rw [seqIndex_of h0 h4] at h1
      exact Option.some.inj h1
    exact PySem.W.ki_setAt ho h0 (by omega) (by rw [List.size_toArray,← hl]; exact h4) (by rw [hk]; exact ⟨_,I',q⟩)
  · have hk:(k + (its.toArray.size:Int)).toNat = j:=by
      rw [seqIndex_neg (by omega) h3] at h1
      rw [List.size_toArray,← hl]
      exact Option.some.inj h1
    exact PySem.W.ki_setBack ho (by omega) (by rw [List.size_toArray,← hl]; exact h3) (by omega) (by rw [hk]; exact ⟨_,I',q⟩)
theorem zKB (lo hi:Option Int) (n:Nat):(sliceBounds lo hi none n).1 = ((HT.sIx n 0 lo:Nat):Int)∧(sliceBounds lo hi none n).2.1 = ((HT.sIx n n hi:Nat):Int)∧(sliceBounds lo hi none n).2.2 = 1:=by
  refine ⟨?_,?_,rfl⟩
  · cases lo with
    | none=>simp [sliceBounds,HT.sIx]
    | some i =>
      simp only [sliceBounds,HT.sIx,Option.getD_none,show (1:Int) > 0 by decide,if_true]
      by_cases h:i < 0
      · simp only [h,if_true] <;> omega
      · simp only [h,if_false] <;> omega
  · cases hi with
    | none=>simp [sliceBounds,HT.sIx]
    | some i =>
      simp only [sliceBounds,HT.sIx,Option.getD_none,show (1:Int) > 0 by decide,if_true]
      by_cases h:i < 0
      · simp only [h,if_true] <;> omega
      · simp only [h,if_false] <;> omega
theorem zJ6 (its:List Value) (lo hi:Option Int):slicePick its.toArray lo hi none = ((its.drop (HT.sIx its.length 0 lo)).take (HT.sIx its.length its.length hi - HT.sIx its.length 0 lo)).toArray:=by
  obtain ⟨h1,h2,h3⟩:=zKB lo hi its.toArray.size
  unfold slicePick
  rw [h1,h2,h3]
  simp only [sliceRange_one,pick_run,List.size_toArray] <;> rfl
def rSlL (K:PySem.W.Frag):V→Option Int→Option Int→Hp→VK→Prop:=fun x lo hi H Q=>∃ a xs,x = .ref a∧SqL K H a xs∧∀ p,H p = none→Q (.ref p) (upd H p (.lst (cutV xs lo hi)))
theorem zTQ:SlR X (rSlL X.K):=by
  intro pins s σ H x v vl vu lo hi sl Q I rx hs pl pu h
  obtain ⟨a,xs,rfl,hx,q⟩:=h
  cases rx
  obtain ⟨its,r,ht,hz⟩:=I.list hx
  have hlen:=r.length
  refine ⟨"list",_,slot_list_getitem.lookup,ht.isList.typeIs,?_⟩
  refine wpAny_getItem_list_slice ht.isList hs pl pu .none (by simp) ?_ (by rw [List.size_toArray] <;> omega)
  rw [zJ6,← hlen]
  refine ⟨.ref s.heap.objs.size,_,I.laid (t':=s.toks) (o:=.lst (cutV xs lo hi)) (fun b ob q=>Heap.get?_push_of_some _ q) (Nat.le_refl _) ?_,rfl,q _ (I.hok.fresh (Nat.le_refl _))⟩
  exact ⟨Nat.le_trans (zMC xs lo hi) hz,_,0,(r.drop (HT.sIx xs.length 0 lo)).take (HT.sIx xs.length xs.length hi - HT.sIx xs.length 0 lo),Heap.get?_push_size _ rfl⟩
noncomputable def zGA:V→Bool
  | .non=>true
  | .bl _=>true
  | .int _=>true
  | .str _=>true
  | _=>false
noncomputable def eqV:V→V→Bool
  | .non,.non=>true
  | .bl a,.bl b=>a == b
  | .bl a,.int b=>(if a then 1 else 0) == b
  | .int a,.bl b=>a == (if b then 1 else 0)
  | .int a,.int b=>a == b
  | .str a,.str b=>a == b
  | _,_=>false
theorem zT6 {A:Around} {s:Shared} {y x:V} {u v:Value} (ry:RelV y u) (rx:RelV x v) (fy:zGA y = true) (fx:zGA x = true):SeqAt.EqAt A s u v (eqV y x):=by
  cases y with
  | non =>
    cases ry
    cases x with
    | non=>cases rx; exact SeqAt.EqAt.same _
    | bl b=>cases rx; exact SeqAt.EqAt.none_bool b
    | int b=>obtain ⟨t,rfl⟩:=rx; exact SeqAt.EqAt.none_int b t
    | str b=>obtain ⟨t,rfl⟩:=rx; exact SeqAt.EqAt.none_str b t
    | _=>exact absurd (show false = true from fx) Bool.false_ne_true
  | bl a =>
    cases ry
    cases x with
    | non=>cases rx; exact SeqAt.EqAt.bool_none a
    | bl b=>cases rx; exact SeqAt.EqAt.bool_bool a b
    | int b=>obtain ⟨t,rfl⟩:=rx; exact SeqAt.EqAt.bool_int a b t
    | str b=>obtain ⟨t,rfl⟩:=rx; exact SeqAt.EqAt.bool_str a b t
    | _=>exact absurd (show false = true from fx) Bool.false_ne_true
  | int a =>
    obtain ⟨t',rfl⟩:=ry
    cases x with
    | non=>cases rx; exact SeqAt.EqAt.int_none a t'
    | bl b=>cases rx; exact SeqAt.EqAt.int_bool a t' b
    | int b=>obtain ⟨t,rfl⟩:=rx; exact SeqAt.EqAt.int_int a t' b t
    | str b=>obtain ⟨t,rfl⟩:=rx; exact SeqAt.EqAt.int_str a t' b t
    | _=>exact absurd (show false = true from fx) Bool.false_ne_true
  | str a =>
    obtain ⟨t',rfl⟩:=ry
    cases x with
    | non=>cases rx; exact SeqAt.EqAt.str_none a t'
    | bl b=>cases rx; exact SeqAt.EqAt.str_bool a t' b
    | int b=>obtain ⟨t,rfl⟩:=rx; exact SeqAt.EqAt.str_int a t' b t
    | str b=>obtain ⟨t,rfl⟩:=rx; exact SeqAt.EqAt.str_str a t' b t
    | _=>exact absurd (show false = true from fx) Bool.false_ne_true
  | _=>exact absurd (show false = true from fy) Bool.false_ne_true
def eqU (x:V) (u:Value):Bool:=match u with
  | .none=>eqV .non x
  | .bool b=>eqV (.bl b) x
  | .int i _=>eqV (.int i) x
  | .str z _=>eqV (.str z) x
  | _=>false
theorem zT5 {x y:V} {u:Value} (r:RelV y u) (f:zGA y = true):eqU x u = eqV y x:=by
  cases y with
  | non=>cases r; rfl
  | bl b=>cases r; rfl
  | int i=>obtain ⟨t,rfl⟩:=r; rfl
  | str z=>obtain ⟨t,rfl⟩:=r; rfl
  | _=>exact absurd (show false = true from f) Bool.false_ne_true
theorem zI7 {x:V}:∀ {xs:List V} {us:List Value},Vals xs us→xs.all zGA = true→us.any (eqU x) = xs.any fun y=>eqV y x
  | _,_,.nil,_=>rfl
  | y :: xs,u :: us,.cons r t,f=>by
    rw [List.all_cons,Bool.and_eq_true] at f
    rw [List.any_cons,List.any_cons,zT5 r f.1,zI7 t f.2]
theorem zFI {A:Around} {s:Shared} {x:V} {v:Value} (rx:RelV x v) (fx:zGA x = true):∀ {xs:List V} {us:List Value},Vals xs us→xs.all zGA = true→∀ u∈us,SeqAt.EqAt A s u v (eqU x u)
  | _,_,.nil,_=>fun u hu=>by cases hu
  | y :: xs,u :: us,.cons r t,f=>fun u' hu=>by
    rw [List.all_cons,Bool.and_eq_true] at f
    rcases List.mem_cons.mp hu with rfl | hu
    · rw [zT5 r f.1]; exact zT6 r rx f.1 fx
    · exact zFI rx fx t f.2 u' hu
def inV (x:V) (xs:List V):Bool:=xs.any fun y=>eqV y x
def rIn (K:PySem.W.Frag) (neg:Bool):R2:=fun x y H Q=>∃ p xs,y = .ref p∧(SqL K H p xs∨SqT K H p xs)∧zGA x = true∧xs.all zGA = true∧Q (.bl (if neg then !inV x xs else inV x xs)) H
theorem zPK:OpR X (compareOp .In) (rIn X.K false):=by
  intro pins s σ H x y v u Q I rx ry h
  obtain ⟨p,xs,rfl,hq,fx,fs,q⟩:=h
  cases ry
  rcases hq with hq | hq
  · obtain ⟨its,r,pl,hz⟩:=I.list hq
    refine SeqAt.in_listAt (eqU x) pl.isList (fun w hw=>zFI rx fx r fs w (by simpa using hw)) ⟨.bl _,H,I,rfl,?_⟩
    rw [show its.toArray.any (eqU x) = its.any (eqU x) by simp,zI7 r fs]
    exact q
  · obtain ⟨its,r,pl,hz⟩:=I.tuple hq
    refine SeqAt.in_tupleAt (eqU x) pl (fun w hw=>zFI rx fx r fs w (by simpa using hw)) ⟨.bl _,H,I,rfl,?_⟩
    rw [show its.toArray.any (eqU x) = its.any (eqU x) by simp,zI7 r fs]
    exact q
theorem zKL:OpR X (compareOp .NotIn) (rIn X.K true):=by
  intro pins s σ H x y v u Q I rx ry h
  obtain ⟨p,xs,rfl,hq,fx,fs,q⟩:=h
  cases ry
  rcases hq with hq | hq
  · obtain ⟨its,r,pl,hz⟩:=I.list hq
    refine SeqAt.notIn_listAt (eqU x) pl.isList (fun w hw=>zFI rx fx r fs w (by simpa using hw)) ⟨.bl _,H,I,rfl,?_⟩
    rw [show its.toArray.any (eqU x) = its.any (eqU x) by simp,zI7 r fs]
    exact q
  · obtain ⟨its,r,pl,hz⟩:=I.tuple hq
    refine SeqAt.notIn_tupleAt (eqU x) pl (fun w hw=>zFI rx fx r fs w (by simpa using hw)) ⟨.bl _,H,I,rfl,?_⟩
    rw [show its.toArray.any (eqU x) = its.any (eqU x) by simp,zI7 r fs]
    exact q
theorem zKK:OpR X (compareOp .NotIn) (fun x y H Q=>∃ i j,x = .str i∧y = .str j∧Q (.bl (!(!(Builtin.Str.occurrences j i 0 j.length 1).isEmpty))) H):=by
  intro pins s σ H x y v u Q I rx ry h
  obtain ⟨i,j,rfl,rfl,q⟩:=h
  obtain ⟨t,rfl⟩:=rx
  obtain ⟨t',rfl⟩:=ry
  exact notIn_str ⟨.bl _,H,I,rfl,q⟩
theorem zL9:zD3 X (.builtin "len") (fun xs H Q=>∃ p ys,xs = [.ref p]∧(SqL X.K H p ys∨SqT X.K H p ys)∧Q (.int ys.length) H):=by
  intro pins s σ H xs us Q I r h
  obtain ⟨p,ys,rfl,hq,q⟩:=h
  obtain ⟨u,rfl,rx⟩:=zI8 r
  cases rx
  have hn:=zHK
  rcases hq with hq | hq
  · obtain ⟨its,r',pl,hz⟩:=I.list hq
    have hlen:=r'.length
    exact Calls.call_len_list pl.isList (by simp only [List.size_toArray] <;> omega) ⟨.int ys.length,H,I.tok _,⟨s.toks + 1,by rw [List.size_toArray,hlen]⟩,q⟩
  · obtain ⟨its,r',pl,hz⟩:=I.tuple hq
    have hlen:=r'.length
    exact len_tuple pl (by simp only [List.size_toArray] <;> omega) ⟨.int ys.length,H,I.tok _,⟨s.toks + 1,by rw [List.size_toArray,hlen]⟩,q⟩
theorem zL8:zD3 X (.builtin "len") (fun xs H Q=>∃ z,xs = [.str z]∧z.length≤sizeLine∧Q (.int z.length) H):=by
  intro pins s σ H xs us Q I r h
  obtain ⟨z,rfl,hz,q⟩:=h
  obtain ⟨u,rfl,t,rfl⟩:=zI8 r
  have hn:=zHK
  exact len_str (by omega) ⟨.int z.length,H,I.tok _,⟨_,rfl⟩,q⟩
theorem zL7:zD3 X (.type "list") (fun xs H Q=>∃ p ys,xs = [.ref p]∧(SqL X.K H p ys∨SqT X.K H p ys)∧∀ l,H l = none→Q (.ref l) (upd H l (.lst ys))):=by
  intro pins s σ H xs us Q I r h
  obtain ⟨p,ys,rfl,hq,q⟩:=h
  obtain ⟨u,rfl,rx⟩:=zI8 r
  cases rx
  have fin:∀ (its:List Value),Vals ys its→ys.length≤sizeLine→∀ (h':Heap) (c':Nat),(∀ b o',s.heap.get? b = some o'→h'.get? b = some o') →
      h'.get? s.heap.objs.size = some { cls:=.type "list",dict:=none,data:=.seq its.toArray c',slots:=#[] }→EP X pins σ Q (.ref s.heap.objs.size) { s with heap:=h' }:=fun its r' hz h' c' kp e =>
    ⟨.ref s.heap.objs.size,_,I.laid (t':=s.toks) kp (Nat.le_refl _) (show ObjOk X.prog X.w _ h' _ (.lst ys) from ⟨hz,its,c',r',e⟩),rfl,q _ (I.hok.fresh (Nat.le_refl _))⟩
  rcases hq with hq | hq
  · obtain ⟨its,r',pl,hz⟩:=I.list hq
    have hlen:=r'.length
    obtain ⟨o,ho,hc,n,hd⟩:=pl.isList
    exact call_list_seq p (.inl rfl) ho hc hd (fun h' c' kp e=>fin its r' hz h' c' kp e) (by simp only [List.size_toArray] <;> omega)
  · obtain ⟨its,r',pl,hz⟩:=I.tuple hq
    have hlen:=r'.length
    obtain ⟨o,ho,hc,n,hd⟩:=pl
    exact call_list_seq p (.inr rfl) ho hc hd (fun h' c' kp e=>fin its r' hz h' c' kp e) (by simp only [List.size_toArray] <;> omega)
def tyV (K:PySem.W.Frag) (T:String) (x:V) (H:Hp):Prop:=match x with
  | .str _=>T = "str"
  | .int _=>T = "int"
  | .ref p=>(T = "list"∧∃ xs,SqL K H p xs)∨(T = "tuple"∧∃ o,K.lookup p = some o∧o.cls = .type "tuple"∧o.dict = none) ∨
      (T = "dict"∧((∃ kvs,H p = some (.dK kvs))∨∃ kvs,H p = some (.dT kvs)))∨(T = "set"∧∃ S n,H p = some (.set S n))
  | _=>False
theorem zVL {pins:List (Addr × Obj)} {σ:St} {H:Hp} {s:Shared} {T:String} {x:V} {v:Value} (I:Inv X pins σ H s) (r:RelV x v) (ty:tyV X.K T x H) :
    s.TypeIs v T∧∀ a,v = .ref a→∃ ob,s.heap.get? a = some ob∧ob.dict = none:=by
  cases x with
  | str z =>
    obtain ⟨t,rfl⟩:=r
    cases (show T = "str" from ty)
    exact ⟨typeIs_str s z t,fun _ e=>nomatch e⟩
  | int i =>
    obtain ⟨t,rfl⟩:=r
    cases (show T = "int" from ty)
    exact ⟨typeIs_int s i t,fun _ e=>nomatch e⟩
  | ref p =>
    cases r
    rcases ty with ⟨rfl,xs,hq⟩ | ⟨rfl,o,hk,hc,hd⟩ | ⟨rfl,hk⟩ | ⟨rfl,S,n,hk⟩
    · obtain ⟨its,_,pl,_⟩:=I.list hq
      refine ⟨pl.isList.typeIs,fun a e=>?_⟩
      cases e
      obtain ⟨o,n,e,c,hd,_⟩:=pl
      exact ⟨o,e,hd⟩
    · refine ⟨⟨o,I.kIn p o hk,hc⟩,fun a e=>?_⟩
      cases e
      exact ⟨o,I.kIn _ o hk,hd⟩
    · have z:∃ o,s.heap.get? p = some o∧o.ExactDict:=by
        rcases hk with ⟨kvs,hk⟩ | ⟨kvs,hk⟩
        · obtain ⟨_,_,_,_,o,_,_,e,ex,_⟩:=I.hok p _ hk
          exact ⟨o,e,ex⟩
        · obtain ⟨_,_,_,_,o,_,_,e,ex,_⟩:=I.hok p _ hk
          exact ⟨o,e,ex⟩
      obtain ⟨o,e,ex⟩:=z
      refine ⟨⟨o,e,ex.1⟩,fun a e2=>?_⟩
      cases e2
      exact ⟨o,e,ex.2.1⟩
    · obtain ⟨o,_,_,_,e,ex,_⟩:=I.hok p _ hk
      refine ⟨⟨o,e,ex.1⟩,fun a e2=>?_⟩
      cases e2
      exact ⟨o,e,ex.2.1⟩
  | _=>exact False.elim ty
variable {o e:Expr} {es:List Expr} {to:TE} {t:TA} {name:Str} {apos cpos:Pos} {T id:String} {r:V→List V→Hp→VK→Prop}
end
end L2
namespace L2
open PySem PySem.Spec PyProof.Rows
def MtM (X:Cx) (id:String) (r:V→List V→Hp→VK→Prop):Prop :=
  ∀ (pins:List (Addr × Obj)) (s:Shared) (σ:St) (H:Hp) (x:V) (xs:List V) (v:Value) (us:List Value) (Q:VK),Inv X pins σ H s→RelV x v→Vals xs us→r x xs H Q →
    wpAny (model X.prog X.w) X.A (call (.builtin id) (v :: us)) (EP X pins σ Q) X.xe s
theorem Vals.one:∀ {x:V} {us:List Value},Vals [x] us→∃ u,us = [u]∧RelV x u
  | _,_,.cons r .nil=>⟨_,rfl,r⟩
section
variable {X:Cx} {pins:List (Addr × Obj)} {σ:St} {H:Hp} {s:Shared} {l b:Addr} {xs ys zs:List V}
theorem Inv.lset {its its':List Value} {n:Nat} {f:Array Value→Array Value} {t':Nat} (I:Inv X pins σ H s) (hH:H l = some (.lst xs))
    (e:s.heap.get? l = some { cls:=.type "list",data:=.seq its.toArray n }) (hf:f its.toArray = its'.toArray) (hv:Vals ys its') (hz:ys.length≤sizeLine) :
    Inv X pins σ (upd H l (.lst ys)) { s with heap:=s.heap.update l (Obj.mapSeq f),toks:=t' }:=by
  have q:=PySem.IsL.update e f
  rw [hf] at q
  refine I.write (x:=l) (e:=l) (by rw [hH]; exact trivial) (.inl rfl) (fun b' u hb hu=>(Heap.get?_update_other s.heap (Obj.mapSeq f) (Ne.symm hb)).trans hu) ⟨_,q⟩ ?_
  exact ⟨hz,its',_,hv,q⟩
theorem Inv.lnew {its:List Value} {t':Nat} (I:Inv X pins σ H s) (hv:Vals ys its) (hz:ys.length≤sizeLine) :
    Inv X pins σ (upd H s.heap.objs.size (.lst ys)) { s with heap:=s.heap.push { cls:=.type "list",data:=.seq its.toArray },toks:=t' } :=
  I.laid (fun _ _ q=>Heap.get?_push_of_some _ q) (Nat.le_refl _) ⟨hz,its,0,hv,Heap.get?_push_size _ rfl⟩
theorem Inv.fresh (I:Inv X pins σ H s):H s.heap.objs.size = none:=I.hok.fresh (Nat.le_refl _)
theorem Inv.lstM (I:Inv X pins σ H s) (hH:H l = some (.lst xs)):xs.length≤sizeLine∧∃ (its:List Value) (n:Nat),Vals xs its∧xs.length = its.length∧s.heap.get? l = some { cls:=.type "list",data:=.seq its.toArray n }:=by
  obtain ⟨z,its,n,r,e⟩:=I.hok l _ hH
  exact ⟨z,its,n,r,r.length,e⟩
theorem zRN {n:Nat} (h:n≤sizeLine):Builtin.List.listTooLong n = false:=by
  unfold Builtin.List.listTooLong
  exact decide_eq_false (by omega)
end
section
variable {X:Cx}
def zU3:V→List V→Hp→VK→Prop:=fun x vs H Q=>∃ l xs y,x = .ref l∧vs = [y]∧H l = some (.lst xs)∧xs.length < sizeLine∧Q .non (upd H l (.lst (xs ++ [y])))
theorem zPN:MtM X "list.append" zU3:=by
  intro pins s σ H x vs v us Q I rx rv h
  obtain ⟨l,xs,y,rfl,rfl,hH,hz,q⟩:=h
  cases rx
  obtain ⟨u,rfl,ru⟩:=rv.one
  obtain ⟨z,its,n,r,hl,e⟩:=I.lstM hH
  refine call_meets F.slot_list_append ⟨_,e,rfl⟩ F.entry_list_append (F.args_list_append_2 _ _) (PySem.list_append l its.toArray n u (by rw [List.size_toArray]; omega)) ⟨e,?_⟩
  refine ⟨.non,_,I.lset (its':=its ++ [u]) hH e (by simp) (r.append (.cons ru .nil)) ?_,rfl,q⟩
  rw [List.length_append,List.length_singleton]
  omega
def zU1:V→List V→Hp→VK→Prop:=fun x vs H Q=>∃ l b xs zs,x = .ref l∧vs = [.ref b]∧H l = some (.lst xs)∧H b = some (.lst zs)∧xs.length + zs.length≤sizeLine∧Q .non (upd H l (.lst (xs ++ zs)))
theorem mt_extend:MtM X "list.extend" zU1:=by
  intro pins s σ H x vs v us Q I rx rv h
  obtain ⟨l,b,xs,zs,rfl,rfl,hH,hB,hz,q⟩:=h
  cases rx
  obtain ⟨u,rfl,ru⟩:=rv.one
  cases ru
  obtain ⟨z,its,n,r,hl,e⟩:=I.lstM hH
  obtain ⟨z2,its2,n2,r2,hl2,e2⟩:=I.lstM hB
  have hsz:its.toArray.size + its2.toArray.size≤sizeLine:=by rw [List.size_toArray,List.size_toArray]; omega
  have hlong:¬ (!its.toArray.isEmpty && Builtin.List.listTooLong (its.toArray.size + its2.toArray.size)) = true:=by
    rw [zRN hsz,Bool.and_false]
    exact Bool.false_ne_true
  refine call_meets F.slot_list_extend ⟨_,e,rfl⟩ F.entry_list_extend (F.args_list_extend_2 _ _)
    (AutoSeq1.list_extend_list_list_0 l its.toArray n b its2.toArray n2 hlong (by rw [List.size_toArray]; omega) (by omega)) ⟨e,e2,?_⟩
  refine ⟨.non,_,I.lset (its':=its ++ its2) hH e (by simp) (r.append r2) ?_,rfl,q⟩
  rw [List.length_append]
  omega
def rCat:R2:=fun x y H Q=>∃ l b xs zs,x = .ref l∧y = .ref b∧H l = some (.lst xs)∧H b = some (.lst zs)∧xs.length + zs.length≤sizeLine∧∀ p,H p = none→Q (.ref p) (upd H p (.lst (xs ++ zs)))
theorem zWN:OpR X (binaryOp .Add) rCat:=by
  intro pins s σ H x y v u Q I rx ry h
  obtain ⟨l,b,xs,zs,rfl,rfl,hH,hB,hz,q⟩:=h
  cases rx
  cases ry
  obtain ⟨z,its,n,r,hl,e⟩:=I.lstM hH
  obtain ⟨z2,its2,n2,r2,hl2,e2⟩:=I.lstM hB
  refine PySem.P.add_list e e2 ?_ (by rw [List.size_toArray,List.size_toArray]; omega)
  have ea:its.toArray ++ its2.toArray = (its ++ its2).toArray:=by simp
  rw [ea]
  exact ⟨.ref _,_,I.lnew (t':=s.toks) (r.append r2) (by rw [List.length_append]; omega),rfl,q _ I.fresh⟩
end
section
variable {prog:Program} {w:World} {A:Around} {E:Value→Shared→Prop} {s:Shared}
end
section
variable {X:Cx}
end
end L2

namespace L2
open PySem PySem.Spec PyProof.Rows
section
variable {κ:Type} [DecidableEq κ]
noncomputable def zXI (kvs:List (κ × V)) (k:κ):List (κ × V):=kvs.filter fun kv=>decide (kv.1≠k)
theorem KV.drop {kvs:List (κ × V)} {vs:List (κ × Value)} (r:KV kvs vs) (k:κ):KV (zXI kvs k) (without vs k):=by
  unfold KV at r ⊢
  unfold zXI without
  induction r with
  | nil=>exact .nil
  | @cons p q ps qs h t ih =>
    obtain ⟨h1,h2⟩:=h
    rw [List.filter_cons,List.filter_cons]
    by_cases e:p.1 = k
    · have a:¬ decide (p.1≠k) = true:=by simp [e]
      have b:¬ decide (q.1≠k) = true:=by simp [h1.symm.trans e]
      rw [if_neg a,if_neg b]; exact ih
    · have e':¬ q.1 = k:=fun z=>e (h1.trans z)
      have a:decide (p.1≠k) = true:=by simp [e]
      have b:decide (q.1≠k) = true:=by simp [e']
      rw [if_pos a,if_pos b]; exact .cons ⟨h1,h2⟩ ih
end
section
variable {P:Program} {w:World} {H:Hp} {h:Heap} {a:Addr}
end
section
variable {X:Cx} {pins:List (Addr × Obj)} {σ:St} {H:Hp} {s:Shared} {a:Addr} {y v:V} {u r:Value} {o:Option V} {A:Around} {E:Value→Shared→Prop}
end
section
variable {X:Cx} {pins:List (Addr × Obj)} {σ:St} {H:Hp} {s:Shared} {a:Addr} {kvs:List (Key × V)} {k:Key} {u:Value} {A:Around} {E:Value→Shared→Prop}
end
section
variable {X:Cx} {o i e value:Expr} {pos pos' tpos:Pos} {td ty tv:TE}
end
section
variable {X:Cx} {pos:Pos}
end
structure M1 (X:Cx) (o:Expr) (m:Str) (apos:Pos) (e:Expr) (cpos:Pos):Prop where
  base:attributeBase o m X.env (eval o X.env) = eval o X.env
  few:((backTo cpos (starEach [e] X.env)).all (fun x=>!x.1) && (backToKw cpos (keywordEach [] X.env)).all (fun x=>x.1.isSome)
    && decide (([e]:List Expr).length + ([]:List Keyword).length + (if ([]:List Keyword).isEmpty then 0 else 1) < 30)) = true
  line:(apos.endLine == cpos.line) = true
  trees:backTo cpos (starEach [e] X.env) = [(false,eval e X.env)]
structure M2 (X:Cx) (o:Expr) (m:Str) (apos:Pos) (e f:Expr) (cpos:Pos):Prop where
  base:attributeBase o m X.env (eval o X.env) = eval o X.env
  few:((backTo cpos (starEach [e,f] X.env)).all (fun x=>!x.1) && (backToKw cpos (keywordEach [] X.env)).all (fun x=>x.1.isSome)
    && decide (([e,f]:List Expr).length + ([]:List Keyword).length + (if ([]:List Keyword).isEmpty then 0 else 1) < 30)) = true
  line:(apos.endLine == cpos.line) = true
  trees:backTo cpos (starEach [e,f] X.env) = [(false,eval e X.env),(false,eval f X.env)]
section
variable {X:Cx} {pins:List (Addr × Obj)} {σ:St} {H:Hp} {s:Shared} {a:Addr} {y d:V} {u r:Value} {o:Option V} {A:Around} {E:Value→Shared→Prop}
end
section
variable {X:Cx} {o e f:Expr} {apos cpos:Pos} {td ty tx:TE}
end
section
variable {X:Cx} {pins:List (Addr × Obj)} {σ:St} {H:Hp} {s:Shared} {a:Addr} {kvs:List (Key × V)} {A:Around} {E:Value→Shared→Prop}
end
section
variable {X:Cx} {pins:List (Addr × Obj)} {σ:St} {H:Hp} {s:Shared} {a:Addr} {y:V} {u:Value} {A:Around} {E:Value→Shared→Prop}
end
end L2

namespace Att
open PySem PySem.W PySem.Calls PyProof.Rows
theorem zHP {P:Params} {h:Heap}:∀ (ns:List Int) (vs:List Value),WellAll P h vs (ns.map WData.int)→IntsAre vs ns:=by
  intro ns
  induction ns with
  | nil =>
    intro vs w
    rw [List.map_nil] at w
    cases w
    exact .nil
  | cons n ns ih =>
    intro vs w
    rw [List.map_cons] at w
    cases w with
    | cons a b =>
      cases a
      exact .cons _ _ (ih _ b)
theorem zOY {l:OpenLaw} {n:Nat} (hn:l.most = some n) {P:Params} {h:Heap} {args:List WData} {vals:List Value}
    (hpre:l.row.toRowW.claim.pre args = true) (hwl:WellAll P h vals args) :
    ∃ a vs ns,vals = [Value.ref a]∧args = [WData.list (ns.map WData.int)]∧h.get? a = some { cls:=.type "list",data:=.seq vs.toArray }∧IntsAre vs ns∧ns.length≤n:=by
  have hsh:WShape.hasAll [] args [.list .int] = true:=(pre_splitW hpre).1
  have hc:l.pre.holds [] { args:=args } = true:=(pre_splitW hpre).2
  obtain ⟨d,r,rfl,h1,h2⟩:=hasAllW_cons hsh
  obtain rfl:=hasAllW_nil h2
  obtain ⟨xs,rfl,h3⟩:=hasW_list h1
  obtain ⟨ns,rfl⟩:=items_int h3
  have hlen:ns.length≤n:=by
    unfold OpenLaw.pre at hc
    have h4:(WTm.not (.lt (.lit (.int (n:Int))) (.len (.arg 0)))).holds [] { args:=[.list (ns.map .int)] } = true:=by
      have h4:=(holds_andW hc).1
      rw [hn] at h4
      exact h4
    have h5:=condW_of h4 (w_not (w_lt w_lit (w_len_list (w_arg rfl))))
    rw [List.length_map] at h5
    refine Nat.le_of_not_lt fun q=>?_
    have q':(n:Int) < ((ns.length:Nat):Int):=by omega
    first
      | (rw [decide_eq_true q'] at h5; exact absurd h5 (by decide))
      | (simp at h5; omega)
  cases hwl with
  | cons w1 w2 =>
    cases w2
    cases w1 with
    | list ho hall=>exact ⟨_,_,ns,rfl,rfl,ho,zHP ns _ hall,hlen⟩
theorem zP9 (l:OpenLaw) (args:List WData):l.row.toRowW.claim.post args (.bool true) args = true :=
  postW_of (r:=l.row.toRowW) (X:=(true == true))
    (show WShape.has [] (.bool true) .bool = true by first | rfl | decide | simp [WShape.has,WShape.arms,WShape.armsAll])
    (show (WTm.eq .res (.lit (.bool true))).value [] { args:=args,res:=some (.bool true),after:=args } = some (.bool (true == true)) from w_eq_bool (w_res rfl) w_lit) rfl
section
variable {prog:Program} {w:World} {A:Around} {E:Value→Shared→Prop} {s:Shared} {K:Frag}
end
end Att
namespace L2
open PySem PySem.Spec PyProof.Rows
theorem zK3:∀ {vs:List Value} {ns:List Int},IntsAre vs ns→Vals (ns.map V.int) vs
  | _,_,.nil=>.nil
  | _,_,.cons n t h=>.cons ⟨t,rfl⟩ (zK3 h)
def Only (H:Hp):Prop:=∀ b,H b = none∨∃ o xs,H b = some (.frz o (.lst xs))
theorem zRS {P:Program} {w:World} {K:PySem.W.Frag} {mg mb:Str→Option Value} {CX:CXT} {k:Nat} {fa a:Addr} {fd:FuncData} {x:Str} {sp:Sp} {s₁:Shared} {vs:List Value} {ns:List Int}
    (KX:K.In s₁.heap) (hns:s₁.heap.Ns mainGlobals mg) (hb:s₁.heap.Ns builtinsNs mb) (hbb:∀ x:Str,x≠"__name__"→mb x = bootBuiltins x) (hlim:s₁.heap.NoLimit) (hg:s₁.gens = #[])
    (ha:s₁.heap.get? a = some { cls:=.type "list",data:=.seq vs.toArray }) (hi:IntsAre vs ns) (hl:ns.length≤sizeLine) (hr:Room k callerA)
    (F:∀ base:Heap,K.In base→base.Ns mainGlobals mg→FnOk P w K mg base CX k fa fd [x] sp) (hbind:∀ (s:Shared) (u:Value),BindsTo s fd ⟨[u],[]⟩ [(x,u)])
    (hsp:∀ H:Hp,Only H→SqL K H a (ns.map V.int)→sp [.ref a] H (fun v _=>v = .bl true) fun _ _ _=>False)
    (hCX:∀ H e s',CX [] H s₁ (fun _ _ _=>False) e s'→False) :
    codeAny (model P w) callerA (.call (.ref fa) ⟨[.ref a],[]⟩) (fun r s'=>r = .ok (.ret (.bool true))∧OldK s₁.heap s'.heap∧s'.os = s₁.os∧AllBare s'.gens) s₁:=by
  have rv:=zK3 hi
  have lenV:=hi.length
  have core:∀ H:Hp,Only H→SqL K H a (ns.map V.int)→HOk P w H s₁.heap→(∀ b,H b≠none→b = a)→(H a≠none→K.lookup a = none) →
      codeAny (model P w) callerA (.call (.ref fa) ⟨[.ref a],[]⟩) (fun r s'=>r = .ok (.ret (.bool true))∧OldK s₁.heap s'.heap∧s'.os = s₁.os∧AllBare s'.gens) s₁:=by
    intro H hO hS hok hA hK
    have base_of:∀ {b:Addr} {o:Obj},s₁.heap.get? b = some o→H b = none→(hidT s₁.heap H).get? b = some o:=fun e n=>zRZ e n
    have noA:∀ {b:Addr} {o:Obj} {es:Array DictEntry} {ep:Nat},s₁.heap.get? b = some o→o.data = .dict es ep→H b = none:=fun {b o es ep} e d=>by
      cases q:H b with
      | none=>rfl
      | some u =>
        have e':b = a:=hA b (by rw [q]; simp)
        subst e'
        rw [ha] at e; cases e
        have d':Data.seq vs.toArray _ = Data.dict es ep:=d
        cases d'
    have nsK:∀ {b:Addr} {m:Str→Option Value},s₁.heap.Ns b m→(hidT s₁.heap H).Ns b m:=fun {b m} ⟨o,es,ep,e,d,r⟩=>⟨o,es,ep,base_of e (noA e d),d,r⟩
    have hKb:K.In (hidT s₁.heap H):=fun b o e=>base_of (KX b o e) (by
      cases q:H b with
      | none=>rfl
      | some u =>
        have e':b = a:=hA b (by rw [q]; simp)
        subst e'
        rw [hK (by rw [q]; simp)] at e; cases e)
    have hM:Mod K mg (hidT s₁.heap H):=⟨hKb,nsK hns,⟨mb,nsK hb,hbb⟩,let ⟨mc,h1,h2⟩:=hlim; ⟨mc,nsK h1,h2⟩⟩
    have e0:Env0 P w K mg (hidT s₁.heap H) callerA [] s₁ H:=⟨rfl,hM,fun b o e=>zUF e,Nat.le_of_eq (zPZ _ _),trivial,fun b hb=>absurd (show b∈([]:List Addr) from hb) (by simp),hok,.of_eq hg⟩
    refine codeAny_mono ((F _ hKb (nsK hns)).run callerA [] s₁ H ⟨[.ref a],[]⟩ [.ref a] [.ref a] _ _ hr e0 (hbind s₁ (.ref a)) (.cons rfl .nil) (hsp H hO hS)) fun r s' h=>?_
    cases r with
    | error e=>exact (hCX H e s' h).elim
    | ok fl =>
      cases fl with
      | next=>exact False.elim h
      | brk=>exact False.elim h
      | cont=>exact False.elim h
      | ret u =>
        obtain ⟨v,H',os,bare,un,hok',r',q⟩:=h
        have q':v = .bl true:=q
        subst q'
        obtain rfl:u = Value.bool true:=r'
        refine ⟨rfl,OldK.of_keep fun b o e=>?_,os,bare⟩
        cases q:H b with
        | none=>exact un.keep b o e q (by intro z; exact absurd (show b∈([]:List Addr) from z) (by simp)) (by simp)
        | some u =>
          rcases hO b with z | ⟨ob,xs,z⟩
          · rw [q] at z; cases z
          · have z2:=un.frzs b ob _ z
            obtain ⟨e1,_⟩:=hok b _ z
            obtain ⟨e2,_⟩:=hok' b _ z2
            rw [e] at e1; cases e1
            exact e2
  cases hk:K.lookup a with
  | some o =>
    have e:=KX a o hk
    rw [ha] at e
    cases e
    refine core (fun _=>none) (fun _=>.inl rfl) (.inr ⟨_,vs.toArray,_,hk,rfl,rfl,rfl,by rw [List.size_toArray,lenV]; exact hl,by simpa using rv⟩) (fun b u z=>by have z':(none:Option HO) = some u:=z; cases z') (fun b z=>absurd rfl z) fun z=>absurd rfl z
  | none =>
    refine core (fun b=>if b = a then some (.frz { cls:=.type "list",data:=.seq vs.toArray } (.lst (ns.map V.int))) else none) (fun b=>?_) (.inl (.inr ⟨{ cls:=.type "list",data:=.seq vs.toArray },if_pos rfl⟩)) (fun b u z=>?_) (fun b z=>?_) fun _=>hk
    · by_cases hb:b = a
      · exact .inr ⟨_,_,if_pos hb⟩
      · exact .inl (if_neg hb)
    · by_cases hb:b = a
      · have z':=(if_pos hb).symm.trans z
        cases z'
        subst hb
        exact ⟨ha,by rw [List.length_map]; exact hl,vs,_,rv,ha⟩
      · have z':=(if_neg hb).symm.trans z
        cases z'
    · by_cases hb:b = a
      · exact hb
      · exact absurd (if_neg hb) z
end L2
namespace L2
open PySem PySem.Spec PyProof.Rows
end L2
namespace L2
open PySem PySem.Spec PyProof.Rows
noncomputable def zDU (s:Stmt):Arguments:=match s with
  | .FunctionDef _ a _ _ _ _ _ _ _ _=>a
  | _=>{ posonlyargs:=[],args:=[],vararg:=none,kwonlyargs:=[],kw_defaults:=[],kwarg:=none,defaults:=[] }
noncomputable def zCE (s:Stmt):List Stmt:=match s with
  | .FunctionDef _ _ b _ _ _ _ _ _ _=>b
  | _=>[]
noncomputable def zAC (s:Stmt):Scope:=match s with
  | .FunctionDef _ _ _ _ _ _ sc _ _ _=>sc
  | _=>{ kind:=.function,names:=[],isGenerator:=false,isCoroutine:=false }
abbrev CX0:CXT:=fun _ _ _ _ _ _=>False
abbrev E0:XK:=fun _ _ _=>False
theorem zYE {X:Cx}:zQN CX0 X E0:=fun _ _ _ _ _ _ _ h=>h.elim
structure Fun (K:PySem.W.Frag) (x qual:Str) (st:Stmt) (f:Addr) (fd:FuncData):Prop where
  ex:∃ (oc:Value) (od:Option Addr) (kV doc pm:Value) (an:Option Addr) (cdv ct:Value) (osl:Array (Option Value)),
    fd = PySem.W.fnOf x qual (zDU st) (zCE st) (zAC st) .none kV doc pm an cdv ct∧K.lookup f = some ⟨oc,od,.func fd,osl⟩∧PySem.W.codeIn K cdv qual = true
  kp:PySem.W.keepIn K (.ref f) = true
section
variable {P:Program} {w:World} {K:PySem.W.Frag} {mg:Str→Option Value} {base:Heap}
theorem Fun.ok {x qual:Str} {st:Stmt} {f:Addr} {fd:FuncData} {N ps:List Str} {k:Nat} {sp:Sp} (F:Fun K x qual st f fd) (S:FnScope N ps (zAC st)) (len:∀ vs H Q E,sp vs H Q E→vs.length = ps.length)
    (hbody:∀ (cdv:Value) (A:Around) (outer:List Env) (s:Shared) (H:Hp) (vs:List V) (Q:VK) (E:XK),Room k (A.deeper (envOfC qual (zAC st) s.heap.objs.size f cdv))→sp vs H Q E →
      ∃ t,PSs (cxOf CX0 P w K mg base N qual (zAC st) f cdv A outer s H E).nox (zCE st) t∧t { nx:=fun _ H'=>Q .non H',rt:=Q } (start N vs) H):FnOk P w K mg base CX0 (k + 1) f fd ps sp:=by
  obtain ⟨oc,od,kV,doc,pm,an,cdv,ct,osl,rfl,lk,hcd⟩:=F.ex
  refine zXA lk hcd S len fun A outer s H vs Q E hr hsp=>?_
  obtain ⟨t,h,q⟩:=hbody cdv A outer s H vs Q E hr hsp
  exact ⟨t,h.nox,q⟩
theorem Fun.binds {x qual:Str} {st:Stmt} {f:Addr} {fd:FuncData} {ps:List Str} (F:Fun K x qual st f fd)
    (h:∀ (kV doc pm:Value) (an:Option Addr) (cdv ct:Value) (us:List Value),us.length = ps.length→bindArgs (PySem.W.fnOf x qual (zDU st) (zCE st) (zAC st) .none kV doc pm an cdv ct) ⟨us,[]⟩ = pure (ps.zip us)):Binds K fd ps []:=by
  obtain ⟨oc,od,kV,doc,pm,an,cdv,ct,osl,rfl,lk,hcd⟩:=F.ex
  exact .all (h kV doc pm an cdv ct)
theorem zT2 {x qual:Str} {st:Stmt} {f:Addr} {oc:Value} {od an:Option Addr} {osl:Array (Option Value)} {kV doc pm cdv ct:Value} (l:K.lookup f = some ⟨oc,od,.func (PySem.W.fnOf x qual (zDU st) (zCE st) (zAC st) .none kV doc pm an cdv ct),osl⟩)
    (c:PySem.W.codeIn K cdv qual = true) (k:PySem.W.keepIn K (.ref f) = true):Fun K x qual st f (PySem.W.fnOf x qual (zDU st) (zCE st) (zAC st) .none kV doc pm an cdv ct):=⟨⟨oc,od,kV,doc,pm,an,cdv,ct,osl,rfl,l,c⟩,k⟩
end
section
variable {X:Cx}
end
def Same (H H':Hp):Prop:=∀ b o,H b = some o→H' b = some o
theorem Same.refl (H:Hp):Same H H:=fun _ _ h=>h
theorem Same.trans {H H1 H2:Hp} (a:Same H H1) (b:Same H1 H2):Same H H2:=fun c o h=>b c o (a c o h)
theorem Same.free {H H':Hp} (e:Same H H') {l:Addr} (h:H' l = Option.none):H l = Option.none:=by
  cases q:H l with
  | none=>rfl
  | some o =>
    rw [e l o q] at h
    cases h
theorem Same.seq {K:PySem.W.Frag} {H H':Hp} {a:Addr} {xs:List V} (e:Same H H') (h:SqL K H a xs):SqL K H' a xs:=by
  rcases h with (h | ⟨o,h⟩) | h
  · exact .inl (.inl (e _ _ h))
  · exact .inl (.inr ⟨o,e _ _ h⟩)
  · exact .inr h
section
variable {κ:Type} [DecidableEq κ]
end
end L2

namespace L2
open PySem PySem.Spec PyProof.Rows
theorem asN {a b:Nat} (h:a < b):a < b:=h
theorem asL {a b:Nat} (h:a≤b):a≤b:=h
theorem asE {a b:Nat} (h:a = b):a = b:=h
noncomputable def clos (cells:List (Str × Addr)):List (Str × NameKind)→List (Str × Addr)→List (Str × Addr)
  | [],acc=>acc
  | (n,k) :: r,acc=>if k == .free then clos cells r ((n,(cells.lookup n).getD 0) :: acc) else clos cells r acc
theorem zES (cells:List (Str × Addr)):∀ (names:List (Str × NameKind)) (acc:List (Str × Addr)),clos cells names acc = clos cells names [] ++ acc
  | [],_=>rfl
  | (n,k) :: r,acc=>by
    unfold clos
    split
    · rw [zES cells r (_ :: acc),zES cells r [_],List.append_assoc]; rfl
    · exact zES cells r acc
theorem zGW {cells:List (Str × Addr)} {x:Str} {c:Addr}:∀ {names:List (Str × NameKind)},(x,c)∈clos cells names []→(x,NameKind.free)∈names∧c = (cells.lookup x).getD 0
  | [],h=>by simp [clos] at h
  | (n,k) :: r,h=>by
    unfold clos at h
    split at h
    · rename_i hk
      rw [zES] at h
      rcases List.mem_append.mp h with h | h
      · obtain ⟨h1,h2⟩:=zGW h
        exact ⟨List.mem_cons_of_mem _ h1,h2⟩
      · have e:=List.mem_singleton.mp h
        injection e with e1 e2
        subst e1
        have hk':k = .free:=by simpa using hk
        subst hk'
        exact ⟨List.mem_cons_self,e2⟩
    · obtain ⟨h1,h2⟩:=zGW h
      exact ⟨List.mem_cons_of_mem _ h1,h2⟩
theorem zJW {cells:List (Str × Addr)} {x:Str}:∀ {names:List (Str × NameKind)},(x,NameKind.free)∈names→(x,(cells.lookup x).getD 0)∈clos cells names []
  | [],h=>by simp at h
  | (n,k) :: r,h=>by
    unfold clos
    rcases List.mem_cons.mp h with e | h
    · injection e with e1 e2
      subst e1; subst e2
      rw [if_pos (by rfl),zES]
      exact List.mem_append_right _ (by simp)
    · split
      · rw [zES]
        exact List.mem_append_left _ (zJW h)
      · exact zJW h
theorem zBX:∀ (names:List (Str × NameKind)) (n:Nat) (acc:List (Str × Addr)),cellsFrom n names acc = cellsFrom n names [] ++ acc
  | [],_,_=>rfl
  | (x,k) :: r,n,acc=>by
    unfold cellsFrom
    split
    · rw [zBX r (n + 1) (_ :: acc),zBX r (n + 1) [_],List.append_assoc]; rfl
    · exact zBX r n acc
theorem zCT {x:Str} {c:Addr}:∀ {names:List (Str × NameKind)} {n:Nat},(x,c)∈cellsFrom n names []→(x,NameKind.cell)∈names
  | [],_,h=>by simp [cellsFrom] at h
  | (y,k) :: r,n,h=>by
    unfold cellsFrom at h
    split at h
    · rename_i hk
      rw [zBX] at h
      rcases List.mem_append.mp h with h | h
      · exact List.mem_cons_of_mem _ (zCT h)
      · have e:=List.mem_singleton.mp h
        injection e with e1 e2
        subst e1
        have hk':k = .cell:=by simpa using hk
        subst hk'
        exact List.mem_cons_self
    · exact List.mem_cons_of_mem _ (zCT h)
theorem zCA {α:Type} {x:Str} {a:α}:∀ {l:List (Str × α)},(l.map (·.1)).Nodup→(x,a)∈l→l.lookup x = some a
  | [],_,h=>by simp at h
  | (y,b) :: r,nd,h=>by
    have nd':(y :: r.map (·.1)).Nodup:=nd
    obtain ⟨h1,h2⟩:=List.nodup_cons.mp nd'
    rcases List.mem_cons.mp h with e | hm
    · injection e with e1 e2
      subst e1; subst e2
      rw [List.lookup_cons,beq_self_eq_true]
    · have hne:(x == y) = false:=by
        rw [beq_eq_false_iff_ne]
        rintro rfl
        exact h1 (List.mem_map.mpr ⟨(x,a),hm,rfl⟩)
      rw [List.lookup_cons,hne]
      exact zCA h2 hm
theorem zEX {α:Type} {x:Str}:∀ {l:List (Str × α)},(∀ a,(x,a) ∉ l)→l.lookup x = none
  | [],_=>rfl
  | (y,b) :: r,h=>by
    have hne:(x == y) = false:=by
      rw [beq_eq_false_iff_ne]
      rintro rfl
      exact h b List.mem_cons_self
    rw [List.lookup_cons,hne]
    exact zEX fun a m=>h a (List.mem_cons_of_mem _ m)
theorem zEW {α:Type} {x:Str} {a:α}:∀ {l:List (Str × α)},(x,a)∈l→∃ b,l.lookup x = some b
  | [],h=>by simp at h
  | (y,b) :: r,h=>by
    rw [List.lookup_cons]
    cases e:x == y with
    | true=>exact ⟨b,rfl⟩
    | false =>
      rcases List.mem_cons.mp h with q | q
      · injection q with q1 _
        subst q1
        rw [beq_self_eq_true] at e; cases e
      · exact zEW q
theorem zIM {α:Type} {x:Str}:∀ (l k:List (Str × α)),(l ++ k).lookup x = (l.lookup x).or (k.lookup x)
  | [],k=>by simp
  | (y,b) :: r,k=>by
    show List.lookup x ((y,b) :: (r ++ k)) = _
    rw [List.lookup_cons,List.lookup_cons]
    cases x == y with
    | true=>rfl
    | false=>exact zIM r k
def zXV (sc:Scope) (env:Env):Prop:=∀ x,(x,NameKind.free)∈sc.names→env.kindOf x = some .cell∨env.kindOf x = some .free
theorem zFW {sc:Scope} {env:Env} (h:∀ x,(x,NameKind.free)∈sc.names→∃ c,env.cells.lookup x = some c):closureFor sc env = pure (clos env.cells sc.names []):=by
  have go:∀ (names:List (Str × NameKind)) (acc:List (Str × Addr)),(∀ x,(x,NameKind.free)∈names→∃ c,env.cells.lookup x = some c) →
      (forIn names acc fun (x:Str × NameKind) (cs:List (Str × Addr))=>(match x with | (name,kind)=>if (kind == NameKind.free) = true then (do let c ← cellOf env name; pure (ForInStep.yield ((name,c) :: cs))) else pure (ForInStep.yield cs):Sem (ForInStep (List (Str × Addr))))) = pure (clos env.cells names acc):=by
    intro names
    induction names with
    | nil=>intro acc _; rfl
    | cons p r ih =>
      intro acc hn
      obtain ⟨n,k⟩:=p
      have hr:∀ x,(x,NameKind.free)∈r→∃ c,env.cells.lookup x = some c:=fun x hx=>hn x (List.mem_cons_of_mem _ hx)
      rw [List.forIn_cons]
      unfold clos
      by_cases hk:(k == NameKind.free) = true
      · have hk':k = .free:=by simpa using hk
        subst hk'
        obtain ⟨c,hc⟩:=hn n List.mem_cons_self
        have e:cellOf env n = pure c:=by unfold cellOf; rw [hc]
        rw [if_pos (by rfl)]
        simp only [if_pos (show (NameKind.free == NameKind.free) = true from rfl),e,hc,Option.getD_some,pure_bind]
        exact ih _ hr
      · rw [if_neg hk]
        simp only [if_neg hk,pure_bind]
        exact ih _ hr
  unfold closureFor
  have q:=go sc.names [] h
  first
    | (rw [show (forIn sc.names ([]:List (Str × Addr)) _:Sem (List (Str × Addr))) = _ from q]; rfl)
    | (refine (congrArg (fun z=>z >>= pure) q).trans ?_; rfl)
    | (simp only [q]; rfl)
    | exact q
def zER (sc:Scope) (C:Addr) (env:Env):Env :=
  { scope:=relabel sc env,locals:=C,globals:=env.globals,cells:=cellsFrom (C + 1) sc.names (clos env.cells sc.names []),qual:=env.qual,func:=none,code:=env.code,frame:=env.frame,builtins:=env.builtins }
theorem zFE {M:Model} {A:Around} {E:Value→Shared→Prop} {s:Shared} {sc:Scope} {env:Env} {cl:List (Str × Addr)} {Q:Env→Shared→Prop}
    (hQ:Q { scope:=sc,locals:=s.heap.objs.size,globals:=env.globals,cells:=cellsFrom (s.heap.objs.size + 1) sc.names cl,qual:=env.qual,func:=none,code:=env.code,frame:=env.frame,builtins:=env.builtins }
      { s with heap:=pushCells (s.heap.push { cls:=.type "dict",data:=.dict #[] }) sc.names }) :
    wpAny M A (newFunctionEnv sc env.globals cl [] env.qual none .none (some env)) Q E s:=by
  simp only [newFunctionEnv,Option.isSome_some,if_true]
  refine wpAny_bind (wpAny_alloc ?_)
  refine wpAny_bind (wpAny_layCells _ (fun name kind cells=>by cases hkc:kind == NameKind.cell <;> simp [hkc]) _ _ _ _ ?_)
  rw [show ({ s with heap:=s.heap.push { cls:=.type "dict",data:=.dict #[] } }:Shared).heap.objs.size = s.heap.objs.size + 1 from Heap.size_push ..]
  refine wpAny_bind ?_
  rw [List.forIn_nil]
  exact wpAny_pure (wpAny_pure hQ)
def zDJ (X:Cx) (N':List Str) (sc:Scope) (C:Addr) (s:Shared) (H:Hp) (fp:List Addr):Cx :=
  { X with N:=N',s₀:=s,H₀:=H,env:=zER sc C X.env,outer:=X.stack,stack:=X.stack,ex:=fp,fn:=fun x=>sc.names.lookup x == some .cell,pn:=[],xe:=fun _ _=>False }
def PTs (X:Cx) (ifs:List Expr) (t:TT):Prop :=
  ∀ (pins:List (Addr × Obj)) (s:Shared) (σ:St) (H:Hp) (Q:Bool→Hp→Prop),Inv X pins σ H s→t σ H Q →
    wpAny (model X.prog X.w) X.A (forIn ifs true fun c r=>if r = true then do let ok ← isTrue c X.env (eval c X.env); pure (ForInStep.yield ok) else pure (ForInStep.yield r)) (TP X pins σ Q) X.xe s
noncomputable def tYes:TT:=fun _ H Q=>Q true H
theorem zBD {X:Cx}:PTs X [] tYes:=fun _ _ _ H _ I h=>wpAny_tests_nil ⟨H,I,h⟩
theorem zDP {X:Cx} {c:Expr} {t:TT} (h:PT X c t):PTs X [c] t:=fun pins s σ H Q I q=>wpAny_tests_one (h pins s σ H Q I q)
structure CompNames (N N':List Str) (k:Nat) (sc:Scope) (env:Env):Prop where
  kind:sc.kind = .function
  nd:(sc.names.map (·.1)).Nodup
  len:N'.length = N.length + k
  old:∀ (i:Nat) (x:Str),N'[i]? = some x→i < N.length→(x,NameKind.free)∈sc.names∧N[i]? = some x∨sc.names.lookup x = none
  free:zXV sc env
theorem zBZ {sc:Scope} {env:Env} {x:Str} {k:NameKind}:∀ {names:List (Str × NameKind)},
    (names.map fun (n,k)=>if (k == NameKind.free && env.scope.kind == .function && env.kindOf n == some .cell) then (n,NameKind.cell) else (n,k)).lookup x = some k →
    names.lookup x = some k∨(names.lookup x = some .free∧k = .cell)
  | [],h=>by simp at h
  | (n,j) :: r,h=>by
    have ih:=@zBZ sc env x k r
    rw [List.map_cons] at h
    rw [List.lookup_cons]
    by_cases hc:(j == NameKind.free && env.scope.kind == .function && env.kindOf n == some .cell) = true
    · have h':List.lookup x ((n,NameKind.cell) :: (r.map fun (n,k)=>if (k == NameKind.free && env.scope.kind == .function && env.kindOf n == some .cell) then (n,NameKind.cell) else (n,k))) = some k:=by
        rw [← h]; simp only [if_pos hc]
      rw [List.lookup_cons] at h'
      cases e:x == n with
      | true =>
        rw [e] at h'
        have hk:k = .cell:=(Option.some.inj h').symm
        have hj:j = .free:=by
          simp only [Bool.and_eq_true,beq_iff_eq] at hc
          exact hc.1.1
        subst hj
        exact .inr ⟨rfl,hk⟩
      | false =>
        rw [e] at h'
        exact ih h'
    · have h':List.lookup x ((n,j) :: (r.map fun (n,k)=>if (k == NameKind.free && env.scope.kind == .function && env.kindOf n == some .cell) then (n,NameKind.cell) else (n,k))) = some k:=by
        rw [← h]; simp only [if_neg hc]
      rw [List.lookup_cons] at h'
      cases e:x == n with
      | true=>rw [e] at h'; exact .inl h'
      | false=>rw [e] at h'; exact ih h'
section
variable {X:Cx} {N':List Str} {k:Nat} {sc:Scope} {pins:List (Addr × Obj)} {σ:St} {H:Hp} {s:Shared}
theorem zO9 {C:Addr} {x:Str} {c:Addr} (nd:(sc.names.map (·.1)).Nodup) (h:(zER sc C X.env).cells.lookup x = some c) :
    ((x,c)∈cellsFrom (C + 1) sc.names []∧(x,NameKind.cell)∈sc.names)∨((x,NameKind.free)∈sc.names∧c = (X.env.cells.lookup x).getD 0):=by
  have m:=mem_of_lookup h
  have m':(x,c)∈cellsFrom (C + 1) sc.names (clos X.env.cells sc.names []):=m
  rw [zBX] at m'
  rcases List.mem_append.mp m' with z | z
  · exact .inl ⟨z,zCT z⟩
  · exact .inr (zGW z)
theorem zEY {C:Addr} {x:Str} (nd:(sc.names.map (·.1)).Nodup) (h:(x,NameKind.free)∈sc.names):(zER sc C X.env).cells.lookup x = some ((X.env.cells.lookup x).getD 0):=by
  show (cellsFrom (C + 1) sc.names (clos X.env.cells sc.names [])).lookup x = _
  rw [zBX,zIM,zEX (fun a m=>?_),Option.none_or]
  · obtain ⟨b,hb⟩:=zEW (zJW (cells:=X.env.cells) h)
    have:=(zGW (mem_of_lookup hb)).2
    rw [hb,this]
  · have e1:=zCA nd (zCT m)
    rw [zCA nd h] at e1
    cases e1
theorem zRY (I:Inv X pins σ H s) (hc:X.calm = true) (S:CompNames X.N N' k sc X.env) {fp:List Addr} (hf:∀ b∈fp,FpOk X pins H b) (hfo:∀ b∈fp,∃ o,s.heap.get? b = some o)
    {s4:Shared} {D C:Addr} (eD:D = s.heap.objs.size) (eC:C = s.heap.objs.size + 1)
    (e4:s4 = { s with heap:=pushCells ((s.heap.push { cls:=.type "list",data:=.seq #[] 0 }).push { cls:=.type "dict",data:=.dict #[] }) sc.names }) :
    Inv (zDJ X N' sc C s H fp) [(D,{ cls:=.type "list",data:=.seq #[] 0 })] (σ ++ List.replicate k none) H s4∧∀ b∈fp,FpOk (zDJ X N' sc C s H fp) [(D,{ cls:=.type "list",data:=.seq #[] 0 })] H b:=by
  subst eD eC e4
  generalize hh1:s.heap.push { cls:=.type "list",data:=.seq #[] 0 } = h1
  generalize hh2:h1.push { cls:=.type "dict",data:=.dict #[] } = h2
  have sz1:h1.objs.size = s.heap.objs.size + 1:=by rw [← hh1]; exact Heap.size_push ..
  have sz2:h2.objs.size = s.heap.objs.size + 2:=by rw [← hh2,Heap.size_push,sz1]
  have k1:∀ b o,s.heap.get? b = some o→h1.get? b = some o:=fun b o e=>by rw [← hh1]; exact Heap.get?_push_of_some _ e
  have k2:∀ b o,h1.get? b = some o→h2.get? b = some o:=fun b o e=>by rw [← hh2]; exact Heap.get?_push_of_some _ e
  have k3:∀ b o,h2.get? b = some o→(pushCells h2 sc.names).get? b = some o:=pushCells_keeps sc.names h2
  have kk:∀ b o,s.heap.get? b = some o→(pushCells h2 sc.names).get? b = some o:=fun b o e=>k3 b o (k2 b o (k1 b o e))
  have own:CellsOk (pushCells h2 sc.names) h2.objs.size (cellsFrom h2.objs.size sc.names []):=cellsFrom_ok sc.names h2 h2.objs.size [] ⟨fun _ _ hm=>(nomatch hm),List.Pairwise.nil⟩ (Nat.le_refl _)
  have eC1:s.heap.objs.size + 1 + 1 = h2.objs.size:=by rw [sz2]
  have freeCell:∀ x,(x,NameKind.free)∈sc.names→∃ c,X.env.cells.lookup x = some c:=fun x hx=>I.ok.has x (S.free x hx)
  have cells:∀ x c,(zER sc (s.heap.objs.size + 1) X.env).cells.lookup x = some c →
      ((x,c)∈cellsFrom h2.objs.size sc.names []∧(x,NameKind.cell)∈sc.names∧(pushCells h2 sc.names).IsCell c none∧h2.objs.size≤c)∨((x,NameKind.free)∈sc.names∧X.env.cells.lookup x = some c):=fun x c e=>by
    rcases zO9 S.nd e with ⟨m,q⟩ | ⟨m,q⟩
    · rw [eC1] at m
      exact .inl ⟨m,q,(own.empty x c m).1,(own.empty x c m).2⟩
    · obtain ⟨c',hc'⟩:=freeCell x m
      rw [hc',Option.getD_some] at q
      subst q
      exact .inr ⟨m,hc'⟩
  have old:∀ x c,X.env.cells.lookup x = some c→c < s.heap.objs.size:=fun x c e=>by
    obtain ⟨v,q⟩:=I.cell x c e
    exact q.lt
  have fpl:∀ b∈fp,b < s.heap.objs.size:=fun b hb=>by
    obtain ⟨o,e⟩:=hfo b hb
    exact Heap.lt_size e
  have hCn:H (s.heap.objs.size + 1) = none:=I.hok.fresh (Nat.le_succ _)
  have hDn:H s.heap.objs.size = none:=I.hok.fresh (Nat.le_refl _)
  have nofs:∀ a,s.heap.objs.size≤a→a ∉ frs X.stack:=fun a ha hb=>by
    rcases List.mem_cons.mp (I.stkSub a hb) with e | hb
    · have t1:=asN I.lt
      have t2:=asE e
      have t3:=asL ha
      omega
    · exact I.nofs ha hb
  have fin:∀ b∈fp,b ∉ frs X.stack:=fun b hb z=>by
    obtain ⟨f0,f1,f2,f3,f4,f5⟩:=hf b hb
    rcases List.mem_cons.mp (I.stkSub b z) with e | z
    · exact f1 e
    · exact f2 z
  have ok:(zDJ X N' sc (s.heap.objs.size + 1) s H fp).Ok:=by
    refine ⟨I.ok.mod,S.kind,I.ok.glob,I.ok.blt,Nat.le_succ _,?_,?_,?_,I.ok.hd,I.ok.frames,.inl rfl,?_,I.bs,Nat.le_trans I.ok.bsz I.sz,?_,fin,I.stack,I.stkFree⟩
    · intro x y c hx hy
      rcases cells x c hx with ⟨m1,_,_,g1⟩ | ⟨m1,g1⟩ <;> rcases cells y c hy with ⟨m2,_,_,g2⟩ | ⟨m2,g2⟩
      · exact name_of_addr own.apart m1 m2
      · exact absurd (Nat.lt_of_lt_of_le (old y c g2) (Nat.le_trans (by rw [sz2]; exact Nat.le_add_right _ _) g1)) (Nat.lt_irrefl _)
      · exact absurd (Nat.lt_of_lt_of_le (old x c g1) (Nat.le_trans (by rw [sz2]; exact Nat.le_add_right _ _) g2)) (Nat.lt_irrefl _)
      · exact I.ok.inj x y c g1 g2
    · intro x hx
      have hx:(relabel sc X.env).names.lookup x = some .cell∨(relabel sc X.env).names.lookup x = some .free:=hx
      have two:sc.names.lookup x = some .cell∨sc.names.lookup x = some .free:=by
        rcases hx with hx | hx
        · rcases zBZ (sc:=sc) hx with q | ⟨q,_⟩
          · exact .inl q
          · exact .inr q
        · rcases zBZ (sc:=sc) hx with q | ⟨_,q⟩
          · exact .inr q
          · cases q
      rcases two with q | q
      · have:=PySem.W.cellsFrom_some sc.names (s.heap.objs.size + 1 + 1) (clos X.env.cells sc.names []) (.inl q)
        exact Option.isSome_iff_exists.mp this
      · exact ⟨_,zEY S.nd (mem_of_lookup q)⟩
    · intro x c hx e
      have hx:(sc.names.lookup x == some NameKind.cell) = true:=hx
      have hx':sc.names.lookup x = some .cell:=by simpa using hx
      rcases cells x c e with ⟨_,_,_,g⟩ | ⟨m,_⟩
      · show s.heap.objs.size≤c
        omega
      · rw [zCA S.nd m] at hx'
        cases hx'
    · intro b hb
      refine ⟨?_,fun x c e z=>?_⟩
      · exact Nat.ne_of_lt (Nat.lt_succ_of_lt (fpl b hb))
      · rcases cells x c e with ⟨_,_,_,g⟩ | ⟨_,g⟩
        · have t1:=asN (fpl b hb)
          have t2:=asL g
          have t3:=asE z
          omega
        · exact (hf b hb).2.2.2.2.1 x c g z
    · intro b o e hb
      rcases (hf b hb).2.2.2.1 with z | z
      · exact I.ok.noex b o e z
      · exact absurd (Nat.lt_of_lt_of_le (Heap.lt_size e) (Nat.le_trans I.ok.bsz z)) (Nat.lt_irrefl _)
  have ns:(pushCells h2 sc.names).Ns (s.heap.objs.size + 1) fun _=>none:=by
    have q:h2.Ns h1.objs.size fun _=>none:=by rw [← hh2]; exact Heap.Ns.new h1 (.type "dict")
    rw [sz1] at q
    exact q.keeps k3
  have hD1:h1.get? s.heap.objs.size = some { cls:=.type "list",data:=.seq #[] 0 }:=by rw [← hh1]; exact Heap.get?_push_size _ rfl
  refine ⟨⟨ok,rfl,I.bare,Un.kept kk,⟨_,ns,?_⟩,?_,hCn,?_,?_,I.hok.kept kk,?_⟩,?_⟩
  · intro i x v h1 h2 h3
    have hi:i < X.N.length:=by
      rw [← I.len]
      by_cases hi:i < σ.length
      · exact hi
      · rw [List.getElem?_append_right (by omega),List.getElem?_replicate] at h2
        split at h2 <;> cases h2
    have h2':σ[i]? = some (some v):=by
      rw [List.getElem?_append_left (by rw [I.len]; exact hi)] at h2
      exact h2
    have h1:N'[i]? = some x:=h1
    rcases S.old i x h1 hi with ⟨m,e⟩ | e
    · obtain ⟨mm,hn,hl⟩:=I.loc
      have hv:Vis X.env.scope x:=(S.free x m).elim (fun z=>.inr (.inl z)) fun z=>.inr (.inr z)
      obtain ⟨u,r,l⟩:=hl i x v e h2' hv
      refine ⟨u,r,?_⟩
      rcases l with ⟨z,_⟩ | ⟨_,c,hc,hcell⟩
      · rcases S.free x m with z' | z' <;> rw [z] at z' <;> cases z'
      · refine .inr ⟨?_,c,?_,hcell.keeps kk⟩
        · have hv3:(relabel sc X.env).names.lookup x = some .local∨(relabel sc X.env).names.lookup x = some .cell∨(relabel sc X.env).names.lookup x = some .free:=h3
          rcases hv3 with q | q | q
          · rcases zBZ (sc:=sc) q with q | ⟨_,q⟩
            · rw [zCA S.nd m] at q; cases q
            · cases q
          · exact .inl q
          · exact .inr q
        · have q:=zEY (X:=X) (C:=s.heap.objs.size + 1) S.nd m
          rw [hc,Option.getD_some] at q
          exact q
    · exfalso
      have hv3:(relabel sc X.env).names.lookup x = some .local∨(relabel sc X.env).names.lookup x = some .cell∨(relabel sc X.env).names.lookup x = some .free:=h3
      rcases hv3 with q | q | q <;> rcases zBZ (sc:=sc) q with q | ⟨q,_⟩ <;> rw [e] at q <;> cases q
  · intro x c e
    rcases cells x c e with ⟨_,_,g,_⟩ | ⟨_,g⟩
    · exact ⟨_,g⟩
    · obtain ⟨v,q⟩:=I.cell x c g
      exact ⟨v,q.keeps kk⟩
  · intro x c e
    rcases cells x c e with ⟨_,_,_,g⟩ | ⟨_,g⟩
    · exact I.hok.fresh (by omega)
    · exact I.freeC x c g
  · intro p hp
    have hp':p = (s.heap.objs.size,{ cls:=.type "list",data:=.seq #[] 0 }):=by
      have:p∈([] ++ [(s.heap.objs.size,({ cls:=.type "list",data:=.seq #[] 0 }:Obj))]:List (Addr × Obj)):=hp
      simpa using this
    subst hp'
    refine ⟨k3 _ _ (k2 _ _ hD1),hDn,?_,nofs _ (Nat.le_refl _),fun v z=>by cases z⟩
    show s.heap.objs.size≠s.heap.objs.size + 1
    omega
  · show (σ ++ List.replicate k none).length = N'.length
    rw [List.length_append,List.length_replicate,I.len,S.len]
  · intro b hb
    obtain ⟨f0,f1,f2,f3,f4,f5⟩:=hf b hb
    refine ⟨f0,(ok.exf b hb).1,fin b hb,.inl hb,fun x c e=>(ok.exf b hb).2 x c e,fun p hp=>?_⟩
    have hp':p = (s.heap.objs.size,{ cls:=.type "list",data:=.seq #[] 0 }):=by
      have:p∈([] ++ [(s.heap.objs.size,({ cls:=.type "list",data:=.seq #[] 0 }:Obj))]:List (Addr × Obj)):=hp
      simpa using this
    subst hp'
    exact Nat.ne_of_gt (fpl b hb)
end
theorem zEU {prog:Program} {w:World} {A:Around} {R:Result→Shared→Prop} {s:Shared} {elt target iter:Expr} {ifs:List Expr} {scope:Scope} {pos:Pos} {it acc:Value} {env:Env} (I:Nat→Shared→Prop)
    (turn:∀ n s,I n s→wpAny (model prog w) A (pyNext it) (fun r s₁=>match r with
      | none=>R (.ok .next) s₁
      | some v=>wpAny (model prog w) A (letOwnedTupleGo target it v) (fun _ s₂'=>wpAny (model prog w) A (assign target env v) (fun _ s₂ =>
          wpAny (model prog w) A (forIn ifs true fun c r=>if r = true then do let ok ← isTrue c env (eval c env); pure (ForInStep.yield ok) else pure (ForInStep.yield r)) (fun ok s₃ =>
            if ok = true then wpAny (model prog w) A (eval elt env) (fun x s₄ =>
              wpAny (model prog w) A (call (.builtin "list.append") [acc,x]) (fun _ s₅=>∃ m,m < n∧I m s₅) (fun _ _=>False) s₄) (fun _ _=>False) s₃
            else ∃ m,m < n∧I m s₃) (fun _ _=>False) s₂) (fun _ _=>False) s₂') (fun _ _=>False) s₁) (fun _ _=>False) s)
    (n:Nat) (h:I n s) :
    codeAny (model prog w) A (.compLoop (.ListComp elt [⟨target,iter,ifs,0⟩] scope pos) 0 it acc env) R s:=by
  refine codeAny_loop rfl I (fun n s hI=>?_) n h
  show wpAny _ A ((compTurn (.ListComp elt [⟨target,iter,ifs,0⟩] scope pos) 0 it acc env).onRaise (fun x=>do noteFrame x env; theTreesLotGoes x)) _ _ s
  refine wpAny_noted ?_
  rw [compTurn_list]
  refine wpAny_bind (wpAny_standAt (wpAny_bind (wpAny_mono (turn n s hI) (fun r s₁ h₁=>?_) fun _ _ z=>z.elim)))
  cases r with
  | none=>exact wpAny_pure h₁
  | some v =>
    refine wpAny_bind (wpAny_mono h₁ (fun _ s₂' h₂'=>?_) fun _ _ z=>z.elim)
    refine wpAny_bind (wpAny_mono h₂' (fun _ s₂ h₂=>wpAny_bind (wpAny_mono h₂ (fun ok s₃ h₃=>?_) fun _ _ z=>z.elim)) fun _ _ z=>z.elim)
    cases ok with
    | false=>exact wpAny_pure ⟨rfl,h₃⟩
    | true =>
      exact wpAny_bind (wpAny_bind (wpAny_mono h₃ (fun x s₄ h₄=>wpAny_bind (wpAny_mono h₄ (fun _ s₅ h₅=>wpAny_pure (wpAny_pure ⟨rfl,h₅⟩)) fun _ _ z=>z.elim)) fun _ _ z=>z.elim))
def zOS (k:Nat) (g:TG) (tif:TT) (te:TE) (σ:St) (Q:VK) (J:It) (H1:Hp):Prop:=∃ W:Nat→Nat→List V→Hp→Prop,(∃ m,W 0 m [] H1)∧∀ i m acc H,W i m acc H →
  (J.stop i H∧∀ D,H D = none→Q (.ref D) (upd H D (.lst acc))) ∨
  (J.go i H∧acc.length < sizeLine∧∃ N:List V→Hp→Prop,(∀ acc' H',N acc' H'→∃ m',m' < m∧W (i + 1) m' acc' H')∧∀ x H',J.yld i H x H'→g x (σ ++ List.replicate k none) H' fun σ2 H2=>∃ own:St,own.length = k∧σ2 = σ ++ own∧tif σ2 H2 fun b H3=>if b = true then te σ2 H3 fun v H4=>N (acc ++ [v]) H4 else N acc H3)
noncomputable def zTK (wi:TI) (k:Nat) (g:TG) (tif:TT) (te:TE):TE:=fun σ H Q=>wi σ H (zOS k g tif te σ Q)
theorem HOk.track {P:Program} {w:World} {H:Hp} {h:Heap} {a:Addr} {o:HO} (x:HOk P w H h) (hn:H a = none) (new:ObjOk P w (upd H a o) h a o):HOk P w (upd H a o) h:=fun b u e=>by
  by_cases hb:b = a
  · subst hb; rw [zAP] at e; cases e; exact new
  · rw [zAO hb] at e
    exact (x b u e).stay (fun c v _ q=>q) (fun c q=>by rw [zAO (zAR q hn)]; exact q) fun c xs q=>by rw [zAO (zAR q hn)]; exact q
section
variable {X:Cx} {N':List Str} {k:Nat} {sc:Scope} {tg iter elt:Expr} {ifs:List Expr} {wi:TI} {g:TG} {tif:TT} {te:TE} {pos:Pos}
theorem zIT {pins:List (Addr × Obj)} {σ:St} {H2:Hp} {s2:Shared} {Q:VK} {RR:Value→Addr→Result→Shared→Prop} {E:Value→Shared→Prop} (hc:X.calm = true) (S:CompNames X.N N' k sc X.env)
    (hg:∀ C s H fp,PG (zDJ X N' sc C s H fp) tg g) (hif:∀ C s H fp,PTs (zDJ X N' sc C s H fp) ifs tif) (he:∀ C s H fp,PE (zDJ X N' sc C s H fp) elt te)
    {it:Addr} {fp:List Addr} {tn:Nat→Heap→Prop} {J:It} (I2:Inv X pins σ H2 s2) (T:Turn X.prog X.w X.K tg J fp it tn) (st2:tn 0 s2.heap) (f2:∀ b∈fp,FpOk X pins H2 b)
    {W:Nat→Nat→List V→Hp→Prop} {m0:Nat} (w0:W 0 m0 [] H2)
    (turn:∀ i m acc H,W i m acc H→(J.stop i H∧∀ D,H D = none→Q (.ref D) (upd H D (.lst acc))) ∨
      (J.go i H∧acc.length < sizeLine∧∃ N:List V→Hp→Prop,(∀ acc' H',N acc' H'→∃ m',m' < m∧W (i + 1) m' acc' H')∧∀ x H',J.yld i H x H'→g x (σ ++ List.replicate k none) H' fun σ2 H2=>∃ own:St,own.length = k∧σ2 = σ ++ own∧tif σ2 H2 fun b H3=>if b = true then te σ2 H3 fun v H4=>N (acc ++ [v]) H4 else N acc H3))
    (hRR:∀ D C s' H',D < C→s2.heap.objs.size≤D→(∃ m,s'.heap.Ns C m)→H' C = none→C ∉ frs X.stack→Inv X pins σ H' s'→Q (.ref D) H'→RR (.ref D) C (.ok .next) s') :
    wpAny (model X.prog X.w) X.A (newList []) (fun acc s₃=>wpAny (model X.prog X.w) X.A (newFunctionEnv sc X.env.globals (clos X.env.cells sc.names []) [] X.env.qual none .none (some X.env)) (fun cenv s₄ =>
      codeAny (model X.prog X.w) X.A (.compStart (.ListComp elt [⟨tg,iter,ifs,0⟩] sc pos) 0 (.ref it) acc { cenv with scope:=relabel sc X.env }) (RR acc cenv.locals) s₄) E s₃) E s2:=by
  refine wpAny_newObj_type (zFE ?_)
  show codeAny _ _ (.compStart _ 0 (.ref it) (.ref s2.heap.objs.size) _) _ _
  have szp:(s2.heap.push { cls:=.type "list",dict:=none,data:=.seq ([]:List Value).toArray }).objs.size = s2.heap.objs.size + 1:=Heap.size_push ..
  obtain ⟨I4,F4⟩:=zRY (s4:={ s2 with heap:=pushCells ((s2.heap.push { cls:=.type "list",data:=.seq #[] 0 }).push { cls:=.type "dict",data:=.dict #[] }) sc.names }) I2 hc S f2 (fun b hb=>let ⟨o,e,_⟩:=T.obj 0 _ st2 b hb; ⟨o,e⟩) rfl rfl rfl
  generalize hC:(s2.heap.push { cls:=.type "list",dict:=none,data:=.seq ([]:List Value).toArray }).objs.size = C at *
  have eC:C = s2.heap.objs.size + 1:=szp
  rw [← eC] at I4 F4
  generalize hs4:({ s2 with heap:=pushCells ((s2.heap.push { cls:=.type "list",data:=.seq #[] 0 }).push { cls:=.type "dict",data:=.dict #[] }) sc.names }:Shared) = s4 at I4 F4
  have kk:∀ b o,s2.heap.get? b = some o→s4.heap.get? b = some o:=fun b o e=>by
    rw [← hs4]
    exact pushCells_keeps sc.names _ b o (Heap.get?_push_of_some _ (Heap.get?_push_of_some _ e))
  have st4:tn 0 s4.heap:=T.keep 0 _ _ st2 fun b _ o e=>kk b o e
  generalize hX':zDJ X N' sc C s2 H2 fp = X' at I4 F4
  have henv:X'.env = zER sc C X.env:=by rw [← hX']; rfl
  have xprog:X'.prog = X.prog:=by rw [← hX']; rfl
  have xw:X'.w = X.w:=by rw [← hX']; rfl
  have xK:X'.K = X.K:=by rw [← hX']; rfl
  have xcalm:X'.calm = true:=by rw [← hX']; exact hc
  have xA:X'.A = X.A:=by rw [← hX']; rfl
  have xpn:X'.pn = []:=by rw [← hX']; rfl
  have xxe:X'.xe = fun _ _=>False:=by rw [← hX']; rfl
  have xs0:X'.s₀ = s2:=by rw [← hX']; rfl
  have xH0:X'.H₀ = H2:=by rw [← hX']; rfl
  have xfs:X'.fs = frs X.stack:=by rw [← hX']; rfl
  have xex:X'.ex = fp:=by rw [← hX']; rfl
  have hgX:PG X' tg g:=by rw [← hX']; exact hg C s2 H2 fp
  have hifX:PTs X' ifs tif:=by rw [← hX']; exact hif C s2 H2 fp
  have heX:PE X' elt te:=by rw [← hX']; exact he C s2 H2 fp
  have locC:X'.env.locals = C:=by rw [henv]; rfl
  generalize hDd:s2.heap.objs.size = D at *
  have loop:codeAny (model X.prog X.w) X.A (.compLoop (.ListComp elt [⟨tg,iter,ifs,0⟩] sc pos) 0 (.ref it) (.ref D) (zER sc C X.env)) (RR (.ref D) C) s4:=by
    refine zEU (fun n s'=>∃ i H' acc its nn,Inv X' [] (σ ++ List.replicate k none) H' s'∧tn i s'.heap∧(∀ b∈fp,H' b = none)∧H' D = none∧W i n acc H'∧acc.length≤sizeLine∧Vals acc its∧s'.heap.get? D = some { cls:=.type "list",data:=.seq its.toArray nn }) ?_ m0 ?_
    · rintro n s5 ⟨i,H5,acc,its,nn,I5,st5,fr5,hD5,w5,hz5,rv5,hL5⟩
      have hDlt:D < C:=by rw [eC]; exact Nat.lt_succ_self _
      have pinD:Inv X' [(D,{ cls:=.type "list",data:=.seq its.toArray nn })] (σ ++ List.replicate k none) H5 s5:=I5.pins_of fun p hp=>by
        have hp':p = (D,{ cls:=.type "list",data:=.seq its.toArray nn }):=by simpa using hp
        subst hp'
        refine ⟨hL5,hD5,?_,?_,fun v z=>by cases z⟩
        · rw [locC]; exact Nat.ne_of_lt hDlt
        · have q:=(I4.pin (D,{ cls:=.type "list",data:=.seq #[] 0 }) (by simp)).2.2.2.1
          exact q
      have fpD:∀ {H':Hp} {oo:Obj},(∀ b∈fp,H' b = none)→∀ b∈fp,FpOk X' [(D,oo)] H' b:=fun {H' oo} hn b hb=>by
        obtain ⟨f0,f1,f2,f3,f4,f5⟩:=F4 b hb
        refine ⟨hn b hb,f1,f2,f3,f4,fun p hp=>?_⟩
        have hp':p = (D,oo):=by
          rw [xpn] at hp
          simpa using hp
        subst hp'
        exact f5 (D,{ cls:=.type "list",data:=.seq #[] 0 }) (by simp)
      rcases turn i n acc H5 w5 with ⟨stop,q⟩ | ⟨go,hlt,N,hN,step⟩
      · have dn:=T.done X' xprog xw xK xcalm i _ s5 _ H5 (fun _ _=>False) pinD (fpD fr5) st5 stop
        rw [xA] at dn
        refine thn dn fun r s6 ⟨hr,I6⟩=>?_
        subst hr
        show RR (.ref D) C (.ok .next) s6
        have hL6:=(I6.pin (D,{ cls:=.type "list",data:=.seq its.toArray nn }) (by simp)).1
        have un6:Un (frs X.stack) fp H2 H5 s2.heap s6.heap:=by
          have:=I6.base
          rw [xs0,xH0,xfs,xex] at this
          exact this
        have hok6:HOk X.prog X.w H5 s6.heap:=by
          have:=I6.hok
          rw [xprog,xw] at this
          exact this
        have hDno:s2.heap.get? D = none:=Heap.get?_none_of_le (by rw [hDd]; exact Nat.le_refl _)
        have un7:Un (frs X.stack) fp H2 (upd H5 D (.lst acc)) s2.heap s6.heap :=
          ⟨un6.keep,un6.slot,fun b o e n hx=>by
              have hb:b≠D:=by rintro rfl; rw [hDno] at e; cases e
              rw [zAO hb]; exact un6.free b o e n hx,un6.there,
            fun b xs e=>by
              have e':=un6.tups b xs e
              rw [zAO (zAR e' hD5)]; exact e',
            fun b o u e=>by
              have e':=un6.frzs b o u e
              rw [zAO (zAR e' hD5)]; exact e',
            fun b ps e=>by
              obtain ⟨more,e'⟩:=un6.tbls b ps e
              exact ⟨more,by rw [zAO (zAR e' hD5)]; exact e'⟩⟩
        have hok7:HOk X.prog X.w (upd H5 D (.lst acc)) s6.heap:=hok6.track hD5 ⟨hz5,its,nn,rv5,hL6⟩
        have os6:s6.os = s2.os:=by have:=I6.os; rw [xs0] at this; exact this
        have I7:Inv X pins σ (upd H5 D (.lst acc)) s6:=I2.call' os6 un7 hok7 I6.bare fun b hb=>by
          obtain ⟨f0,f1,f2,f3,f4,f5⟩:=f2 b hb
          exact ⟨f3,f1,f4,f5⟩
        obtain ⟨mm,hn,_⟩:=I6.loc
        rw [locC] at hn
        have hC5:H5 C = none:=by have:=I6.free; rw [locC] at this; exact this
        refine hRR D C s6 (upd H5 D (.lst acc)) hDlt (Nat.le_refl _) ⟨mm,hn⟩ ?_ ?_ I7 (q D hD5)
        · rw [zAO (Nat.ne_of_gt hDlt)]; exact hC5
        · intro hb
          rcases List.mem_cons.mp (I2.stkSub C hb) with e | hb
          · have t1:=asN I2.lt
            have t2:=asE e
            rw [hDd] at t1
            have t3:=asN hDlt
            omega
          · exact I2.nofs (by rw [hDd]; exact Nat.le_of_lt hDlt) hb
      · have itm:=T.item X' xprog xw xK xcalm i _ s5 _ H5 (fun _ _=>False) pinD (fpD fr5) st5 go
        rw [xA] at itm
        refine thn itm fun r s6 ⟨u,hr,h6⟩=>?_
        subst hr
        refine thn h6 fun _ s7 ⟨x,H7,I7,r7,y7,st7,fr7⟩=>?_
        have I7':Inv X' ([(D,{ cls:=.type "list",data:=.seq its.toArray nn })] ++ zIL fp s7.heap) (σ ++ List.replicate k none) H7 s7:=I7.pinned (fpD fr7) (T.obj _ _ st7)
        have asg:=hgX _ s7 _ H7 x u _ I7' r7 (step x H7 y7)
        rw [xprog,xw,xA,henv,xxe] at asg
        refine thn asg fun _ s8 ⟨σ8,H8,I8,own,hown,hσ8,q8⟩=>?_
        have weak:∀ {pl:List (Addr × Obj)} {H':Hp} {s':Shared},Inv X' pl σ8 H' s'→Inv X' [] (σ ++ List.replicate k none) H' s':=fun {pl H' s'} J'=>by
          have J0:Inv X' [] σ8 H' s':=J'.pins_of (fun p hp=>by simp at hp)
          refine J0.weak (by rw [hσ8]; simp [hown]) fun j v hj=>?_
          rw [hσ8]
          by_cases hjl:j < σ.length
          · rw [List.getElem?_append_left hjl] at hj ⊢
            exact hj
          · rw [List.getElem?_append_right (by omega),List.getElem?_replicate] at hj
            split at hj <;> cases hj
        have tst:=hifX _ s8 σ8 H8 _ I8 q8
        rw [xprog,xw,xA,henv,xxe] at tst
        refine thn tst fun b s9 ⟨H9,I9,q9⟩=>?_
        have pin9:∀ {σ':St} {H':Hp} {s':Shared},Inv X' ([(D,{ cls:=.type "list",data:=.seq its.toArray nn })] ++ zIL fp s7.heap) σ' H' s' →
            s'.heap.get? D = some { cls:=.type "list",data:=.seq its.toArray nn }∧H' D = none∧tn (i + 1) s'.heap∧(∀ b∈fp,H' b = none):=fun {σ' H' s'} J'=>by
          have a1:=J'.pin (D,{ cls:=.type "list",data:=.seq its.toArray nn }) (by simp)
          refine ⟨a1.1,a1.2.1,T.keep _ _ _ st7 fun b hb o e=>(J'.pin (b,o) (List.mem_append_right _ (List.mem_append_right _ (zEN hb e)))).1,fun b hb=>?_⟩
          obtain ⟨o,e,d⟩:=T.obj _ _ st7 b hb
          exact (J'.pin (b,o) (List.mem_append_right _ (List.mem_append_right _ (zEN hb e)))).2.1
        cases b with
        | false =>
          rw [if_neg Bool.false_ne_true]
          rw [if_neg Bool.false_ne_true] at q9
          obtain ⟨m',hm,w9⟩:=hN _ _ q9
          obtain ⟨p1,p2,p3,p4⟩:=pin9 I9
          exact ⟨m',hm,i + 1,H9,acc,its,nn,weak I9,p3,p4,p2,w9,hz5,rv5,p1⟩
        | true =>
          rw [if_pos rfl]
          rw [if_pos rfl] at q9
          have ev:=heX _ s9 σ8 H9 _ I9 q9
          rw [xprog,xw,xA,henv,xxe] at ev
          refine thn ev fun y s10 ⟨v,H10,I10,r10,n10⟩=>?_
          obtain ⟨m',hm,w10⟩:=hN _ _ n10
          obtain ⟨p1,p2,p3,p4⟩:=pin9 I10
          have hlen:its.length = acc.length:=rv5.length.symm
          refine wpAny_list_append_plain (items:=its.toArray) ⟨nn,p1⟩ (fun h' hl' hs'=>?_) (by simp only [List.size_toArray]; omega)
          have hDfp:D ∉ fp:=fun hb=>(F4 D hb).2.2.2.2.2 (D,{ cls:=.type "list",data:=.seq #[] 0 }) (by simp) rfl
          have I11:Inv X' [] (σ ++ List.replicate k none) H10 { s10 with heap:=h' }:=by
            have J0:Inv X' [] (σ ++ List.replicate k none) H10 s10:=weak I10
            refine J0.turned (t':=s10.toks) (it:=D) (fun b o hb e=>(hs'.2 b hb).trans e) p2 ?_ (.inr ?_) (fun x c e z=>?_) (fun p hp=>?_)
            · rw [locC]; exact Nat.ne_of_lt hDlt
            · rw [xs0,hDd]; exact Nat.le_refl _
            · obtain ⟨v',q⟩:=J0.cell x c e
              obtain ⟨o,ho,hd⟩:=q
              rw [z,p1] at ho
              cases ho
              cases hd
            · rw [xpn] at hp; simp at hp
          obtain ⟨n',hk⟩:=hl'
          have hk':h'.get? D = some { cls:=.type "list",data:=.seq (its ++ [y]).toArray n' }:=by rw [hk]; simp
          refine ⟨m',hm,i + 1,H10,acc ++ [v],its ++ [y],n',I11,T.keep _ _ _ p3 fun b hb o e=>(hs'.2 b (fun z=>hDfp (z ▸ hb))).trans e,p4,p2,w10,?_,rv5.append (.cons r10 .nil),hk'⟩
          rw [List.length_append,List.length_singleton]
          omega
    · refine ⟨0,H2,[],[],0,I4.pins_of (fun p hp=>by simp at hp),st4,fun b hb=>(f2 b hb).1,I2.hok.fresh (by rw [hDd]; exact Nat.le_refl _),w0,Nat.zero_le _,.nil,?_⟩
      exact (I4.pin (D,{ cls:=.type "list",data:=.seq #[] 0 }) (by simp)).1
  exact codeAny_compStart_list loop (T.self _ 0 _ _ _ st4 loop)
theorem zB8 (hc:X.calm = true) (S:CompNames X.N N' k sc X.env) (hi:PI X tg iter wi)
    (hg:∀ C s H fp,PG (zDJ X N' sc C s H fp) tg g) (hif:∀ C s H fp,PTs (zDJ X N' sc C s H fp) ifs tif) (he:∀ C s H fp,PE (zDJ X N' sc C s H fp) elt te)
    (hs:∀ x,foldedSetIterable iter X.env x = pure x:=by intro _; rfl):PE X (.ListComp elt [⟨tg,iter,ifs,0⟩] sc pos) (zTK wi k g tif te):=by
  intro pins s σ H Q I h
  rw [eval_ListComp]
  have hfree:∀ x,(x,NameKind.free)∈sc.names→∃ c,X.env.cells.lookup x = some c:=fun x hx=>I.ok.has x (S.free x hx)
  refine wpAny_comprehension_free (use:=none) rfl hs (zFW hfree) S.kind (fun x hx hl=>?_) ?_
  · obtain ⟨n,kd⟩:=x
    dsimp only at hl ⊢
    subst hl
    exact zCA S.nd hx
  · refine thn (hi pins s σ H _ I h) fun v s1 h1=>thn h1 fun itv s2 h2=>?_
    obtain ⟨it,fp,tn,J,H2,e,I2,T,st2,f2,W,⟨m0,w0⟩,turn⟩:=h2
    subst e
    refine zIT (RR:=fun acc C=>compPost (model X.prog X.w) X.A X.xe none (EP X pins σ Q) acc C) hc S hg hif he I2 T st2 f2 w0 turn ?_
    intro D C s' H' hDC hD hn hCn hCf I' q
    obtain ⟨m,hn⟩:=hn
    refine ⟨m,hn,fun h' hs'=>⟨.ref D,H',?_,rfl,q⟩⟩
    have hCb:s2.heap.objs.size≤C:=Nat.le_of_lt (Nat.lt_of_le_of_lt hD hDC)
    refine I'.turned (t':=s'.toks) (it:=C) (fun b o hb e=>(hs'.2 b hb).trans e) hCn ?_ (.inr (Nat.le_trans I2.sz hCb)) (fun x c e z=>?_) (fun p hp z=>?_)
    · exact Nat.ne_of_gt (Nat.lt_of_lt_of_le I2.lt hCb)
    · obtain ⟨v,q⟩:=I2.cell x c e
      exact absurd z (Nat.ne_of_lt (Nat.lt_of_lt_of_le q.lt hCb))
    · exact absurd z (Nat.ne_of_lt (Nat.lt_of_lt_of_le (Heap.lt_size (I2.pin p hp).1) hCb))
theorem zC9 {i:Nat} {x:Str} {pos' spos:Pos} (hN:X.N.Nodup) (hi':X.N[i]? = some x) (hx:Loc X.env.scope x) (hc:X.calm = true) (S:CompNames X.N N' k sc X.env) (hi:PI X tg iter wi)
    (hg:∀ C s H fp,PG (zDJ X N' sc C s H fp) tg g) (hif:∀ C s H fp,PTs (zDJ X N' sc C s H fp) ifs tif) (he:∀ C s H fp,PE (zDJ X N' sc C s H fp) elt te)
    (hsw:swapsWith (.ListComp elt [⟨tg,iter,ifs,0⟩] sc pos) (some (.Name x pos')) spos.line X.env = pure true:=by rfl)
    (hs:∀ x,foldedSetIterable iter X.env x = pure x:=by intro _; rfl) (hf:X.fn x = true∨X.env.scope.names.lookup x = some .local:=by first | exact .inl rfl | exact .inr rfl | assumption) :
    PS X (.Assign [.Name x pos'] (.ListComp elt [⟨tg,iter,ifs,0⟩] sc pos) spos) (tAsg (zTK wi k g tif te) (zJO i)):=by
  intro pins s σ H Dn I h
  rw [exec_Assign_Name_used _ _ _ _ hsw]
  refine wpAny_bind (wpAny_standAt (wpAny_bind ?_))
  show wpAny _ X.A (do let _ ← comprehension (.ListComp elt [⟨tg,iter,ifs,0⟩] sc pos) sc X.env _ (newList []) false (eval iter X.env) (some (assign (.Name x pos') X.env))) _ _ s
  have hfree:∀ x,(x,NameKind.free)∈sc.names→∃ c,X.env.cells.lookup x = some c:=fun x hx=>I.ok.has x (S.free x hx)
  refine wpAny_bind (wpAny_mono (wpAny_comprehension_free (use:=some (assign (.Name x pos') X.env)) (Q:=fun _ s'=>SP X pins Dn .next s') rfl hs (zFW hfree) S.kind (fun x hx hl=>?_) ?_)
    (fun _ s' hq=>wpAny_pure (wpAny_pure hq)) fun _ _ e=>e)
  · obtain ⟨n,kd⟩:=x
    dsimp only at hl ⊢
    subst hl
    exact zCA S.nd hx
  · refine thn (hi pins s σ H _ I h) fun v s1 h1=>thn h1 fun itv s2 h2=>?_
    obtain ⟨it,fp,tn,J,H2,e,I2,T,st2,f2,W,⟨m0,w0⟩,turn⟩:=h2
    subst e
    refine zIT (Q:=fun v H'=>zJO i v σ H' Dn.nx) (RR:=fun acc C=>compPost (model X.prog X.w) X.A X.xe (some (assign (.Name x pos') X.env)) (fun _ s'=>SP X pins Dn .next s') acc C) hc S hg hif he I2 T st2 f2 w0 turn ?_
    intro D C s' H' hDC hD hn hCn hCf I' q
    obtain ⟨m,hn⟩:=hn
    show wpAny _ _ (assign (.Name x pos') X.env (.ref D)) _ _ _
    have hCb:s2.heap.objs.size≤C:=Nat.le_of_lt (Nat.lt_of_le_of_lt hD hDC)
    have hCL:C≠X.env.locals:=Nat.ne_of_gt (Nat.lt_of_lt_of_le I2.lt hCb)
    have hCc:∀ x c,X.env.cells.lookup x = some c→c≠C:=fun x c e z=>by
      obtain ⟨v,q⟩:=I2.cell x c e
      exact absurd z (Nat.ne_of_lt (Nat.lt_of_lt_of_le q.lt hCb))
    refine wpAny_assign_Name (zK8 (v:=.ref D) I' hN hi' hx rfl (fun s'' I'' ⟨a,sb,ha⟩=>?_) hf)
    have hCa:C≠a:=by
      rcases ha with e | e
      · rw [e]; exact hCL
      · exact fun z=>hCc x a e z.symm
    refine ⟨m,hn.sameBut sb hCa,fun h' hs'=>⟨_,H',?_,q⟩⟩
    refine I''.turned (t':=s''.toks) (it:=C) (fun b o hb e=>(hs'.2 b hb).trans e) hCn hCL (.inr (Nat.le_trans I2.sz hCb)) hCc (fun p hp z=>?_)
    exact absurd z (Nat.ne_of_lt (Nat.lt_of_lt_of_le (Heap.lt_size (I2.pin p hp).1) hCb))
theorem zDK {lo:Int} {n:Nat} {σ:St} {H:Hp} {Q:VK} (Pv:Nat→List V→Hp→Prop) (h0:Pv 0 [] H) (hz:∀ i acc H,i < n→Pv i acc H→acc.length < sizeLine)
    (hs:∀ i acc H,i < n→Pv i acc H→g (.int (lo + i)) (σ ++ List.replicate k none) H fun σ2 H2=>∃ own:St,own.length = k∧σ2 = σ ++ own∧tif σ2 H2 fun b H3=>if b = true then te σ2 H3 fun v H4=>Pv (i + 1) (acc ++ [v]) H4 else Pv (i + 1) acc H3)
    (hd:∀ acc H,Pv n acc H→∀ D,H D = none→Q (.ref D) (upd H D (.lst acc))) :
    zOS k g tif te σ Q (Itr lo n) H:=by
  refine ⟨fun i m acc H=>m = n - i∧i≤n∧Pv i acc H,⟨n,by simp,Nat.zero_le _,h0⟩,?_⟩
  rintro i m acc H ⟨rfl,hi,p⟩
  by_cases hlt:i < n
  · refine .inr ⟨hlt,hz i acc H hlt p,Pv (i + 1),fun acc' H' p'=>⟨n - (i + 1),by omega,rfl,hlt,p'⟩,fun x H' y=>?_⟩
    obtain ⟨e,y⟩:=y
    subst e y
    exact hs i acc _ hlt p
  · have e:i = n:=by omega
    subst e
    exact .inl ⟨Nat.le_refl _,hd acc H p⟩
def zQX (g:TG) (tb:TS) (D:Ends) (σ:St) (J:It) (H1:Hp):Prop:=∃ W:Nat→Nat→St→Hp→Prop,(∃ m,W 0 m σ H1)∧∀ i m σ H,W i m σ H →
  (J.stop i H∧D.nx σ H)∨(J.go i H∧∃ N:St→Hp→Prop,(∀ σ' H',N σ' H'→∃ m',m' < m∧W (i + 1) m' σ' H')∧∀ x H',J.yld i H x H'→g x σ H' fun σ2 H2=>tb { D with nx:=N,ct:=N,bk:=D.nx } σ2 H2)
theorem zDQ {body:List Stmt} {tb:TS} (hp:PassesOwn (model X.prog X.w) X.A X.env X.xe) (hc:X.calm = true) (hi:PI X tg iter wi) (hg:PG X tg g) (hb:PSs X body tb)
    (hs:∀ x,foldedSetIterable iter X.env x = pure x:=by intro _; rfl):PS X (.For tg iter body [] pos) (fun D σ H=>wi σ H (zQX g tb D σ)):=zWA hp hc hi hg hb hs
end
end L2

namespace L2
open PySem PySem.Spec PyProof.Rows
inductive Dat where
  | non | bl (b:Bool) | int (i:Int) | str (x:Str) | lst (xs:List Dat) | tup (xs:List Dat)
mutual
def Dat.dep:Dat→Nat
  | .lst xs=>Dat.depL xs + 1
  | .tup xs=>Dat.depL xs + 1
  | _=>0
def Dat.depL:List Dat→Nat
  | []=>0
  | x :: r=>max x.dep (Dat.depL r)
end
mutual
def Dat.eq:Dat→Dat→Bool
  | .non,.non=>true
  | .bl a,.bl b=>a == b
  | .bl a,.int b=>(if a then 1 else 0) == b
  | .int a,.bl b=>a == (if b then 1 else 0)
  | .int a,.int b=>a == b
  | .str a,.str b=>a == b
  | .lst xs,.lst ys=>Dat.eqL xs ys
  | .tup xs,.tup ys=>Dat.eqL xs ys
  | _,_=>false
def Dat.eqL:List Dat→List Dat→Bool
  | [],[]=>true
  | x :: r,y :: q=>Dat.eq x y && Dat.eqL r q
  | _,_=>false
end
mutual
def Rep (H:Hp):Dat→V→Prop
  | .non,v=>v = .non
  | .bl b,v=>v = .bl b
  | .int i,v=>v = .int i
  | .str x,v=>v = .str x
  | .lst ds,v=>∃ a xs,v = .ref a∧H a = some (.lst xs)∧RepL H ds xs
  | .tup ds,v=>∃ a xs,v = .ref a∧H a = some (.tup xs)∧RepL H ds xs
def RepL (H:Hp):List Dat→List V→Prop
  | [],xs=>xs = []
  | d :: r,xs=>∃ x q,xs = x :: q∧Rep H d x∧RepL H r q
end
mutual
theorem Rep.mono {H H':Hp} (s:Same H H'):∀ {d:Dat} {v:V},Rep H d v→Rep H' d v
  | .non,_,h=>h
  | .bl _,_,h=>h
  | .int _,_,h=>h
  | .str _,_,h=>h
  | .lst _,_,h=>by obtain ⟨a,xs,e,e',r⟩:=h; exact ⟨a,xs,e,s _ _ e',RepL.mono s r⟩
  | .tup _,_,h=>by obtain ⟨a,xs,e,e',r⟩:=h; exact ⟨a,xs,e,s _ _ e',RepL.mono s r⟩
theorem RepL.mono {H H':Hp} (s:Same H H'):∀ {ds:List Dat} {xs:List V},RepL H ds xs→RepL H' ds xs
  | [],_,h=>h
  | _ :: _,_,h=>by obtain ⟨x,q,e,r,t⟩:=h; exact ⟨x,q,e,Rep.mono s r,RepL.mono s t⟩
end
mutual
theorem Rep.inj {H:Hp}:∀ {d e:Dat} {v:V},Rep H d v→Rep H e v→d = e
  | .non,e,v,h,h'=>by cases h; cases e <;> first | rfl | (cases h'; done) | (obtain ⟨a,xs,z,_⟩:=h'; cases z)
  | .bl b,e,v,h,h'=>by cases h; cases e <;> first | (cases h'; rfl) | (cases h'; done) | (obtain ⟨a,xs,z,_⟩:=h'; cases z)
  | .int b,e,v,h,h'=>by cases h; cases e <;> first | (cases h'; rfl) | (cases h'; done) | (obtain ⟨a,xs,z,_⟩:=h'; cases z)
  | .str b,e,v,h,h'=>by cases h; cases e <;> first | (cases h'; rfl) | (cases h'; done) | (obtain ⟨a,xs,z,_⟩:=h'; cases z)
  | .lst ds,e,v,h,h'=>by
    obtain ⟨a,xs,rfl,ha,q⟩:=h
    cases e with
    | lst es =>
      obtain ⟨b,ys,z,hb,q'⟩:=h'
      cases z
      rw [ha] at hb
      cases hb
      rw [RepL.inj q q']
    | tup es =>
      obtain ⟨b,ys,z,hb,q'⟩:=h'
      cases z
      rw [ha] at hb
      cases hb
    | _=>cases h'
  | .tup ds,e,v,h,h'=>by
    obtain ⟨a,xs,rfl,ha,q⟩:=h
    cases e with
    | tup es =>
      obtain ⟨b,ys,z,hb,q'⟩:=h'
      cases z
      rw [ha] at hb
      cases hb
      rw [RepL.inj q q']
    | lst es =>
      obtain ⟨b,ys,z,hb,q'⟩:=h'
      cases z
      rw [ha] at hb
      cases hb
    | _=>cases h'
theorem RepL.inj {H:Hp}:∀ {ds es:List Dat} {xs:List V},RepL H ds xs→RepL H es xs→ds = es
  | [],[],_,_,_=>rfl
  | [],_ :: _,_,h,h'=>by cases h; obtain ⟨x,q,e,_⟩:=h'; cases e
  | _ :: _,[],_,h,h'=>by cases h'; obtain ⟨x,q,e,_⟩:=h; cases e
  | d :: r,e :: t,_,h,h'=>by
    obtain ⟨x,q,rfl,r1,t1⟩:=h
    obtain ⟨x',q',z,r2,t2⟩:=h'
    cases z
    rw [Rep.inj r1 r2,RepL.inj t1 t2]
end
mutual
theorem Dat.eq_refl:∀ d:Dat,Dat.eq d d = true
  | .non=>by simp [Dat.eq]
  | .bl _=>by simp [Dat.eq]
  | .int _=>by simp [Dat.eq]
  | .str _=>by simp [Dat.eq]
  | .lst xs=>by rw [Dat.eq]; exact Dat.eqL_refl xs
  | .tup xs=>by rw [Dat.eq]; exact Dat.eqL_refl xs
theorem Dat.eqL_refl:∀ ds:List Dat,Dat.eqL ds ds = true
  | []=>by simp [Dat.eqL]
  | d :: r=>by rw [Dat.eqL,Dat.eq_refl d,Dat.eqL_refl r]; rfl
end
theorem RepL.length {H:Hp}:∀ {ds:List Dat} {xs:List V},RepL H ds xs→xs.length = ds.length
  | [],_,h=>by cases h; rfl
  | _ :: _,_,h=>by obtain ⟨x,q,e,r,t⟩:=h; subst e; simp [RepL.length t]
theorem Dat.eqL_len:∀ {xs ys:List Dat},xs.length≠ys.length→Dat.eqL xs ys = false
  | [],[],h=>absurd rfl h
  | [],_ :: _,_=>by simp [Dat.eqL]
  | _ :: _,[],_=>by simp [Dat.eqL]
  | x :: r,y :: q,h=>by
    rw [Dat.eqL,Dat.eqL_len (fun e=>h (by simp [e])),Bool.and_false]
theorem Dat.eqL_all:∀ {xs ys:List Dat},xs.length = ys.length→∀ (e:Nat→Bool),(∀ j (h1:j < xs.length) (h2:j < ys.length),e j = Dat.eq xs[j] ys[j])→(List.range xs.length).all e = Dat.eqL xs ys
  | [],[],_,_,_=>by simp [Dat.eqL]
  | [],_ :: _,h,_,_=>by simp at h
  | _ :: _,[],h,_,_=>by simp at h
  | x :: r,y :: q,h,e,he=>by
    have hl:r.length = q.length:=by simpa using h
    rw [List.length_cons,List.range_succ_eq_map,List.all_cons,Dat.eqL,he 0 (by simp) (by simp)]
    have:=Dat.eqL_all (xs:=r) (ys:=q) hl (fun j=>e (j + 1)) (fun j h1 h2=>by
      rw [he (j + 1) (by simpa using h1) (by simpa using h2)]; simp)
    rw [← this,List.all_map]
    rfl
theorem RepL.get {H:Hp}:∀ {ds:List Dat} {xs:List V} {i:Nat} {x:V},RepL H ds xs→xs[i]? = some x→∃ d,ds[i]? = some d∧Rep H d x
  | [],_,_,_,h,e=>by cases h; simp at e
  | d :: _,_,0,_,h,e=>by obtain ⟨x,q,e1,r,t⟩:=h; subst e1; simp at e; subst e; exact ⟨d,rfl,r⟩
  | _ :: _,_,i + 1,_,h,e=>by
    obtain ⟨x,q,e1,r,t⟩:=h
    subst e1
    obtain ⟨d',h1,h2⟩:=RepL.get (i:=i) t (by simpa using e)
    exact ⟨d',by simpa using h1,h2⟩
theorem Dat.depL_mem {d:Dat}:∀ {ds:List Dat},d∈ds→d.dep≤Dat.depL ds
  | _ :: _,h=>by
    rw [Dat.depL]
    rcases List.mem_cons.mp h with rfl | h
    · exact Nat.le_max_left _ _
    · exact Nat.le_trans (Dat.depL_mem h) (Nat.le_max_right _ _)
section
variable {P:Program} {w:World} {H:Hp}
theorem zEF (A:Around):A.in1.units = A.units + 1:=rfl
theorem zB1 {s:Shared} {a:Addr} {xs:List V} (ok:HOk P w H s.heap) (h:H a = some (.lst xs)):∃ its:List Value,Vals xs its∧s.heap.IsList a its.toArray:=by
  obtain ⟨_,its,n,r,e⟩:=ok a _ h
  exact ⟨its,r,⟨_,e,rfl,n,rfl⟩⟩
theorem zBQ {s:Shared} {a:Addr} {xs:List V} (ok:HOk P w H s.heap) (h:H a = some (.tup xs)):∃ its:List Value,Vals xs its∧s.heap.IsTuple a its.toArray:=by
  obtain ⟨_,its,r,e⟩:=ok a _ h
  exact ⟨its,r,e⟩
theorem Rep.flat {d:Dat} {v:V} (h:Rep H d v) (hf:d.dep = 0):zGA v = true:=by
  cases d with
  | non=>cases h; rfl
  | bl _=>cases h; rfl
  | int _=>cases h; rfl
  | str _=>cases h; rfl
  | lst _=>simp [Dat.dep] at hf
  | tup _=>simp [Dat.dep] at hf
theorem Rep.flatEq {d e:Dat} {v u:V} (h:Rep H d v) (h':Rep H e u) (hf:d.dep = 0) (hf':e.dep = 0):eqV v u = Dat.eq d e:=by
  cases d <;> cases e <;> first
    | (simp [Dat.dep] at hf; done)
    | (simp [Dat.dep] at hf'; done)
    | (cases h; cases h'; simp [eqV,Dat.eq]; done)
theorem zS4:∀ (n:Nat) {d e:Dat} {v u:V} {x y:Value} {A:Around} {s:Shared},d.dep≤n→HOk P w H s.heap→Rep H d v→Rep H e u→RelV v x→RelV u y→A.units + n < cLine→SeqAt.EqAt A s x y (Dat.eq d e):=by
  intro n
  induction n with
  | zero =>
    intro d e v u x y A s hd ok h1 h2 r1 r2 hu
    have f1:=h1.flat (by omega)
    by_cases he:e.dep = 0
    · have f2:=h2.flat he
      have:=zT6 (A:=A) (s:=s) r1 r2 f1 f2
      rw [h1.flatEq h2 (by omega) he] at this
      exact this
    · have hu':A.units < cLine:=by omega
      cases e with
      | lst ys =>
        obtain ⟨a,xs,rfl,ha,_⟩:=h2
        obtain ⟨its,_,hl⟩:=zB1 ok ha
        cases r2
        cases d with
        | non=>cases h1; cases r1; exact SeqAt.EqAt.none_list hl hu'
        | bl b=>cases h1; cases r1; exact SeqAt.EqAt.bool_list b hl hu'
        | int i=>cases h1; obtain ⟨t,rfl⟩:=r1; exact SeqAt.EqAt.int_list i t hl hu'
        | str z=>cases h1; obtain ⟨t,rfl⟩:=r1; exact SeqAt.EqAt.str_list z t hl hu'
        | lst _=>simp [Dat.dep] at hd
        | tup _=>simp [Dat.dep] at hd
      | tup ys =>
        obtain ⟨a,xs,rfl,ha,_⟩:=h2
        obtain ⟨its,_,hl⟩:=zBQ ok ha
        cases r2
        cases d with
        | non=>cases h1; cases r1; exact SeqAt.EqAt.none_tuple hl hu'
        | bl b=>cases h1; cases r1; exact SeqAt.EqAt.bool_tuple b hl hu'
        | int i=>cases h1; obtain ⟨t,rfl⟩:=r1; exact SeqAt.EqAt.int_tuple i t hl hu'
        | str z=>cases h1; obtain ⟨t,rfl⟩:=r1; exact SeqAt.EqAt.str_tuple z t hl hu'
        | lst _=>simp [Dat.dep] at hd
        | tup _=>simp [Dat.dep] at hd
      | _=>simp [Dat.dep] at he
  | succ n ih =>
    intro d e v u x y A s hd ok h1 h2 r1 r2 hu
    by_cases hd0:d.dep≤n
    · exact ih hd0 ok h1 h2 r1 r2 (by omega)
    have hu':A.units < cLine:=by omega
    have pairs:∀ {ds es:List Dat} {xs ys:List V} {its its2:List Value},Dat.depL ds≤n→RepL H ds xs→RepL H es ys→Vals xs its→Vals ys its2→∀ j (h1:j < its.toArray.size) (h2:j < its2.toArray.size),
        SeqAt.EqAt A.in1 s its.toArray[j] its2.toArray[j] (Dat.eq (ds.getD j .non) (es.getD j .non)):=by
      intro ds es xs ys its its2 hdl q1 q2 v1 v2 j j1 j2
      have l1:j < xs.length:=by have:=v1.length; simp at j1; omega
      have l2:j < ys.length:=by have:=v2.length; simp at j2; omega
      obtain ⟨d',e1,p1⟩:=q1.get (i:=j) (x:=xs[j]) (by simp [l1])
      obtain ⟨e',e2,p2⟩:=q2.get (i:=j) (x:=ys[j]) (by simp [l2])
      obtain ⟨w1,g1,z1⟩:=v1.get (i:=j) (x:=xs[j]) (by simp [l1])
      obtain ⟨w2,g2,z2⟩:=v2.get (i:=j) (x:=ys[j]) (by simp [l2])
      have k1:its.toArray[j] = w1:=by
        obtain ⟨_,k⟩:=List.getElem?_eq_some_iff.mp g1
        simpa using k
      have k2:its2.toArray[j] = w2:=by
        obtain ⟨_,k⟩:=List.getElem?_eq_some_iff.mp g2
        simpa using k
      rw [k1,k2,List.getD_eq_getElem?_getD,List.getD_eq_getElem?_getD,e1,e2]
      exact ih (Nat.le_trans (Dat.depL_mem (List.mem_of_getElem? e1)) hdl) ok p1 p2 z1 z2 (by rw [zEF]; omega)
    cases d with
    | lst ds =>
      have hdl:Dat.depL ds≤n:=by rw [Dat.dep] at hd; omega
      obtain ⟨a,xs,rfl,ha,q1⟩:=h1
      obtain ⟨its,v1,hl1⟩:=zB1 ok ha
      cases r1
      cases e with
      | non=>cases h2; cases r2; exact SeqAt.EqAt.list_none hl1 hu'
      | bl b=>cases h2; cases r2; exact SeqAt.EqAt.list_bool b hl1 hu'
      | int i=>cases h2; obtain ⟨t,rfl⟩:=r2; exact SeqAt.EqAt.list_int i t hl1 hu'
      | str z=>cases h2; obtain ⟨t,rfl⟩:=r2; exact SeqAt.EqAt.list_str z t hl1 hu'
      | tup es =>
        obtain ⟨b,ys,rfl,hb,q2⟩:=h2
        obtain ⟨its2,v2,hl2⟩:=zBQ ok hb
        cases r2
        exact SeqAt.EqAt.of_refs (zWQ ha hb (fun z=>nomatch z)) (SeqAt.RcAt.list_tuple hl1 hl2 hu')
      | lst es =>
        obtain ⟨b,ys,rfl,hb,q2⟩:=h2
        obtain ⟨its2,v2,hl2⟩:=zB1 ok hb
        cases r2
        have len1:its.toArray.size = ds.length:=by have:=v1.length; have:=q1.length; simp; omega
        have len2:its2.toArray.size = es.length:=by have:=v2.length; have:=q2.length; simp; omega
        show SeqAt.EqAt A s (.ref a) (.ref b) (Dat.eqL ds es)
        by_cases hne:a = b
        · 
          subst hne
          rw [ha] at hb
          cases hb
          have same:Dat.eqL ds es = true:=by
            rw [RepL.inj q1 q2]; exact Dat.eqL_refl _
          rw [same]
          exact SeqAt.EqAt.same _
        · refine SeqAt.EqAt.of_refs hne ?_
          by_cases hs:ds.length = es.length
          · have:=SeqAt.RcAt.lists (A:=A) (s:=s) hl1 hl2 (by rw [len1,len2,hs]) hu' (pairs hdl q1 q2 v1 v2)
            rw [len1,Dat.eqL_all hs _ (fun j h1 h2=>by rw [List.getD_eq_getElem?_getD,List.getD_eq_getElem?_getD]; simp [h1,h2])] at this
            exact this
          · rw [Dat.eqL_len hs]
            exact SeqAt.RcAt.lists_lengths hl1 hl2 (by rw [len1,len2]; simpa using hs) hu'
    | tup ds =>
      have hdl:Dat.depL ds≤n:=by rw [Dat.dep] at hd; omega
      obtain ⟨a,xs,rfl,ha,q1⟩:=h1
      obtain ⟨its,v1,hl1⟩:=zBQ ok ha
      cases r1
      cases e with
      | non=>cases h2; cases r2; exact SeqAt.EqAt.tuple_none hl1 hu'
      | bl b=>cases h2; cases r2; exact SeqAt.EqAt.tuple_bool b hl1 hu'
      | int i=>cases h2; obtain ⟨t,rfl⟩:=r2; exact SeqAt.EqAt.tuple_int i t hl1 hu'
      | str z=>cases h2; obtain ⟨t,rfl⟩:=r2; exact SeqAt.EqAt.tuple_str z t hl1 hu'
      | lst es =>
        obtain ⟨b,ys,rfl,hb,q2⟩:=h2
        obtain ⟨its2,v2,hl2⟩:=zB1 ok hb
        cases r2
        exact SeqAt.EqAt.of_refs (zWQ ha hb (fun z=>nomatch z)) (SeqAt.RcAt.tuple_list hl1 hl2 hu')
      | tup es =>
        obtain ⟨b,ys,rfl,hb,q2⟩:=h2
        obtain ⟨its2,v2,hl2⟩:=zBQ ok hb
        cases r2
        have len1:its.toArray.size = ds.length:=by have:=v1.length; have:=q1.length; simp; omega
        have len2:its2.toArray.size = es.length:=by have:=v2.length; have:=q2.length; simp; omega
        show SeqAt.EqAt A s (.ref a) (.ref b) (Dat.eqL ds es)
        by_cases hne:a = b
        · subst hne
          rw [ha] at hb
          cases hb
          have same:Dat.eqL ds es = true:=by
            rw [RepL.inj q1 q2]; exact Dat.eqL_refl _
          rw [same]
          exact SeqAt.EqAt.same _
        · refine SeqAt.EqAt.of_refs hne ?_
          have:=SeqAt.RcAt.tuples (A:=A) (s:=s) hl1 hl2 hu' (pairs hdl q1 q2 v1 v2)
          by_cases hs:ds.length = es.length
          · rw [len1,len2,← hs,Nat.min_self,beq_self_eq_true,Bool.and_true,Dat.eqL_all hs _ (fun j h1 h2=>by rw [List.getD_eq_getElem?_getD,List.getD_eq_getElem?_getD]; simp [h1,h2])] at this
            exact this
          · rw [len1,len2,show (ds.length == es.length) = false by simpa using hs,Bool.and_false] at this
            rw [Dat.eqL_len hs]
            exact this
    | _=>simp [Dat.dep] at hd0
theorem zGV {n:Nat} {A:Around} {s:Shared} (ok:HOk P w H s.heap) {ds es:List Dat} {xs ys:List V} {its its2:List Value} (hdl:Dat.depL ds≤n) (hu:A.units + n < cLine) (q1:RepL H ds xs) (q2:RepL H es ys) (v1:Vals xs its) (v2:Vals ys its2) :
    ∀ j (h1:j < its.toArray.size) (h2:j < its2.toArray.size),SeqAt.EqAt A s its.toArray[j] its2.toArray[j] (Dat.eq (ds.getD j .non) (es.getD j .non)):=by
  intro j j1 j2
  have l1:j < xs.length:=by have:=v1.length; simp at j1; omega
  have l2:j < ys.length:=by have:=v2.length; simp at j2; omega
  obtain ⟨d',e1,p1⟩:=q1.get (i:=j) (x:=xs[j]) (by simp [l1])
  obtain ⟨e',e2,p2⟩:=q2.get (i:=j) (x:=ys[j]) (by simp [l2])
  obtain ⟨w1,g1,z1⟩:=v1.get (i:=j) (x:=xs[j]) (by simp [l1])
  obtain ⟨w2,g2,z2⟩:=v2.get (i:=j) (x:=ys[j]) (by simp [l2])
  have k1:its.toArray[j] = w1:=by
    obtain ⟨_,k⟩:=List.getElem?_eq_some_iff.mp g1
    simpa using k
  have k2:its2.toArray[j] = w2:=by
    obtain ⟨_,k⟩:=List.getElem?_eq_some_iff.mp g2
    simpa using k
  rw [k1,k2,List.getD_eq_getElem?_getD,List.getD_eq_getElem?_getD,e1,e2]
  exact zS4 n (Nat.le_trans (Dat.depL_mem (List.mem_of_getElem? e1)) hdl) ok p1 p2 z1 z2 hu
theorem zRA (n:Nat) {d e:Dat} {v u:V} {x y:Value} {A:Around} {s:Shared} (hd:d.dep≤n) (ok:HOk P w H s.heap) (h1:Rep H d v) (h2:Rep H e u) (r1:RelV v x) (r2:RelV u y) (hu:A.units + n < cLine):SeqAt.RcAt A s x y (Dat.eq d e):=by
  have hu':A.units < cLine:=by omega
  cases d with
  | non =>
    cases h1; cases r1
    cases e with
    | non =>
      cases h2; cases r2
      exact SeqAt.RcAt.none_none
    | bl b =>
      cases h2; cases r2
      exact SeqAt.RcAt.none_bool b
    | int b =>
      cases h2; obtain ⟨t2,rfl⟩:=r2
      exact SeqAt.RcAt.none_int b t2
    | str b =>
      cases h2; obtain ⟨t2,rfl⟩:=r2
      exact SeqAt.RcAt.none_str b t2
    | lst es =>
      obtain ⟨p2,ys,rfl,hb,q2⟩:=h2
      obtain ⟨its2,v2,hl2⟩:=zB1 ok hb
      cases r2
      exact SeqAt.RcAt.none_list hl2 hu'
    | tup es =>
      obtain ⟨p2,ys,rfl,hb,q2⟩:=h2
      obtain ⟨its2,v2,hl2⟩:=zBQ ok hb
      cases r2
      exact SeqAt.RcAt.none_tuple hl2 hu'
  | bl a =>
    cases h1; cases r1
    cases e with
    | non =>
      cases h2; cases r2
      exact SeqAt.RcAt.bool_none a
    | bl b =>
      cases h2; cases r2
      exact SeqAt.RcAt.bool_bool a b
    | int b =>
      cases h2; obtain ⟨t2,rfl⟩:=r2
      exact SeqAt.RcAt.bool_int a b t2
    | str b =>
      cases h2; obtain ⟨t2,rfl⟩:=r2
      exact SeqAt.RcAt.bool_str a b t2
    | lst es =>
      obtain ⟨p2,ys,rfl,hb,q2⟩:=h2
      obtain ⟨its2,v2,hl2⟩:=zB1 ok hb
      cases r2
      exact SeqAt.RcAt.bool_list a hl2 hu'
    | tup es =>
      obtain ⟨p2,ys,rfl,hb,q2⟩:=h2
      obtain ⟨its2,v2,hl2⟩:=zBQ ok hb
      cases r2
      exact SeqAt.RcAt.bool_tuple a hl2 hu'
  | int a =>
    cases h1; obtain ⟨t1,rfl⟩:=r1
    cases e with
    | non =>
      cases h2; cases r2
      exact SeqAt.RcAt.int_none a t1
    | bl b =>
      cases h2; cases r2
      exact SeqAt.RcAt.int_bool a t1 b
    | int b =>
      cases h2; obtain ⟨t2,rfl⟩:=r2
      exact SeqAt.RcAt.int_int a t1 b t2
    | str b =>
      cases h2; obtain ⟨t2,rfl⟩:=r2
      exact SeqAt.RcAt.int_str a t1 b t2
    | lst es =>
      obtain ⟨p2,ys,rfl,hb,q2⟩:=h2
      obtain ⟨its2,v2,hl2⟩:=zB1 ok hb
      cases r2
      exact SeqAt.RcAt.int_list a t1 hl2 hu'
    | tup es =>
      obtain ⟨p2,ys,rfl,hb,q2⟩:=h2
      obtain ⟨its2,v2,hl2⟩:=zBQ ok hb
      cases r2
      exact SeqAt.RcAt.int_tuple a t1 hl2 hu'
  | str a =>
    cases h1; obtain ⟨t1,rfl⟩:=r1
    cases e with
    | non =>
      cases h2; cases r2
      exact SeqAt.RcAt.str_none a t1
    | bl b =>
      cases h2; cases r2
      exact SeqAt.RcAt.str_bool a t1 b
    | int b =>
      cases h2; obtain ⟨t2,rfl⟩:=r2
      exact SeqAt.RcAt.str_int a t1 b t2
    | str b =>
      cases h2; obtain ⟨t2,rfl⟩:=r2
      exact SeqAt.RcAt.str_str a t1 b t2
    | lst es =>
      obtain ⟨p2,ys,rfl,hb,q2⟩:=h2
      obtain ⟨its2,v2,hl2⟩:=zB1 ok hb
      cases r2
      exact SeqAt.RcAt.str_list a t1 hl2 hu'
    | tup es =>
      obtain ⟨p2,ys,rfl,hb,q2⟩:=h2
      obtain ⟨its2,v2,hl2⟩:=zBQ ok hb
      cases r2
      exact SeqAt.RcAt.str_tuple a t1 hl2 hu'
  | lst ds =>
    have hdl:Dat.depL ds + 1≤n:=by rw [Dat.dep] at hd; exact hd
    obtain ⟨p,xs,rfl,ha,q1⟩:=h1
    obtain ⟨its,v1,hl1⟩:=zB1 ok ha
    cases r1
    cases e with
    | non =>
      cases h2; cases r2
      exact SeqAt.RcAt.list_none hl1 hu'
    | bl b =>
      cases h2; cases r2
      exact SeqAt.RcAt.list_bool b hl1 hu'
    | int b =>
      cases h2; obtain ⟨t2,rfl⟩:=r2
      exact SeqAt.RcAt.list_int b t2 hl1 hu'
    | str b =>
      cases h2; obtain ⟨t2,rfl⟩:=r2
      exact SeqAt.RcAt.list_str b t2 hl1 hu'
    | lst es =>
      obtain ⟨p2,ys,rfl,hb,q2⟩:=h2
      obtain ⟨its2,v2,hl2⟩:=zB1 ok hb
      cases r2
      have len1:its.toArray.size = ds.length:=by have:=v1.length; have:=q1.length; simp; omega
      have len2:its2.toArray.size = es.length:=by have:=v2.length; have:=q2.length; simp; omega
      show SeqAt.RcAt A s (.ref p) (.ref p2) (Dat.eqL ds es)
      by_cases hs:ds.length = es.length
      · have:=SeqAt.RcAt.lists (A:=A) (s:=s) hl1 hl2 (by rw [len1,len2,hs]) hu' (zGV ok (by omega) (by rw [zEF]; omega:A.in1.units + (n - 1) < cLine) q1 q2 v1 v2)
        rw [len1,Dat.eqL_all hs _ (fun j h1 h2=>by rw [List.getD_eq_getElem?_getD,List.getD_eq_getElem?_getD]; simp [h1,h2])] at this
        exact this
      · rw [Dat.eqL_len hs]
        exact SeqAt.RcAt.lists_lengths hl1 hl2 (by rw [len1,len2]; simpa using hs) hu'
    | tup es =>
      obtain ⟨p2,ys,rfl,hb,q2⟩:=h2
      obtain ⟨its2,v2,hl2⟩:=zBQ ok hb
      cases r2
      exact SeqAt.RcAt.list_tuple hl1 hl2 hu'
  | tup ds =>
    have hdl:Dat.depL ds + 1≤n:=by rw [Dat.dep] at hd; exact hd
    obtain ⟨p,xs,rfl,ha,q1⟩:=h1
    obtain ⟨its,v1,hl1⟩:=zBQ ok ha
    cases r1
    cases e with
    | non =>
      cases h2; cases r2
      exact SeqAt.RcAt.tuple_none hl1 hu'
    | bl b =>
      cases h2; cases r2
      exact SeqAt.RcAt.tuple_bool b hl1 hu'
    | int b =>
      cases h2; obtain ⟨t2,rfl⟩:=r2
      exact SeqAt.RcAt.tuple_int b t2 hl1 hu'
    | str b =>
      cases h2; obtain ⟨t2,rfl⟩:=r2
      exact SeqAt.RcAt.tuple_str b t2 hl1 hu'
    | lst es =>
      obtain ⟨p2,ys,rfl,hb,q2⟩:=h2
      obtain ⟨its2,v2,hl2⟩:=zB1 ok hb
      cases r2
      exact SeqAt.RcAt.tuple_list hl1 hl2 hu'
    | tup es =>
      obtain ⟨p2,ys,rfl,hb,q2⟩:=h2
      obtain ⟨its2,v2,hl2⟩:=zBQ ok hb
      cases r2
      have len1:its.toArray.size = ds.length:=by have:=v1.length; have:=q1.length; simp; omega
      have len2:its2.toArray.size = es.length:=by have:=v2.length; have:=q2.length; simp; omega
      show SeqAt.RcAt A s (.ref p) (.ref p2) (Dat.eqL ds es)
      have:=SeqAt.RcAt.tuples (A:=A) (s:=s) hl1 hl2 hu' (zGV ok (by omega) (by rw [zEF]; omega:A.in1.units + (n - 1) < cLine) q1 q2 v1 v2)
      by_cases hs:ds.length = es.length
      · rw [len1,len2,← hs,Nat.min_self,beq_self_eq_true,Bool.and_true,Dat.eqL_all hs _ (fun j h1 h2=>by rw [List.getD_eq_getElem?_getD,List.getD_eq_getElem?_getD]; simp [h1,h2])] at this
        exact this
      · rw [len1,len2,show (ds.length == es.length) = false by simpa using hs,Bool.and_false] at this
        rw [Dat.eqL_len hs]
        exact this
theorem zNT (n:Nat) {d e:Dat} {v u:V} {x y:Value} {A:Around} {s:Shared} (hd:d.dep≤n) (ok:HOk P w H s.heap) (h1:Rep H d v) (h2:Rep H e u) (r1:RelV v x) (r2:RelV u y) (hu:A.units + n < cLine):SeqAt.RcNeAt A s x y (!Dat.eq d e):=by
  have hu':A.units < cLine:=by omega
  cases d with
  | non =>
    cases h1; cases r1
    cases e with
    | non =>
      cases h2; cases r2
      exact SeqAt.RcNeAt.none_none
    | bl b =>
      cases h2; cases r2
      exact SeqAt.RcNeAt.none_bool b
    | int b =>
      cases h2; obtain ⟨t2,rfl⟩:=r2
      exact SeqAt.RcNeAt.none_int b t2
    | str b =>
      cases h2; obtain ⟨t2,rfl⟩:=r2
      exact SeqAt.RcNeAt.none_str b t2
    | lst es =>
      obtain ⟨p2,ys,rfl,hb,q2⟩:=h2
      obtain ⟨its2,v2,hl2⟩:=zB1 ok hb
      cases r2
      exact SeqAt.RcNeAt.none_list hl2 hu'
    | tup es =>
      obtain ⟨p2,ys,rfl,hb,q2⟩:=h2
      obtain ⟨its2,v2,hl2⟩:=zBQ ok hb
      cases r2
      exact SeqAt.RcNeAt.none_tuple hl2 hu'
  | bl a =>
    cases h1; cases r1
    cases e with
    | non =>
      cases h2; cases r2
      exact SeqAt.RcNeAt.bool_none a
    | bl b =>
      cases h2; cases r2
      exact SeqAt.RcNeAt.bool_bool a b
    | int b =>
      cases h2; obtain ⟨t2,rfl⟩:=r2
      exact SeqAt.RcNeAt.bool_int a b t2
    | str b =>
      cases h2; obtain ⟨t2,rfl⟩:=r2
      exact SeqAt.RcNeAt.bool_str a b t2
    | lst es =>
      obtain ⟨p2,ys,rfl,hb,q2⟩:=h2
      obtain ⟨its2,v2,hl2⟩:=zB1 ok hb
      cases r2
      exact SeqAt.RcNeAt.bool_list a hl2 hu'
    | tup es =>
      obtain ⟨p2,ys,rfl,hb,q2⟩:=h2
      obtain ⟨its2,v2,hl2⟩:=zBQ ok hb
      cases r2
      exact SeqAt.RcNeAt.bool_tuple a hl2 hu'
  | int a =>
    cases h1; obtain ⟨t1,rfl⟩:=r1
    cases e with
    | non =>
      cases h2; cases r2
      exact SeqAt.RcNeAt.int_none a t1
    | bl b =>
      cases h2; cases r2
      exact SeqAt.RcNeAt.int_bool a t1 b
    | int b =>
      cases h2; obtain ⟨t2,rfl⟩:=r2
      exact SeqAt.RcNeAt.int_int a t1 b t2
    | str b =>
      cases h2; obtain ⟨t2,rfl⟩:=r2
      exact SeqAt.RcNeAt.int_str a t1 b t2
    | lst es =>
      obtain ⟨p2,ys,rfl,hb,q2⟩:=h2
      obtain ⟨its2,v2,hl2⟩:=zB1 ok hb
      cases r2
      exact SeqAt.RcNeAt.int_list a t1 hl2 hu'
    | tup es =>
      obtain ⟨p2,ys,rfl,hb,q2⟩:=h2
      obtain ⟨its2,v2,hl2⟩:=zBQ ok hb
      cases r2
      exact SeqAt.RcNeAt.int_tuple a t1 hl2 hu'
  | str a =>
    cases h1; obtain ⟨t1,rfl⟩:=r1
    cases e with
    | non =>
      cases h2; cases r2
      exact SeqAt.RcNeAt.str_none a t1
    | bl b =>
      cases h2; cases r2
      exact SeqAt.RcNeAt.str_bool a t1 b
    | int b =>
      cases h2; obtain ⟨t2,rfl⟩:=r2
      exact SeqAt.RcNeAt.str_int a t1 b t2
    | str b =>
      cases h2; obtain ⟨t2,rfl⟩:=r2
      exact SeqAt.RcNeAt.str_str a t1 b t2
    | lst es =>
      obtain ⟨p2,ys,rfl,hb,q2⟩:=h2
      obtain ⟨its2,v2,hl2⟩:=zB1 ok hb
      cases r2
      exact SeqAt.RcNeAt.str_list a t1 hl2 hu'
    | tup es =>
      obtain ⟨p2,ys,rfl,hb,q2⟩:=h2
      obtain ⟨its2,v2,hl2⟩:=zBQ ok hb
      cases r2
      exact SeqAt.RcNeAt.str_tuple a t1 hl2 hu'
  | lst ds =>
    have hdl:Dat.depL ds + 1≤n:=by rw [Dat.dep] at hd; exact hd
    obtain ⟨p,xs,rfl,ha,q1⟩:=h1
    obtain ⟨its,v1,hl1⟩:=zB1 ok ha
    cases r1
    cases e with
    | non =>
      cases h2; cases r2
      exact SeqAt.RcNeAt.list_none hl1 hu'
    | bl b =>
      cases h2; cases r2
      exact SeqAt.RcNeAt.list_bool b hl1 hu'
    | int b =>
      cases h2; obtain ⟨t2,rfl⟩:=r2
      exact SeqAt.RcNeAt.list_int b t2 hl1 hu'
    | str b =>
      cases h2; obtain ⟨t2,rfl⟩:=r2
      exact SeqAt.RcNeAt.list_str b t2 hl1 hu'
    | lst es =>
      obtain ⟨p2,ys,rfl,hb,q2⟩:=h2
      obtain ⟨its2,v2,hl2⟩:=zB1 ok hb
      cases r2
      have len1:its.toArray.size = ds.length:=by have:=v1.length; have:=q1.length; simp; omega
      have len2:its2.toArray.size = es.length:=by have:=v2.length; have:=q2.length; simp; omega
      show SeqAt.RcNeAt A s (.ref p) (.ref p2) (!Dat.eqL ds es)
      by_cases hs:ds.length = es.length
      · have:=SeqAt.RcNeAt.lists (A:=A) (s:=s) hl1 hl2 (by rw [len1,len2,hs]) hu' (zGV ok (by omega) (by rw [zEF]; omega:A.in1.units + (n - 1) < cLine) q1 q2 v1 v2)
        rw [len1,Dat.eqL_all hs _ (fun j h1 h2=>by rw [List.getD_eq_getElem?_getD,List.getD_eq_getElem?_getD]; simp [h1,h2])] at this
        exact this
      · rw [Dat.eqL_len hs]
        exact SeqAt.RcNeAt.lists_lengths hl1 hl2 (by rw [len1,len2]; simpa using hs) hu'
    | tup es =>
      obtain ⟨p2,ys,rfl,hb,q2⟩:=h2
      obtain ⟨its2,v2,hl2⟩:=zBQ ok hb
      cases r2
      exact SeqAt.RcNeAt.list_tuple hl1 hl2 hu'
  | tup ds =>
    have hdl:Dat.depL ds + 1≤n:=by rw [Dat.dep] at hd; exact hd
    obtain ⟨p,xs,rfl,ha,q1⟩:=h1
    obtain ⟨its,v1,hl1⟩:=zBQ ok ha
    cases r1
    cases e with
    | non =>
      cases h2; cases r2
      exact SeqAt.RcNeAt.tuple_none hl1 hu'
    | bl b =>
      cases h2; cases r2
      exact SeqAt.RcNeAt.tuple_bool b hl1 hu'
    | int b =>
      cases h2; obtain ⟨t2,rfl⟩:=r2
      exact SeqAt.RcNeAt.tuple_int b t2 hl1 hu'
    | str b =>
      cases h2; obtain ⟨t2,rfl⟩:=r2
      exact SeqAt.RcNeAt.tuple_str b t2 hl1 hu'
    | lst es =>
      obtain ⟨p2,ys,rfl,hb,q2⟩:=h2
      obtain ⟨its2,v2,hl2⟩:=zB1 ok hb
      cases r2
      exact SeqAt.RcNeAt.tuple_list hl1 hl2 hu'
    | tup es =>
      obtain ⟨p2,ys,rfl,hb,q2⟩:=h2
      obtain ⟨its2,v2,hl2⟩:=zBQ ok hb
      cases r2
      have len1:its.toArray.size = ds.length:=by have:=v1.length; have:=q1.length; simp; omega
      have len2:its2.toArray.size = es.length:=by have:=v2.length; have:=q2.length; simp; omega
      show SeqAt.RcNeAt A s (.ref p) (.ref p2) (!Dat.eqL ds es)
      have:=SeqAt.RcNeAt.tuples (A:=A) (s:=s) hl1 hl2 hu' (zGV ok (by omega) (by rw [zEF]; omega:A.in1.units + (n - 1) < cLine) q1 q2 v1 v2)
      by_cases hs:ds.length = es.length
      · rw [len1,len2,← hs,Nat.min_self,beq_self_eq_true,Bool.and_true,Dat.eqL_all hs _ (fun j h1 h2=>by rw [List.getD_eq_getElem?_getD,List.getD_eq_getElem?_getD]; simp [h1,h2])] at this
        exact this
      · rw [len1,len2,show (ds.length == es.length) = false by simpa using hs,Bool.and_false] at this
        rw [Dat.eqL_len hs]
        exact this
end
section
variable {X:Cx}
noncomputable def rEqD:R2:=fun x y H Q=>∃ d e,Rep H d x∧Rep H e y∧d.dep≤40∧Q (.bl (Dat.eq d e)) H
noncomputable def rNeD:R2:=fun x y H Q=>∃ d e,Rep H d x∧Rep H e y∧d.dep≤40∧Q (.bl (!Dat.eq d e)) H
theorem zWM (hu:X.A.units + 64 < cLine):OpR X (compareOp .Eq) rEqD:=by
  intro pins s σ H x y v u Q I rx ry h
  obtain ⟨d,e,h1,h2,hd,q⟩:=h
  exact zRA 40 hd I.hok h1 h2 rx ry (by omega) _ _ _ _ ⟨.bl _,H,I,rfl,q⟩
theorem zWK (hu:X.A.units + 64 < cLine):OpR X (compareOp .NotEq) rNeD:=by
  intro pins s σ H x y v u Q I rx ry h
  obtain ⟨d,e,h1,h2,hd,q⟩:=h
  exact zNT 40 hd I.hok h1 h2 rx ry (by omega) _ _ _ _ ⟨.bl _,H,I,rfl,q⟩
noncomputable def zH3 (H:Hp):V→Option String
  | .non=>some "NoneType"
  | .bl _=>some "bool"
  | .int _=>some "int"
  | .str _=>some "str"
  | .ref a=>match H a with
    | some (.lst _)=>some "list"
    | some (.tup _)=>some "tuple"
    | some (.dK _)=>some "dict"
    | _=>none
  | _=>none
noncomputable def zUR (T n:String):Bool:=T == n || (T == "bool" && n == "int")
theorem zMG:zD3 X (.builtin "isinstance") (fun vs H Q=>∃ x n T,vs = [x,.ty n]∧zH3 H x = some T∧n∈["int","bool","str","list","tuple","dict"]∧Q (.bl (zUR T n)) H):=by
  intro pins s σ H vs us Q I r h
  obtain ⟨x,n,T,rfl,ht,hn,q⟩:=h
  obtain ⟨u,w',rfl,rx,rn⟩:=zQO r
  cases (show w' = Value.type n from rn)
  have key:∃ t,TyOf X.K H x t∧t = .type T:=by
    cases x with
    | non=>cases ht; exact ⟨_,.non,rfl⟩
    | bl b=>cases ht; exact ⟨_,.bl b,rfl⟩
    | int b=>cases ht; exact ⟨_,.int b,rfl⟩
    | str b=>cases ht; exact ⟨_,.str b,rfl⟩
    | ref a =>
      unfold zH3 at ht
      dsimp only at ht
      cases e:H a with
      | none=>rw [e] at ht; cases ht
      | some o =>
        rw [e] at ht
        cases o with
        | lst xs=>cases ht; exact ⟨_,.lst e,rfl⟩
        | tup xs=>cases ht; exact ⟨_,.tup e,rfl⟩
        | dK xs=>cases ht; exact ⟨_,.dK e,rfl⟩
        | _=>cases ht
    | _=>cases ht
  obtain ⟨t,ty,rfl⟩:=key
  have hT:T∈["NoneType","bool","int","str","list","tuple","dict"]:=by
    cases x with
    | non=>cases ht; decide
    | bl b=>cases ht; decide
    | int b=>cases ht; decide
    | str b=>cases ht; decide
    | ref a =>
      unfold zH3 at ht
      dsimp only at ht
      cases e:H a with
      | none=>rw [e] at ht; cases ht
      | some o =>
        rw [e] at ht
        cases o with
        | lst xs=>cases ht; decide
        | tup xs=>cases ht; decide
        | dK xs=>cases ht; decide
        | _=>cases ht
    | _=>cases ht
  have e:PySem.W.kitOne X.K (.type T) (.type n) = some (zUR T n):=by
    simp only [List.mem_cons,List.mem_nil_iff,or_false] at hT hn
    rcases hT with rfl | rfl | rfl | rfl | rfl | rfl | rfl <;> rcases hn with rfl | rfl | rfl | rfl | rfl | rfl <;> rfl
  exact zPU I rx ty e fun tk=>⟨.bl _,H,I.tok tk,rfl,q⟩
theorem zLK {prog:Program} {w:World} {A:Around} {bs:List Bool}:TruthOf prog w A (fun i v=>(bs.map Value.bool).toArray[i]? = some v) (fun i=>bs.getD i false):=by
  intro i v s Q E hv hq
  have hv':(bs[i]?).map Value.bool = some v:=by simpa using hv
  cases e:bs[i]? with
  | none=>rw [e] at hv'; cases hv'
  | some b =>
    rw [e] at hv'
    cases hv'
    dsimp only at hq
    rw [List.getD_eq_getElem?_getD,e] at hq
    exact wpAny_truthy_bool hq
theorem zII:∀ {bs:List Bool} {its:List Value},Vals (bs.map V.bl) its→its = bs.map Value.bool
  | [],_,.nil=>rfl
  | b :: r,_,.cons h t=>by
    have h':_ = Value.bool b:=h
    rw [h',zII t]; rfl
theorem zNJ:∀ (bs:List Bool),(List.range bs.length).all (fun i=>bs.getD i false) = bs.all id
  | []=>rfl
  | b :: r=>by
    rw [List.length_cons,List.range_succ_eq_map,List.all_cons,List.all_cons,← zNJ r,List.all_map]
    rfl
theorem zSH (hc:X.calm = true):zD3 X (.builtin "all") (fun vs H Q=>∃ (a:Addr) (bs:List Bool),vs = [.ref a]∧H a = some (.lst (bs.map V.bl))∧Q (.bl (bs.all id)) H):=by
  intro pins s σ H vs us Q I r h
  obtain ⟨a,bs,rfl,ha,q⟩:=h
  obtain ⟨u,rfl,rx⟩:=zI8 r
  cases rx
  obtain ⟨its,rv,hl⟩:=zB1 I.hok ha
  have e:=zII rv
  subst e
  refine call_all_walk (wpAny_pyIter_list hl ?_)
  have hlt:a < s.heap.objs.size:=by obtain ⟨o,ho,_⟩:=hl; exact Heap.lt_size ho
  refine ⟨s.heap.objs.size,_,_,_,_,_,fun i=>bs.getD i false,rfl,Walks.list (show X.A.in1.handled = none from I.ok.hd hc) s.heap.objs.size a (Nat.ne_of_lt hlt) _,
    ⟨⟨_,Heap.get?_push_size _ rfl,rfl,rfl⟩,hl.at fun o e=>Heap.get?_push_of_some _ e⟩,zLK,fun h' tk hk=>?_⟩
  refine ⟨.bl _,H,I.kept (t':=tk) fun b o e=>hk b o ?_ (Heap.get?_push_of_some _ e),rfl,?_⟩
  · have:=Heap.lt_size e
    simp only [List.mem_singleton]
    exact Nat.ne_of_lt this
  · have:(bs.map Value.bool).toArray.size = bs.length:=by simp
    rw [this,zNJ]
    exact q
noncomputable def zHG (lo:Int) (n:Nat):List V:=(List.range n).map fun i=>.int (lo + (i:Nat))
theorem zGZ:∀ {xs:List V} {its:List Value},xs.length = its.length→(∀ (j:Nat) (x:V) (v:Value),xs[j]? = some x→its[j]? = some v→RelV x v)→Vals xs its
  | [],[],_,_=>.nil
  | [],_ :: _,h,_=>by simp at h
  | _ :: _,[],h,_=>by simp at h
  | x :: xs,v :: its,h,g=>.cons (g 0 x v rfl rfl) (zGZ (by simpa using h) fun j y u e1 e2=>g (j + 1) y u (by simpa using e1) (by simpa using e2))
theorem zOK {lo:Int} {n:Nat} {its:List Value} (hl:its.length = n) (h:∀ (j:Nat) (v:Value),its[j]? = some v→∃ t,v = Value.int (lo + (j:Int) * 1) t):Vals (zHG lo n) its:=by
  refine zGZ (by simp [zHG,hl]) fun j x v e1 e2=>?_
  unfold zHG at e1
  rw [List.getElem?_map] at e1
  cases e:(List.range n)[j]? with
  | none=>rw [e] at e1; cases e1
  | some i =>
    rw [e] at e1
    cases e1
    have hi:i = j:=by
      obtain ⟨h1,h2⟩:=List.getElem?_eq_some_iff.mp e
      rw [List.getElem_range] at h2
      exact h2.symm
    subst hi
    obtain ⟨t,ht⟩:=h i v e2
    exact ⟨t,by rw [ht,Int.mul_one]⟩
theorem zQE:zD3 X (.type "range") (fun vs H Q=>∃ j:Int,vs = [.int j]∧∀ p,H p = none→Q (.ref p) (upd H p (.rng 0 j))):=by
  intro pins s σ H vs us Q I r h
  obtain ⟨j,rfl,q⟩:=h
  obtain ⟨u,rfl,rx⟩:=zI8 r
  obtain ⟨t,rfl⟩:=rx
  exact call_range_1 ⟨.ref _,_,I.laid (o:=.rng 0 j) (fun b o e=>Heap.get?_push_of_some _ e) (Nat.le_refl _) ⟨_,_,_,Heap.get?_push_size _ rfl⟩,rfl,q _ I.fresh⟩
theorem zQD:zD3 X (.type "range") (fun vs H Q=>∃ i j:Int,vs = [.int i,.int j]∧∀ p,H p = none→Q (.ref p) (upd H p (.rng i j))):=by
  intro pins s σ H vs us Q I r h
  obtain ⟨i,j,rfl,q⟩:=h
  obtain ⟨u,u',rfl,rx,rx'⟩:=zQO r
  obtain ⟨t,rfl⟩:=rx
  obtain ⟨t',rfl⟩:=rx'
  exact call_range_2 ⟨.ref _,_,I.laid (o:=.rng i j) (fun b o e=>Heap.get?_push_of_some _ e) (Nat.le_refl _) ⟨_,_,_,Heap.get?_push_size _ rfl⟩,rfl,q _ I.fresh⟩
theorem zJY (hc:X.calm = true):zD3 X (.type "list") (fun vs H Q=>∃ p lo hi,vs = [.ref p]∧H p = some (.rng lo hi)∧(-(2 ^ 62)≤lo∧lo < 2 ^ 62∧-(2 ^ 62)≤hi∧hi < 2 ^ 62)∧hi - lo≤1000000∧∀ l,H l = none→Q (.ref l) (upd H l (.lst (zHG lo (hi - lo).toNat)))):=by
  intro pins s σ H vs us Q I r h
  obtain ⟨p,lo,hi,rfl,hp,⟨b1,b2,b3,b4⟩,hz,q⟩:=h
  obtain ⟨u,rfl,rx⟩:=zI8 r
  cases rx
  obtain ⟨t,u,v,e⟩:=(show ObjOk X.prog X.w H s.heap p (.rng lo hi) from I.hok p _ hp)
  have hn:Builtin.Range.rangeSize lo hi 1 = (((hi - lo).toNat:Nat):Int):=by rw [rangeSize_one]; split <;> omega
  refine call_list_range (n:=(hi - lo).toNat) (I.ok.hd hc) e (small_one b1 b2 b3 b4) hn (by omega) fun h' tk acc' c' hk hS hacc=>?_
  have rv:Vals (zHG lo (hi - lo).toNat) acc'.toList:=zOK (by simpa using hacc.1) fun j v hj=>hacc.2 j v (by simpa using hj)
  refine ⟨.ref _,_,I.laid (o:=.lst (zHG lo (hi - lo).toNat)) hk (Nat.le_refl _) ⟨?_,acc'.toList,c',rv,by simpa using hS⟩,rfl,q _ I.fresh⟩
  have hl:(zHG lo (hi - lo).toNat).length = (hi - lo).toNat:=by simp [zHG]
  rw [hl,sizeLine_eq]
  omega
end
end L2

namespace L2
open PySem PySem.Spec PyProof.Rows
section
variable {X:Cx}
def zW9:R2:=fun x y H Q=>match x,y with
  | .int i,.int j=>Q (.int (i + j)) H
  | .str i,.str j=>i.length + j.length≤sizeLine∧Q (.str (i ++ j)) H
  | .ref l,.ref b=>∃ xs zs,H l = some (.lst xs)∧H b = some (.lst zs)∧xs.length + zs.length≤sizeLine∧∀ p,H p = none→Q (.ref p) (upd H p (.lst (xs ++ zs)))
  | _,_=>False
theorem zDE:OpR X (binaryOp .Add) zW9:=by
  intro pins s σ H x y v u Q I rx ry h
  cases x <;> cases y <;> first
    | exact zWO pins s σ H _ _ v u Q I rx ry ⟨_,_,rfl,rfl,h⟩
    | exact zNV pins s σ H _ _ v u Q I rx ry ⟨_,_,rfl,rfl,h.1,h.2⟩
    | (obtain ⟨xs,zs,h1,h2,h3,h4⟩:=h; exact zWN pins s σ H _ _ v u Q I rx ry ⟨_,_,xs,zs,rfl,rfl,h1,h2,h3,h4⟩)
    | exact False.elim h
noncomputable def rMulU:R2:=fun x y H Q=>match x,y with
  | .int i,.int j=>CMul i j∧Q (.int (i * j)) H
  | _,_=>False
noncomputable def zW0:R2:=fun x y H Q=>match x,y with
  | .int i,.int j=>Q (.int (i - j)) H
  | _,_=>False
theorem zQT:OpR X (binaryOp .Sub) zW0:=by
  intro pins s σ H x y v u Q I rx ry h
  cases x <;> cases y <;> first
    | exact zWI pins s σ H _ _ v u Q I rx ry ⟨_,_,rfl,rfl,h⟩
    | exact False.elim h
noncomputable def zW5:R2:=fun x y H Q=>match x,y with
  | .int i,.int j=>0 < j∧Q (.int (i % j)) H
  | _,_=>False
theorem zCG:OpR X (binaryOp .Mod) zW5:=by
  intro pins s σ H x y v u Q I rx ry h
  cases x <;> cases y <;> first
    | exact zWL pins s σ H _ _ v u Q I rx ry ⟨_,_,rfl,rfl,h.1,h.2⟩
    | exact False.elim h
noncomputable def zW2:R2:=fun x y H Q=>match x,y with
  | .int i,.int j=>CPow i j∧Q (.int (i ^ j.toNat)) H
  | _,_=>False
theorem zVK:OpR X (binaryOp .Pow) zW2:=by
  intro pins s σ H x y v u Q I rx ry h
  cases x <;> cases y <;> first
    | exact zWJ pins s σ H _ _ v u Q I rx ry ⟨_,_,rfl,rfl,h.1,h.2⟩
    | exact False.elim h
def zW3:V→Hp→VK→Prop:=fun x H Q=>match x with
  | .int i=>Q (.int (-i)) H
  | _=>False
theorem zY5:UnR X (unaryOp .USub) zW3:=by
  intro pins s σ H x v Q I rx h
  cases x <;> first
    | exact zVJ pins s σ H _ v Q I rx ⟨_,rfl,h⟩
    | exact False.elim h
noncomputable def zU2 (p:Int→Int→Bool):R2:=fun x y H Q=>match x,y with
  | .int i,.int j=>Q (.bl (p i j)) H
  | _,_=>False
theorem u_lt:OpR X (compareOp .Lt) (zU2 fun i j=>decide (i < j)):=by
  intro pins s σ H x y v u Q I rx ry h
  cases x <;> cases y <;> first
    | exact zYG pins s σ H _ _ v u Q I rx ry ⟨_,_,rfl,rfl,h⟩
    | exact False.elim h
theorem u_gt:OpR X (compareOp .Gt) (zU2 fun i j=>decide (j < i)):=by
  intro pins s σ H x y v u Q I rx ry h
  cases x <;> cases y <;> first
    | exact zYH pins s σ H _ _ v u Q I rx ry ⟨_,_,rfl,rfl,h⟩
    | exact False.elim h
def rEqU:R2:=fun x y H Q=>match x,y with
  | .int i,.int j=>Q (.bl (decide (i = j))) H
  | .str i,.str j=>Q (.bl (decide (i = j))) H
  | .bl i,.bl j=>Q (.bl (decide (i = j))) H
  | x,y=>rEqD x y H Q
def rNeU:R2:=fun x y H Q=>match x,y with
  | .int i,.int j=>Q (.bl (!decide (i = j))) H
  | .str i,.str j=>Q (.bl (!decide (i = j))) H
  | .bl i,.bl j=>Q (.bl (!decide (i = j))) H
  | x,y=>rNeD x y H Q
theorem u_eq (hu:X.A.units + 64 < cLine):OpR X (compareOp .Eq) rEqU:=by
  intro pins s σ H x y v u Q I rx ry h
  cases x <;> cases y <;> first
    | (refine zYI pins s σ H _ _ v u Q I rx ry ⟨rfl,?_⟩; have h':=h; simp only [rEqU] at h'; simpa using h')
    | exact zWM hu pins s σ H _ _ v u Q I rx ry h
theorem u_ne (hu:X.A.units + 64 < cLine):OpR X (compareOp .NotEq) rNeU:=by
  intro pins s σ H x y v u Q I rx ry h
  cases x <;> cases y <;> first
    | (refine zYF pins s σ H _ _ v u Q I rx ry ⟨rfl,?_⟩; have h':=h; simp only [rNeU] at h'; simpa using h')
    | exact zWK hu pins s σ H _ _ v u Q I rx ry h
def rIxU (K:PySem.W.Frag):R2:=fun x y H Q=>match x,y with
  | .str z,.int i=>∃ c,z.length≤sizeLine∧atI z.cps.toList i = some c∧Q (.str ⟨#[c]⟩) H
  | .ref p,.int i=>∃ xs v,(SqL K H p xs∨SqT K H p xs)∧atI xs i = some v∧Q v H
  | _,_=>False
theorem u_ix:IxR X (rIxU X.K):=by
  intro value slice pins s σ H x y v u Q I rx ry h hs
  cases x <;> cases y <;> first
    | (obtain ⟨c,h1,h2,h3⟩:=h; exact zX1 value slice pins s σ H _ _ v u Q I rx ry ⟨_,_,c,rfl,rfl,h1,h2,h3⟩ hs)
    | (obtain ⟨xs,w,h1 | h1,h2,h3⟩:=h
       · exact zUP value slice pins s σ H _ _ v u Q I rx ry ⟨_,xs,_,w,rfl,rfl,h1,h2,h3⟩ hs
       · exact zWZ value slice pins s σ H _ _ v u Q I rx ry ⟨_,xs,_,w,rfl,rfl,h1,h2,h3⟩ hs)
    | exact False.elim h
def zTZ (K:PySem.W.Frag):List V→Hp→VK→Prop:=fun vs H Q=>match vs with
  | [.str z]=>z.length≤sizeLine∧Q (.int z.length) H
  | [.ref p]=>∃ xs,(SqL K H p xs∨SqT K H p xs)∧Q (.int xs.length) H
  | _=>False
theorem zYL:zD3 X (.builtin "len") (zTZ X.K):=by
  intro pins s σ H vs us Q I r h
  match vs,h with
  | [.str z],h=>exact zL8 pins s σ H _ us Q I r ⟨z,rfl,h.1,h.2⟩
  | [.ref p],h =>
    obtain ⟨xs,h1,h2⟩:=h
    exact zL9 pins s σ H _ us Q I r ⟨p,xs,rfl,h1,h2⟩
def zIK (K:PySem.W.Frag):List V→Hp→VK→Prop:=fun vs H Q=>match vs with
  | [.ref p]=>(∃ xs,(SqL K H p xs∨SqT K H p xs)∧∀ l,H l = none→Q (.ref l) (upd H l (.lst xs))) ∨
      ∃ lo hi,H p = some (.rng lo hi)∧(-(2 ^ 62)≤lo∧lo < 2 ^ 62∧-(2 ^ 62)≤hi∧hi < 2 ^ 62)∧hi - lo≤1000000∧∀ l,H l = none→Q (.ref l) (upd H l (.lst (zHG lo (hi - lo).toNat)))
  | _=>False
theorem zWY (hc:X.calm = true):zD3 X (.type "list") (zIK X.K):=by
  intro pins s σ H vs us Q I r h
  match vs,h with
  | [.ref p],h =>
    rcases h with ⟨xs,h1,h2⟩ | ⟨lo,hi,h1,h2,h3,h4⟩
    · exact zL7 pins s σ H _ us Q I r ⟨p,xs,rfl,h1,h2⟩
    · exact zJY hc pins s σ H _ us Q I r ⟨p,lo,hi,rfl,h1,h2,h3,h4⟩
def zP4:List V→Hp→VK→Prop:=fun vs H Q=>match vs with
  | [.int j]=>∀ p,H p = none→Q (.ref p) (upd H p (.rng 0 j))
  | [.int i,.int j]=>∀ p,H p = none→Q (.ref p) (upd H p (.rng i j))
  | _=>False
theorem zUO:zD3 X (.type "range") zP4:=by
  intro pins s σ H vs us Q I r h
  match vs,h with
  | [.int j],h=>exact zQE pins s σ H _ us Q I r ⟨j,rfl,h⟩
  | [.int i,.int j],h=>exact zQD pins s σ H _ us Q I r ⟨i,j,rfl,h⟩
def zW6:List V→Hp→VK→Prop:=fun vs H Q=>match vs with
  | [x,.ty n]=>∃ T,zH3 H x = some T∧n∈["int","bool","str","list","tuple","dict"]∧Q (.bl (zUR T n)) H
  | _=>False
theorem zD8:zD3 X (.builtin "isinstance") zW6:=by
  intro pins s σ H vs us Q I r h
  match vs,h with
  | [x,.ty n],h =>
    obtain ⟨T,h1,h2,h3⟩:=h
    exact zMG pins s σ H _ us Q I r ⟨x,n,T,rfl,h1,h2,h3⟩
def zW8:List V→Hp→VK→Prop:=fun vs H Q=>match vs with
  | [.ref a]=>∃ bs:List Bool,H a = some (.lst (bs.map V.bl))∧Q (.bl (bs.all id)) H
  | _=>False
theorem zYM (hc:X.calm = true):zD3 X (.builtin "all") zW8:=by
  intro pins s σ H vs us Q I r h
  match vs,h with
  | [.ref a],h =>
    obtain ⟨bs,h1,h2⟩:=h
    exact zSH hc pins s σ H _ us Q I r ⟨a,bs,rfl,h1,h2⟩
end
noncomputable def zL3 (N N':List Str) (k:Nat) (sc esc:Scope):Bool :=
  (sc.kind == .function) && decide ((sc.names.map (·.1)).Nodup) && (N'.length == N.length + k) &&
  ((List.range N.length).all fun i=>match N'[i]? with
    | none=>true
    | some x=>(sc.names.lookup x == none) || (sc.names.any (fun p=>p.1 == x && p.2 == .free) && N[i]? == some x)) &&
  (sc.names.all fun p=>p.2 != .free || esc.names.lookup p.1 == some .cell || esc.names.lookup p.1 == some .free)
theorem cn {X:Cx} {sc:Scope} (N':List Str) (k:Nat) (h:zL3 X.N N' k sc X.env.scope = true):CompNames X.N N' k sc X.env:=by
  unfold zL3 at h
  simp only [Bool.and_eq_true,decide_eq_true_eq,beq_iff_eq] at h
  obtain ⟨⟨⟨⟨h1,h2⟩,h3⟩,h4⟩,h5⟩:=h
  refine ⟨h1,h2,h3,fun i x e hi=>?_,fun x hx=>?_⟩
  · have q:=List.all_eq_true.mp h4 i (List.mem_range.mpr hi)
    rw [e] at q
    simp only [Bool.or_eq_true,Bool.and_eq_true,beq_iff_eq,List.any_eq_true] at q
    rcases q with q | ⟨⟨p,hp,e1,e2⟩,e3⟩
    · exact .inr q
    · obtain ⟨y,kk⟩:=p
      dsimp only at e1 e2
      subst e1; subst e2
      exact .inl ⟨hp,e3⟩
  · have q:=List.all_eq_true.mp h5 _ hx
    simp only [Bool.or_eq_true,bne_iff_ne,ne_eq,not_true_eq_false,false_or,beq_iff_eq] at q
    exact q
theorem PE.imp {X:Cx} {e:Expr} {t t':TE} (h:PE X e t) (i:∀ σ H Q,t' σ H Q→t σ H Q):PE X e t':=fun pins s σ H Q I q=>h pins s σ H Q I (i σ H Q q)
noncomputable def vM (i:Nat):TE:=fun σ H Q=>match σ[i]? with
  | some (some v)=>Q v H
  | _=>False
theorem pn {X:Cx} (i:Nat) {x:Str} {pos:Pos} (hN:X.N[i]? = some x:=by rfl) (hv:Vis X.env.scope x:=by first | exact Or.inl rfl | exact Or.inr (Or.inl rfl) | exact Or.inr (Or.inr rfl)) (hd:(x == ("__debug__":Str)) = false:=by decide)
    (hcd:(x == ("__classdict__":Str)) = false:=by decide):PE X (.Name x pos) (vM i):=(zWE hN hv hd hcd).imp fun σ H Q h=>by
  unfold vM at h
  cases e:σ[i]? with
  | none=>rw [e] at h; exact False.elim h
  | some w =>
    rw [e] at h
    cases w with
    | none=>exact False.elim h
    | some v=>exact ⟨v,e,h⟩
noncomputable def bM (t:TE):TT:=fun σ H Q=>t σ H fun x H'=>match x with
  | .bl k=>Q k H'
  | .int i=>Q (i != 0) H'
  | .non=>Q false H'
  | _=>False
section
variable {X:Cx} {a b c:Expr} {ta tb tc:TE} {tA tB:TT} {rest:List Expr} {pos:Pos}
theorem zVM {K:PySem.W.Frag} {x:V} {H:Hp} {Q:Bool→Hp→Prop} (h:match x with | .bl k=>Q k H | .int i=>Q (i != 0) H | .non=>Q false H | _=>False):∃ k,TruV K x H k∧Q k H:=by
  cases x with
  | bl k=>exact ⟨k,rfl,h⟩
  | int i=>exact ⟨_,rfl,h⟩
  | non=>exact ⟨_,rfl,h⟩
  | _=>exact False.elim h
theorem pt_m (ha:PE X a ta) (he:∀ whole,isTrue a X.env whole = (do let v ← whole; standAt a.pos; holding [v] (truthy v)):=by intro _; rfl):PT X a (bM ta):=by
  intro pins s σ H Q I h
  refine isTrue_plain (thn (ha pins s σ H _ I h) fun v s1 ⟨x,H1,I1,r1,q1⟩=>?_) (he _)
  exact thn (zSQ pins s1 σ H1 x v Q I1 r1 (zVM q1)) fun _ _ q=>q
theorem zBY {op:CmpOp} {r:R2} (ho:OpR X (compareOp op) r) (ha:PE X a ta) (hb:PE X b tb) (hm:behindInMarks op b = false):PT X (.Compare a [op] [b] pos) (fun σ H Q=>ta σ H fun x H1=>tb σ H1 fun y H2=>r x y H2 fun z H3=>match z with | .bl k=>Q k H3 | _=>False):=by
  intro pins s σ H Q I h
  refine wpAny_isTrue_Compare1 (thn (ha pins s σ H _ I h) fun v s1 ⟨x,H1,I1,r1,q1⟩=>thn (hb pins s1 σ H1 _ I1 q1) fun u s2 ⟨y,H2,I2,r2,q2⟩ =>
    thn (ho pins s2 σ H2 x y v u _ I2 r1 r2 q2) fun d s3 ⟨z,H3,I3,r3,q3⟩=>?_) hm
  cases z with
  | bl k=>cases r3; exact wpAny_truthy_bool ⟨H3,I3,q3⟩
  | _=>exact False.elim q3
theorem zRH (ha:PE X a ta) (hb:PE X (.BoolOp .And (b :: rest) pos) tb):PE X (.BoolOp .And (a :: b :: rest) pos) (fun σ H Q=>ta σ H fun x H1=>match x with | .bl c=>if c = true then tb σ H1 Q else Q (.bl false) H1 | _=>False):=by
  intro pins s σ H Q I h
  refine BoolOp_and (thn (ha pins s σ H _ I h) fun v s1 ⟨x,H1,I1,r1,q1⟩=>?_)
  cases x with
  | bl c =>
    cases r1
    refine wpAny_truthy_bool ?_
    cases c with
    | true=>exact hb pins s1 σ H1 Q I1 (by simpa using q1)
    | false=>exact ⟨.bl false,H1,I1,rfl,by simpa using q1⟩
  | _=>exact False.elim q1
theorem zWG (ha:PE X a ta):PE X (.UnaryOp .Not a pos) (fun σ H Q=>ta σ H fun x H1=>match x with | .bl c=>Q (.bl (!c)) H1 | _=>False):=by
  intro pins s σ H Q I h
  refine UnaryOp_ (thn (ha pins s σ H _ I h) fun v s1 ⟨x,H1,I1,r1,q1⟩=>?_)
  cases x with
  | bl c=>cases r1; exact not_of (wpAny_truthy_bool ⟨.bl (!c),H1,I1,rfl,q1⟩)
  | _=>exact False.elim q1
def setM:V→V→V→Hp→(Hp→Prop)→Prop:=fun o i v H Q=>match o,i with
  | .ref p,.int k=>∃ xs j,H p = some (.lst xs)∧ixN xs.length k = some j∧Q (upd H p (.lst (xs.set j v)))
  | _,_=>False
theorem zJ2:PSet X setM:=by
  intro pins s σ H o i v ov iv u Q I ro ri rv h
  cases o <;> cases i <;> first
    | (obtain ⟨xs,j,h1,h2,h3⟩:=h; exact zR4 pins s σ H _ _ v ov iv u Q I ro ri rv ⟨_,xs,_,j,rfl,rfl,h1,h2,h3⟩)
    | exact False.elim h
def appM:V→List V→Hp→VK→Prop:=fun x vs H Q=>match x,vs with
  | .ref l,[y]=>∃ xs,H l = some (.lst xs)∧xs.length < sizeLine∧Q .non (upd H l (.lst (xs ++ [y])))
  | _,_=>False
theorem zUJ:MtR X "list.append" appM:=by
  intro pins s σ H x vs v us Q I rx rv h
  match x,vs,rx,rv,h with
  | .ref l,[y],rx,rv,h =>
    obtain ⟨xs,h1,h2,h3⟩:=h
    exact zPN pins s σ H _ _ v us Q I rx rv ⟨l,xs,y,rfl,rfl,h1,h2,h3⟩
end
theorem pt_w {X:Cx} {e:Expr} {t:TT} (h:PW X e t):PT X e t:=h.pt
def Has (P:Program) (w:World) (K:PySem.W.Frag) (mg:Str→Option Value) (base:Heap) (x:Str) (k:Nat) (ps:List Str) (sp:Sp):Prop :=
  ∃ f fd,FnOk P w K mg base CX0 k f fd ps sp∧mg x = some (.ref f)∧PySem.W.keepIn K (.ref f) = true∧Binds K fd ps []
def Def (K:PySem.W.Frag) (mg:Str→Option Value) (x:Str) (st:Stmt):Prop:=∃ f fd,Fun K x x st f fd∧mg x = some (.ref f)
section
variable {X:Cx} {x:Str} {j k:Nat} {ps:List Str} {sp:Sp} {e:Expr} {es:List Expr} {t:TA} {p pos:Pos}
theorem zBP (h:Has X.prog X.w X.K X.mg X.base x j ps sp) (hjk:j≤k) (hr:Room k X.A) (hg:Gl X x) (ha:PA X (e :: es) t) (hdb:(x == ("__debug__":Str)) = false:=by decide)
    (he:starEach (e :: es) X.env = (false,eval e X.env) :: starEach es X.env:=by rfl) (hpl:(backTo pos (starEach es X.env)).any (·.1) = false:=by rfl):PE X (.Call (.Name x p) (e :: es) [] pos) (zJ5 sp [] E0 t):=by
  obtain ⟨f,fd,G,m,kp,b⟩:=h
  exact zU8 G (hr.mono hjk) hg m kp b .nil zYE ha hdb he hpl
end
section
variable {P:Program} {w:World} {K:PySem.W.Frag} {mg:Str→Option Value} {base:Heap}
theorem Def.ok {x:Str} {st:Stmt} {N ps:List Str} {k:Nat} {sp:Sp} (D:Def K mg x st) (S:FnScope N ps (zAC st))
    (hb:∀ (kV doc pm:Value) (an:Option Addr) (cdv ct:Value) (us:List Value),us.length = ps.length→bindArgs (PySem.W.fnOf x x (zDU st) (zCE st) (zAC st) .none kV doc pm an cdv ct) ⟨us,[]⟩ = pure (ps.zip us))
    (len:∀ vs H Q E,sp vs H Q E→vs.length = ps.length)
    (hbody:∀ (f:Addr) (cdv:Value) (A:Around) (outer:List Env) (s:Shared) (H:Hp) (vs:List V) (Q:VK) (E:XK),Room k (A.deeper (envOfC x (zAC st) s.heap.objs.size f cdv))→sp vs H Q E →
      ∃ t,PSs (cxOf CX0 P w K mg base N x (zAC st) f cdv A outer s H E).nox (zCE st) t∧t { nx:=fun _ H'=>Q .non H',rt:=Q } (start N vs) H):Has P w K mg base x (k + 1) ps sp:=by
  obtain ⟨f,fd,F,m⟩:=D
  exact ⟨f,fd,F.ok S len (fun cdv A outer s H vs Q E hr h=>hbody f cdv A outer s H vs Q E hr h),m,F.kp,F.binds hb⟩
end
end L2

namespace L2
open PySem PySem.Spec PyProof.Rows
section
variable {X:Cx} {pins:List (Addr × Obj)} {σ:St} {H:Hp} {s:Shared}
theorem Inv.turnedNew {h':Heap} {t':Nat} {fp:List Addr} {a:Addr} {o:HO} (I:Inv X pins σ H s) (hf:∀ b∈fp,FpOk X pins H b) (k:∀ b u,b ∉ fp→s.heap.get? b = some u→h'.get? b = some u)
    (hp:s.heap.objs.size≤a) (new:ObjOk X.prog X.w (upd H a o) h' a o):Inv X pins σ (upd H a o) { s with heap:=h',toks:=t' }:=by
  have hn:H a = none:=I.hok.fresh hp
  have ne:∀ b u,s.heap.get? b = some u→b≠a:=fun b u e=>Nat.ne_of_lt (Nat.lt_of_lt_of_le (Heap.lt_size e) hp)
  have nfp:∀ b u,H b = some u→b ∉ fp:=fun b u e z=>by rw [(hf b z).1] at e; cases e
  refine I.step (g':=s.gens) (d':=s.drawn) (ch:=fp) (fun b hb=>⟨(hf b hb).2.2.2.1,(hf b hb).2.1,(hf b hb).2.2.2.2.1,(hf b hb).2.2.2.2.2⟩) (fun b u _ _ hc e _=>k b u hc e) (fun b u _ _ hc e _=>⟨u.slots,k b u hc e⟩)
    (fun b u _ e n=>by rw [zAO (ne b u e)]; exact n) (fun b u hc e=>⟨u,k b u hc e⟩) (fun b xs e=>by rw [zAO (zAR e hn)]; exact e) (fun b u xs e=>by rw [zAO (zAR e hn)]; exact e)
    (fun b ps e=>⟨#[],by rw [zAO (zAR e hn),e]; simp⟩) (fun m hm=>?_) (fun b u e=>?_) I.bare
  · obtain ⟨u,es,ep,ho,r⟩:=hm
    exact ⟨u,es,ep,k _ u (fun z=>(hf _ z).2.1 rfl) ho,r⟩
  · by_cases hb:b = a
    · subst hb; rw [zAP] at e; cases e; exact new
    · rw [zAO hb] at e
      refine (I.hok b u e).stay (fun c v hc q=>k c v ?_ q) (fun c q=>by rw [zAO (zAR q hn)]; exact q) fun c xs q=>by rw [zAO (zAR q hn)]; exact q
      rcases hc with z | z
      · rw [z]; exact nfp b u e
      · exact nfp c _ z
theorem Inv.turnedL {h':Heap} {t':Nat} {fp:List Addr} (I:Inv X pins σ H s) (hf:∀ b∈fp,FpOk X pins H b) (k:∀ b u,b ∉ fp→s.heap.get? b = some u→h'.get? b = some u):Inv X pins σ H { s with heap:=h',toks:=t' }:=by
  have nfp:∀ b u,H b = some u→b ∉ fp:=fun b u e z=>by rw [(hf b z).1] at e; cases e
  refine I.step (g':=s.gens) (d':=s.drawn) (ch:=fp) (fun b hb=>⟨(hf b hb).2.2.2.1,(hf b hb).2.1,(hf b hb).2.2.2.2.1,(hf b hb).2.2.2.2.2⟩) (fun b u _ _ hc e _=>k b u hc e) (fun b u _ _ hc e _=>⟨u.slots,k b u hc e⟩)
    (fun b u _ e n=>n) (fun b u hc e=>⟨u,k b u hc e⟩) (fun b xs e=>e) (fun b u xs e=>e)
    (fun b ps e=>⟨#[],by rw [e]; simp⟩) (fun m hm=>?_) (fun b u e=>?_) I.bare
  · obtain ⟨u,es,ep,ho,r⟩:=hm
    exact ⟨u,es,ep,k _ u (fun z=>(hf _ z).2.1 rfl) ho,r⟩
  · refine (I.hok b u e).stay (fun c v hc q=>k c v ?_ q) (fun c q=>q) fun c xs q=>q
    rcases hc with z | z
    · rw [z]; exact nfp b u e
    · exact nfp c _ z
def Ite (K:PySem.W.Frag) (a:Addr):It :=
  ⟨fun i H=>∃ xs x,SqL K H a xs∧xs[i]? = some x,fun i H x H'=>∃ T y,x = .ref T∧H T = none∧H' = upd H T (.tup [.int i,y])∧∀ xs,SqL K H a xs→xs[i]? = some y,fun i H=>∃ xs,SqL K H a xs∧xs.length≤i⟩
theorem zOO {P:Program} {w:World} {K:PySem.W.Frag} {ts:List Expr} {kk:Nat} {tp:Pos} (a e it:Addr) (hei:e≠it) :
    Turn P w K (.Tuple ts kk tp) (Ite K a) [e,it] e (fun i h=>(∃ old,IsEnum h e it i old)∧h.IsListIter it a i) where
  mem:=by simp
  obj:=fun i h st b hb=>by
    rcases List.mem_cons.mp hb with z | z
    · subst z
      obtain ⟨⟨old,he⟩,_⟩:=st
      exact ⟨_,he,fun v z=>by cases z⟩
    · have z':b = it:=by simpa using z
      subst z'
      obtain ⟨_,o,e,c,d⟩:=st
      exact ⟨o,e,fun v z=>by rw [d] at z; cases z⟩
  keep:=fun i h h' st k=>⟨by obtain ⟨⟨old,he⟩,_⟩:=st; exact ⟨old,k e (by simp) _ he⟩,st.2.at fun o x=>k it (by simp) o x⟩
  item:=by
    intro X hP hw hK hc i pins s σ H E I hf st hg
    subst hP hw hK
    obtain ⟨xs,x,hq,hx⟩:=hg
    obtain ⟨its,rv,p,hz⟩:=I.list hq
    obtain ⟨u,hu,ru⟩:=rv.get hx
    obtain ⟨⟨old,he⟩,hit⟩:=st
    refine wpAny_pyNext_enum_item he hit p.isList (x:=u) (by simpa using hu) hei fun h' ho hit' hT hsz hk=>?_
    refine ⟨_,rfl,wpAny_letOwnedTupleGo_enum ho fun h'' he'' hs''=>?_⟩
    have hTe:s.heap.objs.size≠e:=Nat.ne_of_gt (Heap.lt_size he)
    have hTi:s.heap.objs.size≠it:=by obtain ⟨o,ho',_⟩:=hit; exact Nat.ne_of_gt (Heap.lt_size ho')
    have kk:∀ b u,b ∉ [e,it]→s.heap.get? b = some u→h''.get? b = some u:=fun b u hb q=>by
      have b1:b≠e:=fun z=>hb (by simp [z])
      have b2:b≠it:=fun z=>hb (by simp [z])
      exact (hs''.2 b b1).trans (hk b u b1 b2 q)
    have hT'':=(hs''.2 _ hTe).trans hT
    refine ⟨.ref s.heap.objs.size,_,I.turnedNew (t':=s.toks + 1) (o:=.tup [.int i,x]) hf kk (Nat.le_refl _) ⟨by show 2≤sizeLine; decide,[.int i s.toks,u],.cons ⟨_,rfl⟩ (.cons ru .nil),⟨_,hT'',rfl,_,rfl⟩⟩,rfl,
      ⟨_,x,rfl,I.fresh,rfl,fun ys hy=>by rw [I.list_inj hy hq]; exact hx⟩,⟨⟨_,by simpa using he''⟩,hit'.at fun o x=>(hs''.2 it hei.symm).trans x⟩,fun b hb=>?_⟩
    have hbs:b < s.heap.objs.size:=by
      rcases List.mem_cons.mp hb with z | z
      · rw [z]; exact Heap.lt_size he
      · have z':b = it:=by simpa using z
        rw [z']
        obtain ⟨o,ho',_⟩:=hit
        exact Heap.lt_size ho'
    rw [zAO (Nat.ne_of_lt hbs)]
    exact (hf b hb).1
  done:=by
    intro X hP hw hK hc i pins s σ H E I hf st hg
    subst hP hw hK
    obtain ⟨xs,hq,hx⟩:=hg
    obtain ⟨its,rv,p,hz⟩:=I.list hq
    have hl:=rv.length
    obtain ⟨⟨old,he⟩,hit⟩:=st
    exact wpAny_pyNext_enum_end (I.ok.hd hc) he hit p.isList (by simp; omega) fun h' eb=>⟨rfl,I.turnedL (t':=s.toks) hf fun b u hb q=>eb b u (fun z=>hb (by simp [z])) q⟩
  self:=fun _ _ _ _ _ st h=>by obtain ⟨⟨old,he⟩,_⟩:=st; exact wpAny_pyIter_enum he h
def zUV (K:PySem.W.Frag) (tl:TA):TI:=fun σ H R=>tl σ H fun vs H1=>match vs with
  | [.ref a]=>(∃ xs,SqL K H1 a xs)∧R (Ite K a) H1
  | _=>False
theorem zU7 {ts:List Expr} {kk:Nat} {tp p pos:Pos} {a:Expr} {ta:TA} (hg:Gl X "enumerate") (hm:X.mg "enumerate" = none) (ha:PA X [a] ta) (hs:starEach [a] X.env = [(false,eval a X.env)]:=by rfl) :
    PI X (.Tuple ts kk tp) (.Call (.Name "enumerate" p) [a] [] pos) (zUV X.K ta):=by
  intro pins s σ H R I h
  refine Call_ (zGJ I hg hm boot_enumerate (PyProof.Rows.callWith_type1 (thn (ha pos pins s σ H _ I h) fun us s1 ⟨vs,H1,I1,r1,q1⟩=>?_) hs rfl))
  match vs,r1,q1 with
  | [.ref l],r1,q1 =>
    obtain ⟨⟨xs,hq⟩,q⟩:=q1
    obtain ⟨u,rfl,rx⟩:=zI8 r1
    cases rx
    obtain ⟨its,rv,pl,hz⟩:=I1.list hq
    refine call_enumerate_list pl.isList fun h' he hit hsz hk=>?_
    refine wpAny_pyIter_enum he ?_
    have hne:s1.heap.objs.size + 1≠s1.heap.objs.size:=by omega
    refine ⟨s1.heap.objs.size + 1,[s1.heap.objs.size + 1,s1.heap.objs.size],_,_,H1,rfl,I1.kept (t':=s1.toks) hk,zOO l _ _ hne,⟨⟨_,he⟩,hit⟩,fun b hb=>?_,q⟩
    have hb':s1.heap.objs.size≤b:=by
      rcases List.mem_cons.mp hb with z | z
      · rw [z]; exact Nat.le_succ _
      · have z':b = s1.heap.objs.size:=by simpa using z
        rw [z']; exact Nat.le_refl _
    exact I1.fpOk hb' (I1.hok.fresh hb')
end
section
variable {X:Cx} {K:PySem.W.Frag}
theorem zC7 (hK:X.K = K:=by rfl):zD3 X (.builtin "len") (zTZ K):=hK ▸ zYL
theorem zG9 (hc:X.calm = true) (hK:X.K = K:=by rfl):zD3 X (.type "list") (zIK K):=hK ▸ zWY hc
theorem zBM (hK:X.K = K:=by rfl):IxR X (rIxU K):=hK ▸ u_ix
theorem zRF {ts:List Expr} {kk:Nat} {tp p pos:Pos} {a:Expr} {ta:TA} (hg:Gl X "enumerate") (hm:X.mg "enumerate" = none) (ha:PA X [a] ta) (hs:starEach [a] X.env = [(false,eval a X.env)]:=by rfl) (hK:X.K = K:=by rfl) :
    PI X (.Tuple ts kk tp) (.Call (.Name "enumerate" p) [a] [] pos) (zUV K ta):=hK ▸ zU7 hg hm ha hs
theorem zLW {es:List Expr} {k:Nat} {t:TGs} {n:Nat} {pos:Pos} (hc:X.calm = true) (h:PGs X es t)
    (hn:(assignEach es X.env).length = n:=by rfl) (hst:(assignEach es X.env).findIdx? (·.1) = none:=by rfl) (hK:X.K = K:=by rfl):PG X (.Tuple es k pos) (gTup K n t):=hK ▸ zWC hc h hn hst
noncomputable def tML (r:V→List V→Hp→VK→Prop) (to:TE) (t:TA):TE:=fun σ H Q=>to σ H fun x H1=>match x with
  | .ref p=>∃ xs,H1 p = some (.lst xs)∧t σ H1 fun vs H2=>r x vs H2 Q
  | _=>False
variable {o e:Expr} {es:List Expr} {to:TE} {t:TA} {name:Str} {apos cpos:Pos} {T id:String} {r:V→List V→Hp→VK→Prop}
theorem zYD (pa:PlainAttrs "list") (slot:Slot "list" name id) (hty:typeOf (.builtin id) = pure (.type "method_descriptor")) (hm:MtR X id r) (ho:PE X o to) (ha:PA X (e :: es) t)
    (hbase:attributeBase o name X.env (eval o X.env) = eval o X.env:=by rfl)
    (hfew:((backTo cpos (starEach (e :: es) X.env)).all (fun x=>!x.1) && (backToKw cpos (keywordEach [] X.env)).all (fun x=>x.1.isSome)
      && decide ((e :: es).length + ([]:List Keyword).length + (if ([]:List Keyword).isEmpty then 0 else 1) < 30)) = true:=by rfl)
    (hline:(apos.endLine == cpos.line) = true:=by rfl) (hs:starEach (e :: es) X.env = (false,eval e X.env) :: starEach es X.env:=by rfl) (hplain:(backTo cpos (starEach es X.env)).any (·.1) = false:=by rfl) :
    PE X (.Call (.Attribute o name apos) (e :: es) [] cpos) (tML r to t):=by
  intro pins s σ H Q I h
  refine wpAny_Call_method_late hbase hfew hline rfl (thn (ho pins s σ H _ I h) fun v s1 ⟨x,H1,I1,r1,q1⟩=>?_)
  cases x with
  | ref p=>?_
  | _=>exact False.elim q1
  obtain ⟨xs,hx,q1⟩:=q1
  obtain ⟨h1,h2⟩:=zVL (T:="list") I1 r1 (.inl ⟨rfl,xs,SqL.of hx⟩)
  refine ⟨"list",id,pa,slot,hty,h1,h2,?_⟩
  have hA:=ha cpos pins s1 σ H1 _ I1 q1
  rw [hs] at hA ⊢
  refine Calls.callWith_builtin (by show (false || (backTo cpos (starEach es X.env)).any (·.1)) = false; rw [hplain] <;> rfl) (Calls.evalArgs_plain ?_)
  exact thn hA fun us s2 ⟨vs,H2,I2,r2,q2⟩=>hm pins s2 σ H2 (.ref p) vs v us Q I2 r1 r2 q2
end
end L2

namespace L2
open PySem PySem.Spec PyProof.Rows
theorem same_new {H:Hp} {p:Addr} (h:H p = none) (o:HO):Same H (upd H p o):=fun b u q=>by rw [zAO (zAR q h)]; exact q
theorem Same.upd {H H':Hp} {p:Addr} (s:Same H H') (h:H p = none) (o:HO):Same H (upd H' p o):=fun b u q=>by rw [zAO (zAR q h)]; exact s b u q
theorem zCH {H:Hp}:∀ (ns:List Int),RepL H (ns.map Dat.int) (ns.map V.int)
  | []=>rfl
  | n :: r=>⟨.int n,r.map V.int,rfl,rfl,zCH r⟩
theorem zFT:∀ (ns:List Int),Dat.depL (ns.map Dat.int) = 0
  | []=>rfl
  | n :: r=>by
    rw [List.map_cons,Dat.depL,zFT r]
    rfl
theorem zFQ:∀ (ns ms:List Int),Dat.eqL (ns.map Dat.int) (ms.map Dat.int) = decide (ns = ms)
  | [],[]=>by simp [Dat.eqL]
  | [],_ :: _=>by simp [Dat.eqL]
  | _ :: _,[]=>by simp [Dat.eqL]
  | n :: r,m :: q=>by
    rw [List.map_cons,List.map_cons,Dat.eqL,zFQ r q,Dat.eq]
    by_cases h:n = m
    · subst h; simp
    · simp [h]
theorem big {n:Nat} (h:n≤100000):n < sizeLine:=by rw [sizeLine_eq]; omega
end L2

namespace L2
open PySem PySem.Spec PyProof.Rows
theorem zHO:∀ {ns:List Int} {vs:List Value},Vals (ns.map V.int) vs→IntsAre vs ns
  | [],_,.nil=>.nil
  | n :: r,_,.cons h t=>by
    obtain ⟨tk,rfl⟩:=h
    exact .cons n tk (zHO t)
section
variable {X:Cx}
def rInU (K:PySem.W.Frag) (neg:Bool):R2:=fun x y H Q=>match y with
  | .ref p=>∃ xs,(SqL K H p xs∨SqT K H p xs)∧zGA x = true∧xs.all zGA = true∧Q (.bl (if neg then !inV x xs else inV x xs)) H
  | .str j=>match x with
    | .str i=>Q (.bl (if neg then !(!(Builtin.Str.occurrences j i 0 j.length 1).isEmpty) else !(Builtin.Str.occurrences j i 0 j.length 1).isEmpty)) H
    | _=>False
  | _=>False
theorem u_in {K:PySem.W.Frag} (hK:X.K = K:=by rfl):OpR X (compareOp .In) (rInU K false):=by
  subst hK
  intro pins s σ H x y v u Q I rx ry h
  cases y with
  | ref p =>
    obtain ⟨xs,h1,h2,h3,h4⟩:=h
    exact zPK pins s σ H _ _ v u Q I rx ry ⟨p,xs,rfl,h1,h2,h3,h4⟩
  | str j =>
    cases x with
    | str i=>exact zPJ pins s σ H _ _ v u Q I rx ry ⟨i,j,rfl,rfl,h⟩
    | _=>exact False.elim h
  | _=>exact False.elim h
theorem zH1 {K:PySem.W.Frag} (hK:X.K = K:=by rfl):OpR X (compareOp .NotIn) (rInU K true):=by
  subst hK
  intro pins s σ H x y v u Q I rx ry h
  cases y with
  | ref p =>
    obtain ⟨xs,h1,h2,h3,h4⟩:=h
    exact zKL pins s σ H _ _ v u Q I rx ry ⟨p,xs,rfl,h1,h2,h3,h4⟩
  | str j =>
    cases x with
    | str i=>exact zKK pins s σ H _ _ v u Q I rx ry ⟨i,j,rfl,rfl,h⟩
    | _=>exact False.elim h
  | _=>exact False.elim h
end
section
variable {X:Cx}
end
theorem zL2 {K:PySem.W.Frag} {a:Addr} {xs:List V} {k:Nat} {g:TG} {tif:TT} {te:TE} {σ:St} {H:Hp} {Q:VK} (Pv:Nat→List V→Hp→Prop) (h0:Pv 0 [] H) (hl:∀ i acc H,i≤xs.length→Pv i acc H→SqL K H a xs) (hz:∀ i acc H,i < xs.length→Pv i acc H→acc.length < sizeLine)
    (hs:∀ i x acc H T,xs[i]? = some x→Pv i acc H→H T = none→g (.ref T) (σ ++ List.replicate k none) (upd H T (.tup [.int i,x])) fun σ2 H2=>∃ own:St,own.length = k∧σ2 = σ ++ own∧tif σ2 H2 fun b H3=>if b = true then te σ2 H3 fun v H4=>Pv (i + 1) (acc ++ [v]) H4 else Pv (i + 1) acc H3)
    (hd:∀ acc H,Pv xs.length acc H→∀ D,H D = none→Q (.ref D) (upd H D (.lst acc))):zOS k g tif te σ Q (Ite K a) H:=by
  refine ⟨fun i m acc H=>m = xs.length - i∧i≤xs.length∧Pv i acc H,⟨xs.length,by simp,Nat.zero_le _,h0⟩,?_⟩
  rintro i m acc H ⟨rfl,hi,p⟩
  have q:=hl i acc H hi p
  by_cases hlt:i < xs.length
  · refine .inr ⟨⟨xs,xs[i],q,by simp [hlt]⟩,hz i acc H hlt p,Pv (i + 1),fun acc' H' p'=>⟨xs.length - (i + 1),by omega,rfl,hlt,p'⟩,fun x H' y=>?_⟩
    obtain ⟨T,y,e1,e2,e3,e4⟩:=y
    subst e1 e3
    exact hs i y acc _ T (e4 xs q) p e2
  · have e:i = xs.length:=by omega
    subst e
    exact .inl ⟨⟨xs,q,Nat.le_refl _⟩,hd acc H p⟩
end L2

namespace Mi
open PySem
noncomputable section
inductive Sv where
  | i (n:Int) | s (x:Str)
inductive Sw where
  | non | bl (b:Bool) | int (i:Int) | str (x:Str)
inductive Dt where
  | non | bl (b:Bool) | int (i:Int) | str (x:Str) | lst (xs:List Dt) | tup (xs:List Dt) | scr (ns:List Int) | exc (c f:Str) (d:Dt) | ins (c:Str) (fs:List (Str × Sv)) | dct (kvs:List (Sum Int Str × Sw))
mutual
def Dt.dep:Dt→Nat
  | .lst xs=>Dt.depL xs + 1
  | .tup xs=>Dt.depL xs + 1
  | .scr _=>1000
  | .exc _ _ _=>1000
  | .ins _ _=>1000
  | .dct _=>1000
  | _=>0
def Dt.depL:List Dt→Nat
  | []=>0
  | x :: r=>max x.dep (Dt.depL r)
end
mutual
def Dt.eq:Dt→Dt→Bool
  | .non,.non=>true
  | .bl a,.bl b=>a == b
  | .bl a,.int b=>(if a then 1 else 0) == b
  | .int a,.bl b=>a == (if b then 1 else 0)
  | .int a,.int b=>a == b
  | .str a,.str b=>a == b
  | .lst xs,.lst ys=>Dt.eqL xs ys
  | .tup xs,.tup ys=>Dt.eqL xs ys
  | _,_=>false
def Dt.eqL:List Dt→List Dt→Bool
  | [],[]=>true
  | x :: r,y :: q=>Dt.eq x y && Dt.eqL r q
  | _,_=>false
end
structure Xn where
  cls:Str
  f:Str
  d:Dt
abbrev R (α:Type):=Option (Except Xn α)
noncomputable def okR {α:Type} (a:α):R α:=some (.ok a)
noncomputable def zA3 {α β:Type} (x:R α) (f:α→R β):R β:=match x with
  | none=>none
  | some (.error e)=>some (.error e)
  | some (.ok a)=>f a
def optR {α:Type} (o:Option α):R α:=match o with
  | none=>none
  | some a=>okR a
@[simp] theorem zA0 {α β:Type} (a:α) (f:α→R β):zA3 (okR a) f = f a:=rfl
@[simp] theorem zAA {α β:Type} (f:α→R β):zA3 none f = none:=rfl
@[simp] theorem zAG {α β:Type} (e:Xn) (f:α→R β):zA3 (some (.error e)) f = some (.error e):=rfl
@[simp] theorem zAB {α:Type} (a:α):optR (some a) = okR a:=rfl
@[simp] theorem zAE {α:Type}:optR (none:Option α) = none:=rfl
abbrev Rh:=List (Option Dt)
abbrev Sl:=Dt × Nat
abbrev Ro:=List (Option Sl)
abbrev EM:=Rh→R Dt
abbrev TM:=Rh→R Bool
abbrev AM:=Rh→R (List Dt)
abbrev FM:=List Dt→R Dt
noncomputable def ixA (n:Nat) (i:Int):Option Nat:=if 0≤i then (if i < n then some i.toNat else none) else if -(n:Int)≤i then some (i + n).toNat else none
def itA {α:Type} (xs:List α) (i:Int):Option α:=(ixA xs.length i).bind fun j=>xs[j]?
noncomputable def addD:Dt→Dt→Option Dt
  | .int i,.int j=>some (.int (i + j))
  | .str i,.str j=>@ite _ (i.length + j.length≤100000) (Classical.propDecidable _) (some (.str (i ++ j))) none
  | .lst xs,.lst ys=>@ite _ (xs.length + ys.length≤100000) (Classical.propDecidable _) (some (.lst (xs ++ ys))) none
  | _,_=>none
noncomputable def subD:Dt→Dt→Option Dt
  | .int i,.int j=>some (.int (i - j))
  | _,_=>none
noncomputable def mulD:Dt→Dt→Option Dt
  | .int i,.int j=>@ite _ (((-18446744073709551616 < i∧i < 18446744073709551616)∨(-18446744073709551616 < j∧j < 18446744073709551616))∨i.natAbs.log2 + j.natAbs.log2≤67108864) (Classical.propDecidable _) (some (.int (i * j))) none
  | _,_=>none
noncomputable def divD:Dt→Dt→Option Dt
  | .int i,.int j=>@ite _ (0 < j∧j < 1000000000000000000000000) (Classical.propDecidable _) (some (.int (i / j))) none
  | _,_=>none
noncomputable def modD:Dt→Dt→Option Dt
  | .int i,.int j=>if 0 < j then some (.int (i % j)) else none
  | _,_=>none
noncomputable def powD:Dt→Dt→Option Dt
  | .int i,.int j=>@ite _ (0≤j∧j≤1000000∧i.natAbs < 18446744073709551616) (Classical.propDecidable _) (some (.int (i ^ j.toNat))) none
  | _,_=>none
noncomputable def negD:Dt→Option Dt
  | .int i=>some (.int (-i))
  | _=>none
noncomputable def cmpD (p:Int→Int→Bool):Dt→Dt→Option Dt
  | .int i,.int j=>some (.bl (p i j))
  | _,_=>none
noncomputable def eqD (x y:Dt):Option Dt:=if x.dep≤40∧y.dep≤40 then some (.bl (Dt.eq x y)) else none
noncomputable def neD (x y:Dt):Option Dt:=if x.dep≤40∧y.dep≤40 then some (.bl (!Dt.eq x y)) else none
noncomputable def isNonD:Dt→Bool
  | .non=>true
  | _=>false
def isD (x y:Dt):Option Dt:=match y with
  | .non=>some (.bl (isNonD x))
  | _=>none
noncomputable def isntD (x y:Dt):Option Dt:=match y with
  | .non=>some (.bl (!isNonD x))
  | _=>none
def ixD:Dt→Dt→Option Dt
  | .lst xs,.int i=>itA xs i
  | .tup xs,.int i=>itA xs i
  | .scr ns,.int i=>(itA ns i).map .int
  | .str z,.int i=>@ite _ (z.length≤100000) (Classical.propDecidable _) ((itA z.cps.toList i).map fun c=>.str ⟨#[c]⟩) none
  | _,_=>none
noncomputable def lenD:List Dt→Option Dt
  | [.lst xs]=>some (.int xs.length)
  | [.tup xs]=>some (.int xs.length)
  | [.scr ns]=>some (.int ns.length)
  | [.str z]=>@ite _ (z.length≤100000) (Classical.propDecidable _) (some (.int z.length)) none
  | _=>none
noncomputable def listD:List Dt→Option Dt
  | [.lst xs]=>some (.lst xs)
  | [.tup xs]=>some (.lst xs)
  | [.scr ns]=>some (.lst (ns.map .int))
  | _=>none
noncomputable def nums (lo:Int) (n:Nat):List Dt:=(List.range n).map fun i:Nat=>.int (lo + (i:Int))
def rangeD:List Dt→Option Dt
  | [.int j]=>@ite _ ((-4611686018427387904≤j∧j < 4611686018427387904)∧j≤100000) (Classical.propDecidable _) (some (.lst (nums 0 j.toNat))) none
  | [.int i,.int j]=>@ite _ ((-4611686018427387904≤i∧i < 4611686018427387904∧-4611686018427387904≤j∧j < 4611686018427387904)∧j - i≤100000) (Classical.propDecidable _) (some (.lst (nums i (j - i).toNat))) none
  | _=>none
noncomputable def tyD:Dt→String
  | .non=>"NoneType"
  | .bl _=>"bool"
  | .int _=>"int"
  | .str _=>"str"
  | .lst _=>"list"
  | .tup _=>"tuple"
  | .scr _=>""
  | .exc _ _ _=>""
  | .ins _ _=>""
  | .dct _=>""
def isiD (n:String) (x:Dt):Option Dt:=if tyD x = "" then none else some (.bl (tyD x == n || (tyD x == "bool" && n == "int")))
noncomputable def boolsD:List Dt→Option (List Bool)
  | []=>some []
  | .bl b :: r=>(boolsD r).map (b :: ·)
  | _ :: _=>none
def allD:List Dt→Option Dt
  | [.lst xs]=>(boolsD xs).map fun bs=>.bl (bs.all id)
  | _=>none
noncomputable def maxD:List Dt→Option Dt
  | [.int i,.int j]=>some (.int (if j > i then j else i))
  | _=>none
noncomputable def minD:List Dt→Option Dt
  | [.int i,.int j]=>some (.int (if j < i then j else i))
  | _=>none
noncomputable def absD:List Dt→Option Dt
  | [.int i]=>some (.int (if i < 0 then -i else i))
  | _=>none
noncomputable def hasD (x:Dt) (ys:List Dt):Option Bool:=if x.dep = 0∧Dt.depL ys = 0 then some (ys.any fun y=>Dt.eq y x) else none
def inD (ng:Bool) (x y:Dt):Option Dt:=match y with
  | .lst ys=>(hasD x ys).map fun b=>.bl (if ng = true then !b else b)
  | .tup ys=>(hasD x ys).map fun b=>.bl (if ng = true then !b else b)
  | .str z=>match x with
    | .str y=>match y.cps.toList with
      | [c]=>some (.bl (if ng = true then !decide (c∈z.cps.toList) else decide (c∈z.cps.toList)))
      | _=>none
    | _=>none
  | _=>none
noncomputable def cutIx (n d:Nat):Option Int→Nat
  | none=>d
  | some v=>if v < 0 then (v + (n:Int)).toNat else min v.toNat n
def cutA {α:Type} (xs:List α) (lo hi:Option Int):List α:=(xs.drop (cutIx xs.length 0 lo)).take (cutIx xs.length xs.length hi - cutIx xs.length 0 lo)
def slD:Dt→Option Int→Option Int→Option Dt
  | .lst xs,lo,hi=>some (.lst (cutA xs lo hi))
  | .str z,lo,hi=>@ite _ (z.length≤100000) (Classical.propDecidable _) (some (.str ⟨(cutA z.cps.toList lo hi).toArray⟩)) none
  | _,_,_=>none
abbrev OM:=Rh→R (Option Int)
def oNo:OM:=fun _=>okR none
def oE (e:Rh→R Dt):OM:=fun ρ=>zA3 (e ρ) fun d=>match d with
  | .int i=>okR (some i)
  | _=>none
def eSl (a:Rh→R Dt) (lo hi:OM):Rh→R Dt:=fun ρ=>zA3 (a ρ) fun x=>zA3 (lo ρ) fun l=>zA3 (hi ρ) fun h=>optR (slD x l h)
noncomputable def posC (c:Nat):List Nat→Option Nat
  | []=>none
  | x :: r=>if x = c then some 0 else (posC c r).map (· + 1)
def zYO (x:Dt) (ys:List Dt):Option Dt:=match x,ys with
  | .str z,[.str y]=>match y.cps.toList with
    | [c]=>some (.int (match posC c z.cps.toList with | some i=>(i:Int) | none=>-1))
    | _=>none
  | _,_=>none
noncomputable def zXO (x:Dt) (ys:List Dt):Option Dt:=match x,ys with
  | .str z,[.str y]=>match y.cps.toList with
    | [c]=>some (.int (z.cps.toList.count c:Nat))
    | _=>none
  | _,_=>none
noncomputable def zPW:Dt→Bool
  | .str _=>true
  | _=>false
def eMt (f:Dt→List Dt→Option Dt) (a:Rh→R Dt) (am:Rh→R (List Dt)):Rh→R Dt:=fun ρ=>zA3 (a ρ) fun x=>if zPW x = true then zA3 (am ρ) fun xs=>optR (f x xs) else none
noncomputable def signsD (z:Str):List Dt:=z.cps.toList.map fun c=>.str ⟨#[c]⟩
def eC (d:Dt):EM:=fun _=>okR d
def eV (i:Nat):EM:=fun ρ=>match ρ[i]? with
  | some (some d)=>okR d
  | _=>none
def eB (f:Dt→Dt→Option Dt) (a b:EM):EM:=fun ρ=>zA3 (a ρ) fun x=>zA3 (b ρ) fun y=>optR (f x y)
def eU (f:Dt→Option Dt) (a:EM):EM:=fun ρ=>zA3 (a ρ) fun x=>optR (f x)
def eAnd (a b:EM):EM:=fun ρ=>zA3 (a ρ) fun x=>match x with
  | .bl k=>if k = true then b ρ else okR (.bl false)
  | _=>none
def eOr (a b:EM):EM:=fun ρ=>zA3 (a ρ) fun x=>match x with
  | .bl k=>if k = true then okR (.bl true) else b ρ
  | _=>none
def eNot (a:EM):EM:=fun ρ=>zA3 (a ρ) fun x=>match x with
  | .bl k=>okR (.bl (!k))
  | _=>none
def zXE (p q:Dt→Dt→Option Dt) (a b c:EM):EM:=fun ρ=>zA3 (a ρ) fun x=>zA3 (b ρ) fun y=>zA3 (optR (p x y)) fun z=>match z with
  | .bl k=>if k = true then zA3 (c ρ) fun w=>optR (q y w) else okR (.bl false)
  | _=>none
def eIf (c:TM) (a b:EM):EM:=fun ρ=>zA3 (c ρ) fun k=>if k = true then a ρ else b ρ
def aNil:AM:=fun _=>okR []
def aCons (e:EM) (r:AM):AM:=fun ρ=>zA3 (e ρ) fun x=>zA3 (r ρ) fun xs=>okR (x :: xs)
def eLst (a:AM):EM:=fun ρ=>zA3 (a ρ) fun xs=>@ite _ (xs.length≤100000) (Classical.propDecidable _) (okR (.lst xs)) none
def eTup (a:AM):EM:=fun ρ=>zA3 (a ρ) fun xs=>@ite _ (xs.length≤100000) (Classical.propDecidable _) (okR (.tup xs)) none
def eCall (f:FM) (a:AM):EM:=fun ρ=>zA3 (a ρ) f
def eBi (f:List Dt→Option Dt) (a:AM):EM:=fun ρ=>zA3 (a ρ) fun xs=>optR (f xs)
def eIsi (n:String) (a:EM):EM:=fun ρ=>zA3 (a ρ) fun x=>optR (isiD n x)
def tB (a:EM):TM:=fun ρ=>zA3 (a ρ) fun x=>match x with
  | .bl k=>okR k
  | _=>none
def tM (a:EM):TM:=fun ρ=>zA3 (a ρ) fun x=>match x with
  | .bl k=>okR k
  | .int i=>okR (i != 0)
  | .non=>okR false
  | _=>none
def tAn (a b:TM):TM:=fun ρ=>zA3 (a ρ) fun k=>if k = true then b ρ else okR false
def tOr (a b:TM):TM:=fun ρ=>zA3 (a ρ) fun k=>if k = true then okR true else b ρ
def tNo (a:TM):TM:=fun ρ=>zA3 (a ρ) fun k=>okR (!k)
def tYes:TM:=fun _=>okR true
abbrev IM:=Rh→R (List Dt)
def iSq (e:EM):IM:=fun ρ=>zA3 (e ρ) fun d=>match d with
  | .lst xs=>okR xs
  | .tup xs=>okR xs
  | .scr ns=>okR (ns.map .int)
  | .str z=>okR (signsD z)
  | _=>none
def iR1 (e:AM):IM:=fun ρ=>zA3 (e ρ) fun vs=>match vs with
  | [.int j]=>@ite _ (-4611686018427387904≤j∧j < 4611686018427387904) (Classical.propDecidable _) (okR (nums 0 j.toNat)) none
  | _=>none
def iR2 (e:AM):IM:=fun ρ=>zA3 (e ρ) fun vs=>match vs with
  | [.int i,.int j]=>@ite _ (-4611686018427387904≤i∧i < 4611686018427387904∧-4611686018427387904≤j∧j < 4611686018427387904) (Classical.propDecidable _) (okR (nums i (j - i).toNat)) none
  | _=>none
noncomputable def enumD (n:Nat):List Dt→List Dt
  | []=>[]
  | x :: r=>.tup [.int n,x] :: enumD (n + 1) r
def iEn (e:AM):IM:=fun ρ=>zA3 (e ρ) fun vs=>match vs with
  | [.lst xs]=>okR (enumD 0 xs)
  | _=>none
noncomputable def zipD:List Dt→List Dt→List Dt
  | x :: r,y :: q=>.tup [x,y] :: zipD r q
  | _,_=>[]
def iZi (e:AM):IM:=fun ρ=>zA3 (e ρ) fun vs=>match vs with
  | [.lst xs,.lst ys]=>okR (zipD xs ys)
  | _=>none
inductive Tg where
  | one (i:Nat)
  | tup (is:List Nat)
noncomputable def zB3:Tg→Dt→Option (List (Nat × Dt))
  | .one i,d=>some [(i,d)]
  | .tup is,.tup ds=>if ds.length = is.length then some (is.zip ds) else none
  | .tup _,_=>none
noncomputable def Tg.idx:Tg→List Nat
  | .one i=>[i]
  | .tup is=>is
noncomputable def zB0:Rh→List (Nat × Dt)→Rh
  | ρ,[]=>ρ
  | ρ,(i,d) :: r=>zB0 (ρ.set i (some d)) r
noncomputable def zBB:Ro→List (Nat × Dt)→Ro
  | ρ,[]=>ρ
  | ρ,(i,d) :: r=>zBB (ρ.set i (some (d,0))) r
def compGo (ρ:Rh) (k:Nat) (tg:Tg) (c:TM) (e:EM):List Dt→List Dt→R (List Dt)
  | [],acc=>okR acc
  | d :: ds,acc=>match zB3 tg d with
    | none=>none
    | some bs=>zA3 (c (zB0 (ρ ++ List.replicate k none) bs)) fun b=>if b = true then zA3 (e (zB0 (ρ ++ List.replicate k none) bs)) fun x=>compGo ρ k tg c e ds (acc ++ [x]) else compGo ρ k tg c e ds acc
def eComp (it:IM) (k:Nat) (tg:Tg) (c:TM) (e:EM):EM:=fun ρ=>zA3 (it ρ) fun ds=>@ite _ (ds.length≤100000∧(tg.idx.all fun i=>decide (ρ.length≤i)) = true) (Classical.propDecidable _) (zA3 (compGo ρ k tg c e ds []) fun es=>okR (.lst es)) none
inductive Out where
  | nx (ρ:Ro) | rt (d:Dt) | bk (ρ:Ro) | ct (ρ:Ro)
abbrev SM:=Ro→R Out
noncomputable def full (ρ:Ro):Rh:=ρ.map fun o=>o.map Prod.fst
noncomputable def frz (ρ:Ro):Rh:=ρ.map fun o=>match o with
  | some (d,n)=>if n = 0∨d.dep = 0 then some d else none
  | none=>none
noncomputable def frz1 (i:Nat) (ρ:Ro):Ro:=match ρ[i]? with
  | some (some (d,_))=>ρ.set i (some (d,0))
  | _=>ρ
def frzAt:List Nat→Ro→Ro
  | [],ρ=>ρ
  | i :: r,ρ=>frzAt r (frz1 i ρ)
def sNil:SM:=fun ρ=>okR (.nx ρ)
def sSeq (a b:SM):SM:=fun ρ=>zA3 (a ρ) fun o=>match o with
  | .nx ρ'=>b ρ'
  | o=>okR o
noncomputable def zVT:SM:=fun _=>none
def zVU:SM:=fun ρ=>okR (.bk ρ)
def zYA:SM:=fun ρ=>okR (.ct ρ)
def sIf (c:TM) (a b:SM):SM:=fun ρ=>zA3 (c (full ρ)) fun k=>if k = true then a ρ else b ρ
def zY9 (e:EM):SM:=fun ρ=>zA3 (e (full ρ)) fun _=>okR (.nx ρ)
def sSet (i n:Nat) (vs:List Nat) (e:EM):SM:=fun ρ=>zA3 (e (full ρ)) fun d =>
  if d.dep≤n then okR (.nx (ρ.set i (some (d,n)))) else zA3 (e (frz (frzAt vs ρ))) fun d'=>okR (.nx ((frzAt vs ρ).set i (some (d',n))))
def sUnp (is:List Nat) (vs:List Nat) (e:EM):SM:=fun ρ=>zA3 (e (frz (frzAt vs ρ))) fun d=>match zB3 (.tup is) d with
  | none=>none
  | some bs=>okR (.nx (zBB (frzAt vs ρ) bs))
def sRet (L n:Nat) (vs:List Nat) (e:EM):SM:=fun ρ=>zA3 (e (full ρ)) fun d =>
  if d.dep≤n∧d.dep≤L then okR (.rt d) else if n = L then zA3 (e (frz (frzAt vs ρ))) fun d'=>okR (.rt d') else none
def zY8:SM:=fun _=>okR (.rt .non)
def sRetV (L i:Nat):SM:=fun ρ=>match ρ[i]? with
  | some (some (d,k))=>if k = L∨L = 0∨(d.dep≤k∧d.dep≤L∧k < 1000) then okR (.rt d) else none
  | _=>none
def sApp (i n:Nat) (e:EM):SM:=fun ρ=>match ρ[i]? with
  | some (some (.lst ds,k + 1))=>zA3 (e (full ρ)) fun d=>@ite _ (ds.length≤100000∧d.dep≤n∧d.dep≤k) (Classical.propDecidable _) (okR (.nx (ρ.set i (some (.lst (ds ++ [d]),k + 1))))) none
  | _=>none
def sItem (i n:Nat) (e1 e2:EM):SM:=fun ρ=>zA3 (e2 (full ρ)) fun d=>match ρ[i]? with
  | some (some (.lst ds,k + 1))=>zA3 (e1 (full ρ)) fun z=>match z with
    | .int z=>match ixA ds.length z with
      | some q=>if d.dep≤n∧d.dep≤k then okR (.nx (ρ.set i (some (.lst (ds.set q d),k + 1)))) else none
      | none=>none
    | _=>none
  | _=>none
def sItem2 (i n:Nat) (e0 e1 e2:EM):SM:=fun ρ=>zA3 (e2 (full ρ)) fun d=>match ρ[i]? with
  | some (some (.lst rs,k + 2))=>zA3 (e0 (full ρ)) fun y=>match y with
    | .int y=>match ixA rs.length y with
      | some p=>match rs[p]? with
        | some (.lst ds)=>zA3 (e1 (full ρ)) fun z=>match z with
          | .int z=>match ixA ds.length z with
            | some q=>if d.dep≤n∧d.dep≤k then okR (.nx (ρ.set i (some (.lst (rs.set p (.lst (ds.set q d))),k + 2)))) else none
            | none=>none
          | _=>none
        | _=>none
      | none=>none
    | _=>none
  | _=>none
def forGo (tg:Tg) (b:SM):List Dt→SM
  | [],ρ=>okR (.nx ρ)
  | d :: ds,ρ=>match zB3 tg d with
    | none=>none
    | some bs=>zA3 (b (zBB ρ bs)) fun o=>match o with
      | .nx ρ'=>forGo tg b ds ρ'
      | .ct ρ'=>forGo tg b ds ρ'
      | .bk ρ'=>okR (.nx ρ')
      | .rt d=>okR (.rt d)
def sFor (vs:List Nat) (it:IM) (tg:Tg) (b:SM):SM:=fun ρ=>zA3 (it (frz (frzAt vs ρ))) fun ds=>forGo tg b ds (frzAt vs ρ)
def sForR (it:IM) (i:Nat) (b:SM):SM:=fun ρ=>zA3 (it (full ρ)) fun ds=>forGo (.one i) b ds ρ
def whGo (c:TM) (b:SM):Nat→SM
  | 0,_=>none
  | m + 1,ρ=>zA3 (c (full ρ)) fun k=>if k = true then zA3 (b ρ) fun o=>match o with
      | .nx ρ'=>whGo c b m ρ'
      | .ct ρ'=>whGo c b m ρ'
      | .bk ρ'=>okR (.nx ρ')
      | .rt d=>okR (.rt d)
    else okR (.nx ρ)
noncomputable def WNs:{ n:Nat // n = 1000000 }:=Classical.choice ⟨⟨1000000,rfl⟩⟩
noncomputable def WN:Nat:=WNs.val
theorem zYT:WN = 1000000:=WNs.property
def sWhile (c:TM) (b:SM):SM:=fun ρ=>whGo c b WN ρ
noncomputable def startO (n:Nat) (ds:List Dt):Ro:=ds.map (fun d=>some (d,0)) ++ List.replicate (n - ds.length) none
def endF:Out→R Dt
  | .nx _=>okR .non
  | .rt d=>okR d
  | _=>none
def runF (P n:Nat) (b:SM):FM:=fun ds=>if ds.length = P then zA3 (b (startO n ds)) endF else none
end
end Mi

namespace L2
open PySem PySem.Spec PyProof.Rows
theorem zTA (n d:Nat) (o:Option Int) (hd:d≤n):HT.sIx n d o≤n:=by
  cases o with
  | none=>exact hd
  | some v =>
    show (if v < 0 then (v + (n:Int)).toNat else min v.toNat n)≤n
    split <;> omega
theorem zO7 (lo hi:Option Int) (n:Nat):Builtin.Str.strSliceIndices lo hi 1 n = (List.range (HT.sIx n n hi - HT.sIx n 0 lo)).map fun k=>HT.sIx n 0 lo + k:=by
  unfold Builtin.Str.strSliceIndices sliceRange
  have c1:∀ (o:Option Int) (d:Nat),(match o with | none=>(d:Int) | some i=>(if (1:Int) > 0 then max 0 (min (if i < 0 then i + (n:Int) else i) n) else max (-1) (min (if i < 0 then i + (n:Int) else i) (n - 1)))) = ((HT.sIx n d o:Nat):Int):=by
    intro o d
    cases o with
    | none=>rfl
    | some v =>
      show _ = (((if v < 0 then (v + (n:Int)).toNat else min v.toNat n:Nat)):Int)
      dsimp only
      rw [if_pos (by decide)]
      split <;> omega
  dsimp only
  rw [if_pos (show (1:Int) > 0 by decide),if_pos (show (1:Int) > 0 by decide),if_pos (show (1:Int) > 0 by decide)]
  have e1:=c1 lo 0
  have e2:=c1 hi n
  rw [show ((0:Nat):Int) = 0 by rfl] at e1
  have h1:∀ a b:Int,a = ((HT.sIx n 0 lo:Nat):Int)→b = ((HT.sIx n n hi:Nat):Int)→(List.range ((if a < b then (b - a + 1 - 1) / 1 else 0).toNat)).map (fun k:Nat=>(a + 1 * (k:Int)).toNat) = (List.range (HT.sIx n n hi - HT.sIx n 0 lo)).map fun k=>HT.sIx n 0 lo + k:=by
    intro a b ha hb
    subst ha hb
    have e:(if ((HT.sIx n 0 lo:Nat):Int) < ((HT.sIx n n hi:Nat):Int) then (((HT.sIx n n hi:Nat):Int) - ((HT.sIx n 0 lo:Nat):Int) + 1 - 1) / 1 else 0).toNat = HT.sIx n n hi - HT.sIx n 0 lo:=by
      split
      · rw [Int.ediv_one]; omega
      · omega
    rw [e]
    refine List.map_congr_left fun k _=>?_
    omega
  exact h1 _ _ e1 e2
theorem zPA:∀ (xs:List Nat) (a k:Nat),a + k≤xs.length→((List.range k).map fun j=>a + j).filterMap (xs[·]?) = (xs.drop a).take k:=by
  intro xs a k h
  induction k with
  | zero=>simp
  | succ k ih =>
    rw [List.range_succ,List.map_append,List.filterMap_append,ih (by omega),List.take_add_one]
    congr 1
    have:a + k < xs.length:=by omega
    simp [List.getElem?_drop,this]
theorem zR2 (z:Str) (lo hi:Option Int):Txt.slice z lo hi = ⟨(Mi.cutA z.cps.toList lo hi).toArray⟩:=by
  obtain ⟨⟨xs⟩⟩:=z
  have hl:(⟨⟨xs⟩⟩:Str).length = xs.length:=rfl
  unfold Txt.slice
  rw [zO7,hl]
  have e0:∀ o d,Mi.cutIx xs.length d o = HT.sIx xs.length d o:=fun o d=>by cases o <;> rfl
  have hb:=zTA xs.length xs.length hi (Nat.le_refl _)
  have ha:=zTA xs.length 0 lo (Nat.zero_le _)
  have hc:Mi.cutA xs lo hi = (xs.drop (HT.sIx xs.length 0 lo)).take (HT.sIx xs.length xs.length hi - HT.sIx xs.length 0 lo):=by
    unfold Mi.cutA; rw [e0,e0]
  show _ = (⟨(Mi.cutA xs lo hi).toArray⟩:Str)
  rw [hc]
  split
  · rename_i h
    have h':HT.sIx xs.length xs.length hi - HT.sIx xs.length 0 lo = xs.length:=by simpa using h
    have a0:HT.sIx xs.length 0 lo = 0:=by omega
    rw [h',a0,List.drop_zero,List.take_length]
  · by_cases hle:HT.sIx xs.length 0 lo≤HT.sIx xs.length xs.length hi
    · have:=zPA xs (HT.sIx xs.length 0 lo) (HT.sIx xs.length xs.length hi - HT.sIx xs.length 0 lo) (by omega)
      rw [← this]
      simp
    · rw [show HT.sIx xs.length xs.length hi - HT.sIx xs.length 0 lo = 0 by omega]
      simp
section
variable {X:Cx}
def rSlU (K:PySem.W.Frag):V→Option Int→Option Int→Hp→VK→Prop:=fun x lo hi H Q=>match x with
  | .str z=>z.length≤sizeLine∧Q (.str ⟨(Mi.cutA z.cps.toList lo hi).toArray⟩) H
  | .ref a=>∃ xs,SqL K H a xs∧∀ p,H p = none→Q (.ref p) (upd H p (.lst (cutV xs lo hi)))
  | _=>False
theorem zPG {v:Value} {o:Option Int} (h:IsPart v o):∃ l:Option (Int × Tok),v = partValue l∧l.map (·.1) = o:=by
  cases h with
  | none=>exact ⟨none,rfl,rfl⟩
  | int i t=>exact ⟨some (i,t),rfl,rfl⟩
theorem u_sl {K:PySem.W.Frag} (hK:X.K = K:=by rfl):SlR X (rSlU K):=by
  subst hK
  intro pins s σ H x v vl vu lo hi sl Q I rx hs pl pu h
  cases x with
  | ref a =>
    obtain ⟨xs,h1,h2⟩:=h
    exact zTQ pins s σ H _ v vl vu lo hi sl Q I rx hs pl pu ⟨a,xs,rfl,h1,h2⟩
  | str z =>
    obtain ⟨hz,q⟩:=h
    obtain ⟨t,rfl⟩:=rx
    obtain ⟨l,rfl,el⟩:=zPG pl
    obtain ⟨u,rfl,eu⟩:=zPG pu
    obtain ⟨o,g1,g2,g3⟩:=hs
    refine ⟨"str",_,F.slot_str_getitem.lookup,typeIs_str _ _ _,wpAny_getItem_str_slice (l:=l) (u:=u) (st:=none) ⟨o,g1,g2,g3⟩ rfl ?_⟩
    have hp:(if ((1:Int) == 1 && (Builtin.Str.strSliceIndices lo hi 1 z.length).length == z.length) = true then Made.val (.str z t) else Made.str ⟨((Builtin.Str.strSliceIndices lo hi 1 z.length).filterMap (z.cps[·]?)).toArray⟩).post (EP X pins σ Q) s:=by
      refine post_val_or_str ⟨Nat.le_trans (Txt.slice_le z lo hi) hz,fun t' k=>?_⟩
      refine ⟨.str (Txt.slice z lo hi),H,I.tok _,⟨_,rfl⟩,?_⟩
      rw [zR2]; exact q
    unfold sliceMade slicePicked
    rw [el,eu]
    exact hp
  | _=>exact False.elim h
end
noncomputable def Its (z:Str):It:=⟨fun i _=>i < z.cps.size,fun i H x H'=>H' = H∧∃ c,z.cps[i]? = some c∧x = .str ⟨#[c]⟩,fun i _=>z.cps.size≤i⟩
theorem zQW {P:Program} {w:World} {K:PySem.W.Frag} {tg:Expr} (z:Str) (t:Tok) (it:Addr) (ty:String) (hty:ty = strIterType z):Turn P w K tg (Its z) [it] it (fun i h=>h.IsStrIter it ty z t i) where
  mem:=by simp
  obj:=fun i h st b hb=>by
    have e:b = it:=by simpa using hb
    subst e
    obtain ⟨o,e,c,d⟩:=st
    exact ⟨o,e,fun v z=>by rw [d] at z; cases z⟩
  keep:=fun i h h' st k=>by obtain ⟨o,ho,r⟩:=st; exact ⟨o,k it (by simp) o ho,r⟩
  item:=by
    intro X hP hw hK hc i pins s σ H E I hf st hg
    subst hP hw hK
    have hi:i < z.cps.size:=hg
    have hx:z.cps[i]? = some z.cps[i]:=Array.getElem?_eq_getElem hi
    obtain ⟨f0,f1,f2,f3,f4,f5⟩:=hf it (by simp)
    have fin:∀ h',h'.IsStrIter it ty z t (i + 1)→Heap.SameBut it s.heap h'→∃ u,some (Value.str ⟨#[z.cps[i]]⟩ s.toks) = some u∧wpAny (model X.prog X.w) X.A (letOwnedTupleGo tg (.ref it) u) (fun _ s2=>∃ x H',Inv X pins σ H' s2∧RelV x u∧(Its z).yld i H x H'∧s2.heap.IsStrIter it ty z t (i + 1)∧∀ b∈[it],H' b = none) E { s with heap:=h',toks:=s.toks + 1 }:=by
      intro h' st' sb
      have I1:Inv X pins σ H { s with heap:=h',toks:=s.toks + 1 }:=I.turned (t':=s.toks + 1) (fun b o hb e=>(sb.2 b hb).trans e) f0 f1 f3 f4 f5
      obtain ⟨o,e,c,d⟩:=id st'
      refine ⟨_,rfl,zS1 (s:={ s with heap:=h',toks:=s.toks + 1 }) e c d ?_ ⟨.str ⟨#[z.cps[i]]⟩,H,I1,⟨_,rfl⟩,⟨rfl,_,hx,rfl⟩,st',fun b hb=>(hf b hb).1⟩⟩
      rw [hty]; unfold strIterType; split <;> decide
    cases ha:z.cps.all (· < 128)
    · have e:ty = "str_iterator":=by rw [hty]; unfold strIterType; rw [ha]; rfl
      subst e
      exact wpAny_pyNext_wide_item st hx fun h' a b=>fin h' a b
    · have e:ty = "str_ascii_iterator":=by rw [hty]; unfold strIterType; rw [ha]; rfl
      subst e
      exact wpAny_pyNext_ascii_item st hx fun h' a b=>fin h' a b
  done:=by
    intro X hP hw hK hc i pins s σ H E I hf st hg
    subst hP hw hK
    have hx:z.cps[i]? = none:=Array.getElem?_eq_none hg
    obtain ⟨f0,f1,f2,f3,f4,f5⟩:=hf it (by simp)
    have fin:∀ h',Heap.ExtBut it s.heap h'→(none:Option Value) = none∧Inv X pins σ H { s with heap:=h' }:=fun h' eb=>⟨rfl,I.turned (t':=s.toks) (fun b o hb e=>eb b o hb e) f0 f1 f3 f4 f5⟩
    cases ha:z.cps.all (· < 128)
    · have e:ty = "str_iterator":=by rw [hty]; unfold strIterType; rw [ha]; rfl
      subst e
      exact wpAny_pyNext_wide_end (I.ok.hd hc) st hx fun h' a=>fin h' a
    · have e:ty = "str_ascii_iterator":=by rw [hty]; unfold strIterType; rw [ha]; rfl
      subst e
      exact wpAny_pyNext_ascii_end (I.ok.hd hc) st hx fun h' a=>fin h' a
  self:=fun A i s Q E st h=>by
    cases ha:z.cps.all (· < 128)
    · have e:ty = "str_iterator":=by rw [hty]; unfold strIterType; rw [ha]; rfl
      subst e
      exact wpAny_pyIter_striter_wide st h
    · have e:ty = "str_ascii_iterator":=by rw [hty]; unfold strIterType; rw [ha]; rfl
      subst e
      exact wpAny_pyIter_striter_ascii st h
section
variable {X:Cx}
def iAny (K:PySem.W.Frag) (tl:TE):TI:=fun σ H R=>tl σ H fun x H1=>match x with
  | .ref a=>(∃ xs,SqL K H1 a xs)∧R (Itl K a) H1∨(∃ xs,SqT K H1 a xs)∧R (Itt K a) H1
  | .str z=>R (Its z) H1
  | _=>False
theorem zCM {K:PySem.W.Frag} {tg l:Expr} {tl:TE} (hl:PE X l tl) (hK:X.K = K:=by rfl):PI X tg l (iAny K tl):=by
  subst hK
  intro pins s σ H R I h
  refine thn (hl pins s σ H _ I h) fun v s1 ⟨x,H1,I1,r1,q1⟩=>?_
  cases x with
  | ref a =>
    cases r1
    rcases q1 with ⟨⟨xs,hq⟩,q⟩ | ⟨⟨xs,hq⟩,q⟩
    · obtain ⟨its,rv,p,hz⟩:=I1.list hq
      refine wpAny_pyIter_list p.isList ?_
      refine ⟨s1.heap.objs.size,[s1.heap.objs.size],_,_,H1,rfl,I1.kept (t':=s1.toks) fun b o e=>Heap.get?_push_of_some _ e,zON a _,⟨_,Heap.get?_push_size _ rfl,rfl,rfl⟩,fun b hb=>?_,q⟩
      have e:b = s1.heap.objs.size:=by simpa using hb
      subst e
      exact I1.fpOk (Nat.le_refl _) (I1.hok.fresh (Nat.le_refl _))
    · obtain ⟨its,rv,p,hz⟩:=I1.tuple hq
      refine wpAny_pyIter_tuple (show s1.heap.IsTuple a its.toArray from p) ?_
      refine ⟨s1.heap.objs.size,[s1.heap.objs.size],_,_,H1,rfl,I1.kept (t':=s1.toks) fun b o e=>Heap.get?_push_of_some _ e,zNN a _,⟨_,Heap.get?_push_size _ rfl,rfl,rfl⟩,fun b hb=>?_,q⟩
      have e:b = s1.heap.objs.size:=by simpa using hb
      subst e
      exact I1.fpOk (Nat.le_refl _) (I1.hok.fresh (Nat.le_refl _))
  | str z =>
    obtain ⟨t,rfl⟩:=r1
    refine wpAny_pyIter_strU ?_
    refine ⟨s1.heap.objs.size,[s1.heap.objs.size],_,_,H1,rfl,I1.kept (t':=s1.toks) fun b o e=>Heap.get?_push_of_some _ e,zQW z t _ _ rfl,⟨_,Heap.get?_push_size _ rfl,rfl,rfl⟩,fun b hb=>?_,q1⟩
    have e:b = s1.heap.objs.size:=by simpa using hb
    subst e
    exact I1.fpOk (Nat.le_refl _) (I1.hok.fresh (Nat.le_refl _))
  | _=>exact False.elim q1
theorem zK6:∀ {ys:List Str} {us:List Value},Vals (ys.map V.str) us→StrsAre us ys
  | [],_,.nil=>.nil
  | y :: ys,_,.cons r t=>by obtain ⟨k,rfl⟩:=r; exact .cons y k (zK6 t)
end
end L2

namespace L2
open PySem PySem.Spec PyProof.Rows
def Itz (K:PySem.W.Frag) (a b:Addr):It :=
  ⟨fun i H=>∃ xs ys x y,SqL K H a xs∧SqL K H b ys∧xs[i]? = some x∧ys[i]? = some y,fun i H v H'=>∃ T x y,v = .ref T∧H T = none∧H' = upd H T (.tup [x,y])∧(∀ xs,SqL K H a xs→xs[i]? = some x)∧∀ ys,SqL K H b ys→ys[i]? = some y,
   fun i H=>∃ xs ys,SqL K H a xs∧SqL K H b ys∧(xs.length≤i∨ys.length≤i)⟩
theorem zQV {P:Program} {w:World} {K:PySem.W.Frag} {ts:List Expr} {kk:Nat} {tp:Pos} {a b z TI TO i1 i2:Addr} (D:ZipApart z TI TO i1 i2 a b) :
    Turn P w K (.Tuple ts kk tp) (Itz K a b) [z,TI,TO,i1,i2] z (fun i h=>IsZip h z TI TO .none∧IsPair h TI (.ref i1) (.ref i2)∧(∃ x y,IsPair h TO x y)∧h.IsListIter i1 a i∧h.IsListIter i2 b i) where
  mem:=by simp
  obj:=fun i h st c hc=>by
    obtain ⟨hz,hTI,⟨x,y,hTO⟩,h1,h2⟩:=st
    have five:c = z∨c = TI∨c = TO∨c = i1∨c = i2:=by simpa using hc
    rcases five with e | e | e | e | e <;> subst e
    · exact ⟨_,hz,fun v q=>by cases q⟩
    · exact ⟨_,hTI,fun v q=>by cases q⟩
    · exact ⟨_,hTO,fun v q=>by cases q⟩
    · obtain ⟨o,e,_,d⟩:=h1; exact ⟨o,e,fun v q=>by rw [d] at q; cases q⟩
    · obtain ⟨o,e,_,d⟩:=h2; exact ⟨o,e,fun v q=>by rw [d] at q; cases q⟩
  keep:=fun i h h' st k=>by
    obtain ⟨hz,hTI,⟨x,y,hTO⟩,h1,h2⟩:=st
    exact ⟨k z (by simp) _ hz,k TI (by simp) _ hTI,⟨x,y,k TO (by simp) _ hTO⟩,h1.at fun o e=>k i1 (by simp) o e,h2.at fun o e=>k i2 (by simp) o e⟩
  item:=by
    intro X hP hw hK hc i pins s σ H E I hf st hg
    subst hP hw hK
    obtain ⟨xs,ys,x,y,hq1,hq2,hx,hy⟩:=hg
    obtain ⟨its1,rv1,p1,hz1⟩:=I.list hq1
    obtain ⟨its2,rv2,p2,hz2⟩:=I.list hq2
    obtain ⟨u1,hu1,ru1⟩:=rv1.get hx
    obtain ⟨u2,hu2,ru2⟩:=rv2.get hy
    obtain ⟨hz,hTI,⟨a0,b0,hTO⟩,h1,h2⟩:=st
    refine wpAny_pyNext_zip_item D hz hTI hTO h1 h2 p1.isList p2.isList (x:=u1) (y:=u2) (by simpa using hu1) (by simpa using hu2) fun h' g1 g2 g3 g4 g5 g6 g7=>?_
    refine ⟨_,rfl,wpAny_letOwnedTupleGo_zip g1 fun h'' hz'' hs''=>?_⟩
    have lt:∀ {c:Addr} {o:Obj},s.heap.get? c = some o→c < s.heap.objs.size:=fun e=>Heap.lt_size e
    have hzs:=lt hz
    have hTz:s.heap.objs.size≠z:=Nat.ne_of_gt hzs
    have kk':∀ c u,c ∉ [z,TI,TO,i1,i2]→s.heap.get? c = some u→h''.get? c = some u:=fun c u hc q=>by
      have c1:c≠z:=fun e=>hc (by simp [e])
      exact (hs''.2 c c1).trans (g7 c u c1 (fun e=>hc (by simp [e])) (fun e=>hc (by simp [e])) (fun e=>hc (by simp [e])) q)
    have hT'':=(hs''.2 _ hTz).trans g5
    refine ⟨.ref s.heap.objs.size,_,I.turnedNew (t':=s.toks) (o:=.tup [x,y]) hf kk' (Nat.le_refl _) ⟨by show 2≤sizeLine; decide,[u1,u2],.cons ru1 (.cons ru2 .nil),⟨_,hT'',rfl,_,rfl⟩⟩,rfl,
      ⟨_,x,y,rfl,I.fresh,rfl,fun zs hy=>by rw [I.list_inj hy hq1]; exact hx,fun zs hy'=>by rw [I.list_inj hy' hq2]; exact hy⟩,
      ⟨hz'',(hs''.2 _ D.TIz).trans (g7 TI _ D.TIz D.TITO D.TIi1 D.TIi2 hTI),⟨_,_,(hs''.2 _ D.TOz).trans g2⟩,g3.at fun o e=>(hs''.2 _ D.i1z).trans e,g4.at fun o e=>(hs''.2 _ D.i2z).trans e⟩,fun c hc=>?_⟩
    have hcs:c < s.heap.objs.size:=by
      have five:c = z∨c = TI∨c = TO∨c = i1∨c = i2:=by simpa using hc
      rcases five with e | e | e | e | e <;> subst e
      · exact hzs
      · exact lt hTI
      · exact lt hTO
      · obtain ⟨o,e,_⟩:=h1; exact lt e
      · obtain ⟨o,e,_⟩:=h2; exact lt e
    rw [zAO (Nat.ne_of_lt hcs)]
    exact (hf c hc).1
  done:=by
    intro X hP hw hK hc i pins s σ H E I hf st hg
    subst hP hw hK
    obtain ⟨xs,ys,hq1,hq2,hle⟩:=hg
    obtain ⟨its1,rv1,p1,hz1⟩:=I.list hq1
    obtain ⟨its2,rv2,p2,hz2⟩:=I.list hq2
    have l1:=rv1.length
    have l2:=rv2.length
    obtain ⟨hz,hTI,⟨a0,b0,hTO⟩,h1,h2⟩:=st
    refine wpAny_pyNext_zip_end (I.ok.hd hc) D hz hTI hTO h1 h2 p1.isList p2.isList ?_ fun h' hk=>⟨rfl,I.turnedL (t':=s.toks) hf fun c u hc q=>hk c u (fun e=>hc (by simp [e])) (fun e=>hc (by simp [e])) (fun e=>hc (by simp [e])) (fun e=>hc (by simp [e])) q⟩
    rcases hle with q | q
    · exact .inl (by simp; omega)
    · exact .inr (by simp; omega)
  self:=fun _ _ _ _ _ st h=>wpAny_pyIter_zip st.1 h
section
variable {X:Cx} {K:PySem.W.Frag}
def iZip (K:PySem.W.Frag) (tl:TA):TI:=fun σ H R=>tl σ H fun vs H1=>match vs with
  | [.ref a,.ref b]=>(∃ xs,SqL K H1 a xs)∧(∃ ys,SqL K H1 b ys)∧R (Itz K a b) H1
  | _=>False
theorem zWB {ts:List Expr} {kk:Nat} {tp p pos:Pos} {a b:Expr} {ta:TA} (hg:Gl X "zip") (hm:X.mg "zip" = none) (ha:PA X [a,b] ta) (hs:starEach [a,b] X.env = (false,eval a X.env) :: starEach [b] X.env:=by rfl) (hpl:(backTo pos (starEach [b] X.env)).any (·.1) = false:=by rfl) (hK:X.K = K:=by rfl) :
    PI X (.Tuple ts kk tp) (.Call (.Name "zip" p) [a,b] [] pos) (iZip K ta):=by
  subst hK
  intro pins s σ H R I h
  refine Call_ (zGJ I hg hm boot_zip (PyProof.Rows.callWith_type1 (thn (ha pos pins s σ H _ I h) fun us s1 ⟨vs,H1,I1,r1,q1⟩=>?_) hs hpl))
  match vs,r1,q1 with
  | [.ref l1,.ref l2],r1,q1 =>
    obtain ⟨⟨xs,hq1⟩,⟨ys,hq2⟩,q⟩:=q1
    obtain ⟨u1,u2,rfl,rx,ry⟩:=zQO r1
    cases rx
    cases ry
    obtain ⟨its1,rv1,p1,hz1⟩:=I1.list hq1
    obtain ⟨its2,rv2,p2,hz2⟩:=I1.list hq2
    have lt1:l1 < s1.heap.objs.size:=by obtain ⟨o,ho,_⟩:=p1.isList; exact Heap.lt_size ho
    have lt2:l2 < s1.heap.objs.size:=by obtain ⟨o,ho,_⟩:=p2.isList; exact Heap.lt_size ho
    refine call_zip_2 p1.isList p2.isList fun h' hz hTI hTO h1 h2 hsz hk=>?_
    refine wpAny_pyIter_zip hz ?_
    refine ⟨s1.heap.objs.size + 4,[s1.heap.objs.size + 4,s1.heap.objs.size + 2,s1.heap.objs.size + 3,s1.heap.objs.size,s1.heap.objs.size + 1],_,_,H1,rfl,I1.kept (t':=s1.toks) hk,zQV (zipApart_new lt1 lt2),⟨hz,hTI,⟨_,_,hTO⟩,h1,h2⟩,fun c hc=>?_,q⟩
    have hc':s1.heap.objs.size≤c:=by
      have five:c = s1.heap.objs.size + 4∨c = s1.heap.objs.size + 2∨c = s1.heap.objs.size + 3∨c = s1.heap.objs.size∨c = s1.heap.objs.size + 1:=by simpa using hc
      rcases five with e | e | e | e | e <;> rw [e] <;> first | exact Nat.le_refl _ | exact Nat.le_add_right _ _
    exact I1.fpOk hc' (I1.hok.fresh hc')
end
end L2

namespace L2
open PySem PySem.Spec PyProof.Rows
def XO (e:Addr) (C:Value) (d:Option Addr) (h:Heap):Prop:=∃ oe vs,h.get? e = some oe∧oe.cls = C∧oe.dict = d∧oe.data = .fields vs∧1 < vs.size
abbrev xo (e:Addr) (C:Value) (d:Option Addr):HO:=.ext (XO e C d)
def Fl (n:Nat) (e:Addr) (C:Value) (d:Option Addr) (mk:Value) (H:Hp) (h:Heap):Prop :=
  ∃ oe vs T oT ts,h.get? e = some oe∧oe.cls = C∧oe.dict = d∧oe.data = .fields vs∧vs[1]? = some (.ref T)∧n≤T∧T≠e∧H T = none∧h.get? T = some oT∧oT.data = .fields ts∧ts[3]? = some mk
def Fly (n:Nat) (e:Addr) (C:Value) (d:Option Addr) (H:Hp) (h:Heap):Prop :=
  H e = some (xo e C d)∧((∃ oe vs,h.get? e = some oe∧oe.cls = C∧oe.dict = d∧oe.data = .fields vs∧vs[1]? = some .none)∨Fl n e C d .none H h)
def Held (n:Nat) (e:Addr) (C:Value) (d:Option Addr) (L:Addr) (H:Hp) (h:Heap):Prop:=H e = some (xo e C d)∧Fl n e C d (rawInt L) H h
theorem Fly.mono {n n':Nat} {e:Addr} {C:Value} {d:Option Addr} {H:Hp} {h:Heap} (x:Fly n e C d H h) (hn:n'≤n):Fly n' e C d H h:=by
  obtain ⟨a,b | ⟨oe,vs,T,oT,ts,h1,h2,h3,h4,h5,h6,h7⟩⟩:=x
  · exact ⟨a,.inl b⟩
  · exact ⟨a,.inr ⟨oe,vs,T,oT,ts,h1,h2,h3,h4,h5,Nat.le_trans hn h6,h7⟩⟩
structure Nt (n:Nat) (fs ch:List Addr) (e:Addr) (H:Hp) (h h':Heap):Prop where
  keep:∀ b o,h.get? b = some o→b≠e→b ∉ fs→b ∉ ch→h'.get? b = some o
  slot:∀ b o,h.get? b = some o→b≠e→b ∉ ch→∃ sl,h'.get? b = some { o with slots:=sl }
  there:∀ b o,h.get? b = some o→∃ o',h'.get? b = some o'
  old:∀ b∈ch,n≤b∧H b = none∧∃ o vs,h.get? b = some o∧o.data = .fields vs
section
variable {M:Model} {A:Around} {E:Value→Shared→Prop} {s:Shared} {n:Nat} {e L:Addr} {C:Value} {d:Option Addr} {H:Hp} {base:Heap} {env:Env} {outer:List Env}
theorem zT7 {oe:Obj} {vs:Array Value} {head:Value} {hadNext:Bool} {Q:Unit→Shared→Prop}
    (hfr:A.frames = some (env :: outer)) (hl:s.heap.FunFrames base (env :: outer)) (hf:env.frame = some L)
    (he:s.heap.get? e = some oe) (hc:oe.cls = C) (hdi:oe.dict = d) (hd:oe.data = .fields vs) (hsz:1 < vs.size) (hn:n≤s.heap.objs.size) (hH:∀ b,s.heap.objs.size≤b→H b = none)
    (h:∀ h',(∀ b o,s.heap.get? b = some o→b≠e→b ∉ frs (env :: outer)→h'.get? b = some o)→(∀ b o,s.heap.get? b = some o→b≠e→∃ sl,h'.get? b = some { o with slots:=sl }) →
      (∃ o',h'.get? e = some o')→Fl n e C d (rawInt L) H h'→Q () { s with heap:=h' }) :
    wpAny M A (do let a ← frameOf env; let pl ← entryPlaceOf L hadNext; let b ← EntryCells.newEntry head a .none (rawInt L) .none pl; setField (.ref e) 1 b) Q E s:=by
  have hene:e ∉ (env :: outer).filterMap (·.frame):=fun hm=>by
    obtain ⟨_,o,ho,hnf⟩:=hl.mem hm
    rw [he] at ho; injection ho with ho; subst ho; exact hnf vs hd
  refine wpAny_bind (wpAny_frameOf_fun hfr hl hf fun h₁ hs₁=>?_)
  refine wpAny_bind (wpAny_entryPlaceOf fun pl hpl=>?_)
  unfold EntryCells.newEntry newFields
  refine wpAny_bind (wpAny_newObj_type ?_ (hpl.sizeOk5 _ _ _ _ _))
  have he₁:h₁.get? e = some oe:=(hs₁.2.1 e hene).trans he
  have he₂:=Heap.get?_push_of_some (h:=h₁) { cls:=.type "traceback",dict:=none,data:=.fields ([head,.ref L,.none,rawInt L,.none] ++ (if pl.isEmpty then List.replicate 6 Value.none else pl)).toArray } he₁
  have hTe:h₁.objs.size≠e:=Nat.ne_of_gt (Heap.lt_size he₁)
  have hd₃:=Obj.data_mapFields hd (·.setIfInBounds 1 (Value.ref h₁.objs.size))
  have he₃:=Heap.get?_update_self (Obj.mapFields (·.setIfInBounds 1 (Value.ref h₁.objs.size))) he₂ (Obj.isFreed_of_fields hd₃)
  have hT₃:=(Heap.get?_update_other (h₁.push { cls:=.type "traceback",dict:=none,data:=.fields ([head,.ref L,.none,rawInt L,.none] ++ (if pl.isEmpty then List.replicate 6 Value.none else pl)).toArray })
    (Obj.mapFields (·.setIfInBounds 1 (Value.ref h₁.objs.size))) (Ne.symm hTe)).trans (Heap.get?_push_size h₁ rfl)
  have keep:∀ b o,b≠e→h₁.get? b = some o →
      ((h₁.push { cls:=.type "traceback",dict:=none,data:=.fields ([head,.ref L,.none,rawInt L,.none] ++ (if pl.isEmpty then List.replicate 6 Value.none else pl)).toArray }).update e (Obj.mapFields (·.setIfInBounds 1 (Value.ref h₁.objs.size)))).get? b = some o :=
    fun b o hbe hb=>by
      rw [Heap.get?_update_other _ _ (Ne.symm hbe)]
      exact Heap.get?_push_of_some _ hb
  have hsz1:h₁.objs.size = s.heap.objs.size:=hs₁.1
  refine wpAny_setField he₂ hd hsz (h _ (fun b o hb hbe hbf=>keep b o hbe ((hs₁.2.1 b hbf).trans hb)) (fun b o hb hbe=>?_) ⟨_,he₃⟩ ?_)
  · obtain ⟨sl,e1⟩:=hs₁.2.2 b o hb
    exact ⟨sl,keep b _ hbe e1⟩
  · have hdo:∀ (o:Obj) f,(Obj.mapFields f o).dict = o.dict:=fun o f=>by unfold Obj.mapFields; split <;> rfl
    exact ⟨_,_,h₁.objs.size,_,_,he₃,(Obj.cls_mapFields _ _).trans hc,(hdo _ _).trans hdi,hd₃,by simp [hsz],by rw [hsz1]; exact hn,hTe,hH _ (by rw [hsz1]; exact Nat.le_refl _),hT₃,rfl,
      by first | (simp; done) | (rcases hpl with rfl | ⟨_,_,_,_,_,_,_,rfl⟩ <;> simp)⟩
theorem zUH {Q:Unit→Shared→Prop} (hfr:A.frames = some (env :: outer)) (hl:s.heap.FunFrames base (env :: outer)) (hf:env.frame = some L) (x:Fly n e C d H s.heap) (hn:n≤s.heap.objs.size) (hH:∀ b,s.heap.objs.size≤b→H b = none)
    (h:∀ h' ch,Nt n (frs (env :: outer)) ch e H s.heap h'→Held n e C d L H h'→Q () { s with heap:=h' }):wpAny M A (noteFrame (.ref e) env) Q E s:=by
  obtain ⟨hx,⟨oe,vs,he,hc,hdi,hd,h1⟩ | ⟨oe,vs,T,oT,ts,he,hc,hdi,hd,h1,hnT,hTe,hHT,hT,hdT,h3⟩⟩:=x
  · unfold noteFrame
    simp only [hf]
    refine wpAny_bind (wpAny_field he hd h1 ?_)
    rw [if_neg (by decide)]
    refine zT7 hfr hl hf he hc hdi hd (Array.getElem?_eq_some_iff.mp h1).1 hn hH fun h' k1 k2 k3 k4=>?_
    refine h h' [] ⟨fun b o hb hbe hbf _=>k1 b o hb hbe hbf,fun b o hb hbe _=>k2 b o hb hbe,fun b o hb=>?_,fun b hb=>nomatch hb⟩ ⟨hx,k4⟩
    by_cases z:b = e
    · rw [z]; exact k3
    · obtain ⟨sl,q⟩:=k2 b o hb z; exact ⟨_,q⟩
  · unfold noteFrame
    simp only [hf]
    refine wpAny_bind (wpAny_field he hd h1 ?_)
    rw [if_pos (show (Value.ref T != Value.none) = true from by simp)]
    refine wpAny_bind (wpAny_field hT hdT h3 ?_)
    rw [if_neg (show ¬ ((Value.none == rawInt L) = true) from by simp [rawInt])]
    refine wpAny_bind (wpAny_setField hT hdT (Array.getElem?_eq_some_iff.mp h3).1 ?_)
    have other:∀ b,b≠T→(s.heap.update T (Obj.mapFields (·.setIfInBounds 3 Value.none))).get? b = s.heap.get? b:=fun b hb=>Heap.get?_update_other _ _ (Ne.symm hb)
    have noRecord:∀ b o,s.heap.get? b = some o→(∀ vs,o.data≠.fields vs)→b≠T:=fun b o hb hnf q=>by
      rw [q,hT] at hb; injection hb with hb; subst hb; exact hnf ts hdT
    have hl1:=hl.of_keeps (h':=s.heap.update T (Obj.mapFields (·.setIfInBounds 3 Value.none))) fun b o hb hnf=>⟨o,(other b (noRecord b o hb hnf)).trans hb,rfl⟩
    have hself:=Heap.get?_update_self (Obj.mapFields (·.setIfInBounds 3 Value.none)) hT (Obj.isFreed_of_fields (Obj.data_mapFields hdT _))
    have hsz:(s.heap.update T (Obj.mapFields (·.setIfInBounds 3 Value.none))).objs.size = s.heap.objs.size:=by simp
    refine zT7 (s:={ s with heap:=s.heap.update T (Obj.mapFields (·.setIfInBounds 3 Value.none)) }) hfr hl1 hf ((other e (Ne.symm hTe)).trans he) hc hdi hd (Array.getElem?_eq_some_iff.mp h1).1 (by rw [hsz]; exact hn) (by rw [hsz]; exact hH) fun h' k1 k2 k3 k4=>?_
    have nT:∀ b,b ∉ [T]→b≠T:=fun b hb z=>hb (by simp [z])
    refine h h' [T] ⟨fun b o hb hbe hbf hc=>k1 b o ((other b (nT b hc)).trans hb) hbe hbf,fun b o hb hbe hc=>k2 b o ((other b (nT b hc)).trans hb) hbe,fun b o hb=>?_,fun b hb=>?_⟩ ⟨hx,k4⟩
    · by_cases z:b = e
      · rw [z]; exact k3
      · by_cases z':b = T
        · rw [z']
          obtain ⟨sl,q⟩:=k2 T _ hself hTe
          exact ⟨_,q⟩
        · obtain ⟨sl,q⟩:=k2 b o ((other b z').trans hb) z
          exact ⟨_,q⟩
    · obtain rfl:b = T:=by simpa using hb
      exact ⟨hnT,hHT,oT,ts,hT,hdT⟩
theorem zUM {Q:Unit→Shared→Prop} {fs:List Addr} {mk:Value} (x:Fl n e C d mk H s.heap)
    (h:∀ h' ch,Nt n fs ch e H s.heap h'→Fl n e C d .none H h'→Q () { s with heap:=h' }):wpAny M A (setFlight (.ref e) none) Q E s:=by
  obtain ⟨oe,vs,T,oT,ts,he,hc,hdi,hd,h1,hnT,hTe,hHT,hT,hdT,h3⟩:=x
  have hsz3:3 < ts.size:=(Array.getElem?_eq_some_iff.mp h3).1
  have other:∀ b,b≠T→(s.heap.update T (Obj.mapFields (·.setIfInBounds 3 ((none:Option Addr).elim Value.none fun f=>rawInt f)))).get? b = s.heap.get? b :=
    fun b hb=>Heap.get?_update_other _ _ (Ne.symm hb)
  have hself:=Heap.get?_update_self (Obj.mapFields (·.setIfInBounds 3 ((none:Option Addr).elim Value.none fun f=>rawInt f))) hT (Obj.isFreed_of_fields (Obj.data_mapFields hdT _))
  have nT:∀ b,b ∉ [T]→b≠T:=fun b hb z=>hb (by simp [z])
  unfold setFlight
  refine wpAny_bind (wpAny_field he hd h1 ?_)
  rw [if_pos (show (Value.ref T != Value.none) = true from by simp)]
  refine wpAny_setField hT hdT hsz3 (h _ [T] ⟨fun b o hb _ _ hc=>(other b (nT b hc)).trans hb,fun b o hb _ hc=>⟨o.slots,(other b (nT b hc)).trans hb⟩,fun b o hb=>?_,fun b hb=>?_⟩ ?_)
  · by_cases z:b = T
    · rw [z]; exact ⟨_,hself⟩
    · exact ⟨o,(other b z).trans hb⟩
  · obtain rfl:b = T:=by simpa using hb
    exact ⟨hnT,hHT,oT,ts,hT,hdT⟩
  · exact ⟨oe,vs,T,_,_,(other e (Ne.symm hTe)).trans he,hc,hdi,hd,h1,hnT,hTe,hHT,hself,Obj.data_mapFields hdT _,by simp [hsz3]⟩
end
section
variable {X:Cx} {pins:List (Addr × Obj)} {σ:St} {H:Hp} {s:Shared} {n:Nat} {e:Addr} {C:Value} {d:Option Addr} {A:Around} {E:Value→Shared→Prop} {fs ch:List Addr} {h h':Heap}
theorem Nt.hok {P:Program} {w:World} (t:Nt n fs ch e H h h') (k:HOk P w H h) (he:H e = some (xo e C d)) (hfs:∀ b∈fs,H b = none) (f:XO e C d h'):HOk P w H h':=fun a o ha=>by
  by_cases z:a = e
  · subst z
    rw [he] at ha
    cases ha
    obtain ⟨oe,vs,h1,r⟩:=id f
    exact ⟨f,⟨oe,h1⟩,(k a _ he).2.2⟩
  · refine (k a o ha).stay (fun b u hb q=>?_) (fun _ q=>q) fun _ _ q=>q
    have hb':H b≠none:=by
      rcases hb with rfl | hb
      · rw [ha]; exact fun z=>by cases z
      · rw [hb]; exact fun z=>by cases z
    have hbe:b≠e:=by
      rcases hb with rfl | hb
      · exact z
      · intro y; rw [y,he] at hb; cases hb
    exact t.keep b u q hbe (fun y=>hb' (hfs b y)) fun y=>hb' (t.old b y).2.1
theorem Fl.xo {mk:Value} (f:Fl n e C d mk H h):XO e C d h:=by
  obtain ⟨oe,vs,T,oT,ts,h1,h2,h3,h4,h5,_⟩:=f
  exact ⟨oe,vs,h1,h2,h3,h4,(Array.getElem?_eq_some_iff.mp h5).1⟩
theorem Nt.un (t:Nt n fs ch e H h h') (he:H e = some (xo e C d)):Un fs ch H H h h' :=
  ⟨fun b o q hn hf hc=>t.keep b o q (fun z=>by rw [z,he] at hn; cases hn) hf hc,fun b o q hn _ hc=>t.slot b o q (fun z=>by rw [z,he] at hn; cases hn) hc,fun _ _ _ hn _=>hn,fun b o q _=>t.there b o q,fun _ _ q=>q,fun _ _ _ q=>q,fun b ps q=>⟨#[],by simpa using q⟩⟩
theorem Inv.noted (I:Inv X pins σ H s) (t:Nt n (frs X.stack) ch e H s.heap h') (he:H e = some (xo e C d)) (f:XO e C d h') (hn:X.s₀.heap.objs.size≤n) (hp:∀ p∈X.pn ++ pins,p.1 < n):Inv X pins σ H { s with heap:=h' }:=by
  refine I.call' rfl (t.un he) (t.hok I.hok he I.stkFree f) I.bare fun b hb=>?_
  obtain ⟨h1,h2,o,vs,h3,h4⟩:=t.old b hb
  refine ⟨.inr (Nat.le_trans hn h1),?_,?_,fun p hp' z=>?_⟩
  · intro z
    obtain ⟨m,⟨o',es,ep,ho',hd',_⟩,_⟩:=I.loc
    rw [z,ho'] at h3; cases h3; rw [hd'] at h4; cases h4
  · intro x c hx z
    obtain ⟨v,o',ho',hd'⟩:=I.cell x c hx
    rw [← z,ho'] at h3; cases h3; rw [hd'] at h4; cases h4
  · have:=hp p hp'
    rw [z] at this
    exact absurd h1 (Nat.not_le_of_lt this)
theorem zN2 {Q:Unit→Shared→Prop} {M:Model} (I:Inv X pins σ H s) (hA:A.frames = some X.stack) (hs:X.stack = X.env :: X.outer∧X.env.frame = some X.env.locals) (x:Fly n e C d H s.heap) (hn:X.s₀.heap.objs.size≤n) (hn':n≤s.heap.objs.size)
    (hp:∀ p∈X.pn ++ pins,p.1 < n) (h:∀ s',Inv X pins σ H s'→Held n e C d X.env.locals H s'.heap→Q () s'):wpAny M A (noteFrame (.ref e) X.env) Q E s:=by
  have hst:=I.stack
  rw [hs.1] at hA hst
  refine zUH hA hst hs.2 x hn' (fun b hb=>I.hok.fresh hb) fun h' ch t y=>h _ (I.noted (ch:=ch) (by rw [hs.1]; exact t) x.1 y.2.xo hn hp) y
theorem zJK {Q:Unit→Shared→Prop} {M:Model} {mk:Value} (I:Inv X pins σ H s) (hx:H e = some (xo e C d)) (x:Fl n e C d mk H s.heap) (hn:X.s₀.heap.objs.size≤n)
    (hp:∀ p∈X.pn ++ pins,p.1 < n) (h:∀ s',Inv X pins σ H s'→Fl n e C d .none H s'.heap→Q () s'):wpAny M A (setFlight (.ref e) none) Q E s :=
  zUM (fs:=frs X.stack) x fun h' ch t y=>h _ (I.noted t hx y.xo hn hp) y
theorem zPO {Q:Unit→Shared→Prop} {M:Model} (I:Inv X pins σ H s) (hA:A.frames = some X.stack) (hs:X.stack = X.env :: X.outer∧X.env.frame = some X.env.locals) (x:Fly n e C d H s.heap) (hn:X.s₀.heap.objs.size≤n) (hn':n≤s.heap.objs.size)
    (hp:∀ p∈X.pn ++ pins,p.1 < n) (h:∀ s',Inv X pins σ H s'→Fly n e C d H s'.heap→Q () s'):wpAny M A (leaving X.env (.ref e)) Q E s:=by
  unfold leaving
  exact wpAny_bind (zN2 I hA hs x hn hn' hp fun s1 I1 y=>zJK I1 y.1 y.2 hn hp fun s2 I2 z=>h s2 I2 ⟨y.1,.inr z⟩)
end
def CXe (P:Program) (w:World):CXT:=fun outer H s E x s'=>∃ e C d H',x = .ref e∧s'.os = s.os∧AllBare s'.gens∧Un (frs outer) [] H H' s.heap s'.heap∧HOk P w H' s'.heap∧Fly s.heap.objs.size e C d H' s'.heap∧s.heap.objs.size≤s'.heap.objs.size∧E x d H'
section
variable {X:Cx} {pins:List (Addr × Obj)} {σ:St} {H:Hp} {s s':Shared} {E E':XK}
theorem Inv.pinlt (I:Inv X pins σ H s):∀ p∈X.pn ++ pins,p.1 < s.heap.objs.size:=fun p hp=>Heap.lt_size (I.pin p hp).1
def XP (X:Cx) (pins:List (Addr × Obj)) (σ:St) (E:XK) (x:Value) (s':Shared):Prop:=∃ n e C d H',x = .ref e∧Inv X pins σ H' s'∧Fly n e C d H' s'.heap∧X.s₀.heap.objs.size≤n∧n≤s'.heap.objs.size∧(∀ p∈X.pn ++ pins,p.1 < n)∧E x d H'
theorem Inv.flown {x:Value} (I:Inv X pins σ H s) (h:CXe X.prog X.w X.stack H s E x s'):XP X pins σ E x s':=by
  obtain ⟨e,C,d,H',rfl,ho,hb,u,hk,f,hz,q⟩:=h
  exact ⟨_,e,C,d,H',rfl,I.call' ho u hk hb (fun b z=>absurd z (by simp)),f,I.sz,hz,I.pinlt,q⟩
end
section
variable {P:Program} {w:World} {K:PySem.W.Frag} {mg:Str→Option Value} {base:Heap} {N:List Str} {qual:Str} {scope:Scope} {f:Addr} {cd:Value} {A:Around} {outer:List Env} {s:Shared} {H:Hp} {E E':XK}
theorem zVC {pins:List (Addr × Obj)} {σ:St} {x:Value} {s':Shared} (hE:∀ C d H',E' C d H'→E C d H')
    (h:XP (cxOf (CXe P w) P w K mg base N qual scope f cd A outer s H E) pins σ E' x s'):(cxOf (CXe P w) P w K mg base N qual scope f cd A outer s H E).xe x s':=by
  obtain ⟨n,e,C,d,H',rfl,I,fl,hn,hz,hp,q⟩:=h
  refine zPO I I.ok.frames ⟨rfl,rfl⟩ fl hn hz hp fun s2 I2 f2=>?_
  exact ⟨e,C,d,H',rfl,I2.os,I2.bare,I2.base,I2.hok,f2.mono hn,I2.sz,hE _ _ _ q⟩
end
end L2

namespace L2
open PySem PySem.Spec PyProof.Rows
abbrev TEX:=St→Hp→VK→XK→Prop
abbrev TSX:=Ends→(St→XK)→St→Hp→Prop
def PEx (X:Cx) (e:Expr) (t:TEX):Prop:=∀ (pins:List (Addr × Obj)) (s:Shared) (σ:St) (H:Hp) (Q:VK) (E:XK),Inv X pins σ H s→t σ H Q E→wpAny (model X.prog X.w) X.A (eval e X.env) (EP X pins σ Q) (XP X pins σ E) s
def PSx (X:Cx) (st:Stmt) (t:TSX):Prop:=∀ (pins:List (Addr × Obj)) (s:Shared) (σ:St) (H:Hp) (D:Ends) (E:St→XK),Inv X pins σ H s→t D E σ H→wpAny (model X.prog X.w) X.A (exec st X.env) (SP X pins D) (fun x s'=>∃ σ',XP X pins σ' (E σ') x s') s
def PSxs (X:Cx) (st:List Stmt) (t:TSX):Prop:=∀ (pins:List (Addr × Obj)) (s:Shared) (σ:St) (H:Hp) (D:Ends) (E:St→XK),Inv X pins σ H s→t D E σ H→wpAny (model X.prog X.w) X.A (execs st X.env) (SP X pins D) (fun x s'=>∃ σ',XP X pins σ' (E σ') x s') s
section
variable {X:Cx} {k:Nat} {f:Addr} {fd:FuncData} {ps:List Str} {sp:Sp} {dvs:List V} {ds:List Value} {x:Str} {p pos:Pos} {e:Expr} {es:List Expr} {t:TA} {te:TE} {tx:TEX} {st:Stmt} {rest:List Stmt} {u u':TSX}
theorem zTV {pins:List (Addr × Obj)} {σ:St} {H:Hp} {s:Shared} {Q:VK} {E:XK} {us:List Value} {vs:List V} (F:FnOk X.prog X.w X.K X.mg X.base (CXe X.prog X.w) k f fd ps sp) (hr:Room k X.A) (hb:Binds X.K fd ps ds) (hd:Vals dvs ds)
    (I:Inv X pins σ H s) (r:Vals vs us) (h:sp (vs ++ dvs) H Q E):wpAny (model X.prog X.w) X.A (call (.ref f) us) (EP X pins σ Q) (XP X pins σ E) s:=by
  have r2:Vals (vs ++ dvs) (us ++ ds):=r.append hd
  have hl:(us ++ ds).length = ps.length:=by rw [← r2.length]; exact F.len _ _ _ _ h
  refine wpAny_call (codeAny_mono (F.run X.A X.stack s H ⟨us,[]⟩ (us ++ ds) (vs ++ dvs) Q E hr I.env0 (hb s us I.kIn hl) r2 h) fun r s' hq=>?_)
  cases r with
  | error e=>exact I.flown hq
  | ok fl =>
    cases fl with
    | ret u=>exact I.after hq
    | next=>exact False.elim hq
    | brk=>exact False.elim hq
    | cont=>exact False.elim hq
theorem PA.nox {es:List Expr} {t:TA} {E:Value→Shared→Prop} {M:Model} (h:PA X.nox es t) (pos:Pos) {pins:List (Addr × Obj)} {s:Shared} {σ:St} {H:Hp} {Q:List V→Hp→Prop} (I:Inv X pins σ H s) (q:t σ H Q) :
    wpAny (model X.prog X.w) X.A (spliced (backTo pos (starEach es X.env))) (AP X pins σ Q) E s :=
  wpAny_mono (h pos pins s σ H Q (I.wish _) q) (fun _ _ ⟨vs,H',I',r,q⟩=>⟨vs,H',I'.unwish,r,q⟩) fun _ _ z=>False.elim z
theorem zRG (F:FnOk X.prog X.w X.K X.mg X.base (CXe X.prog X.w) k f fd ps sp) (hr:Room k X.A) (hg:Gl X x) (hm:X.mg x = some (.ref f)) (hk:PySem.W.keepIn X.K (.ref f) = true) (hb:Binds X.K fd ps ds) (hd:Vals dvs ds)
    (ha:PA X.nox (e :: es) t) (hdb:(x == ("__debug__":Str)) = false:=by decide) (he:starEach (e :: es) X.env = (false,eval e X.env) :: starEach es X.env:=by rfl) (hpl:(backTo pos (starEach es X.env)).any (·.1) = false:=by rfl) :
    PEx X (.Call (.Name x p) (e :: es) [] pos) (fun σ H Q E=>zJ5 sp dvs E t σ H Q):=by
  intro pins s σ H Q E I h
  refine wpAny_Call_Name_kw (zHL I hg hm ?_ hdb)
  refine PySem.W.callWith_K (h₀:=X.base) I.ok.mod.kin hk (thn (PA.nox (M:=model X.prog X.w) ha pos I h) fun us s1 ⟨vs,H1,I1,r,q⟩=>⟨I1.kIn,?_⟩) he hpl
  exact zTV F hr hb hd I1 r q
theorem zU5 {i:Nat} {x:Str} {pos':Pos} (hN:X.N.Nodup) (hi:X.N[i]? = some x) (hx:Loc X.env.scope x) (he:PEx X e tx) (hs:swapsWithSole [.Name x pos'] e pos.line X.env = pure false:=by rfl) (hw:swappedStores [.Name x pos'] e X.env = pure none:=by rfl)
    (h1:(assignEach [.Name x pos'] X.env).map (·.2) = [assign (.Name x pos') X.env]:=by rfl) (hf:X.fn x = true∨X.env.scope.names.lookup x = some .local:=by first | exact .inl rfl | exact .inr rfl | assumption) :
    PSx X (.Assign [.Name x pos'] e pos) (fun D E σ H=>tx σ H (fun v H1=>D.nx (σ.set i (some v)) H1) (E σ)):=by
  intro pins s σ H D E I h
  refine wpAny_Assign_stores (wpAny_mono (he pins s σ H _ _ I h) (fun v s1 ⟨y,H1,I1,r1,q1⟩=>?_) fun x s1 q=>⟨σ,q⟩) hs hw
  rw [h1]
  exact wpAny_assign_Name (zGR I1 hN hi hx r1 (fun s' I'=>⟨_,H1,I',q1⟩) hf)
theorem zRC (h1:PSx X st u):PSxs X [st] u:=by
  intro pins s σ H D E I h
  refine wpAny_execs_cons (thn (h1 pins s σ H D E I h) fun f s1 q=>?_)
  cases f with
  | next=>exact wpAny_execs_nil q
  | ret v=>exact q
  | brk=>exact q
  | cont=>exact q
abbrev Cx.hd (X:Cx) (e:Addr):Cx:={ X with A:=X.A.mark (some (.ref e)),calm:=false,xe:=fun _ _=>False }
theorem Cx.Ok.hd' {X:Cx} {e:Addr} (ok:X.Ok):(X.hd e).Ok :=
  ⟨ok.mod,ok.kind,ok.glob,ok.blt,ok.above,ok.inj,ok.has,ok.cab,fun z=>Bool.noConfusion z,ok.frames,ok.stk,ok.exf,ok.bs,ok.bsz,ok.noex,ok.exfs,ok.funs,ok.frf⟩
variable {pins:List (Addr × Obj)} {σ:St} {H:Hp} {s:Shared} {a:Addr}
theorem Inv.hd (I:Inv X pins σ H s) (a:Addr):Inv (X.hd a) pins σ H s:=⟨I.ok.hd',I.os,I.bare,I.base,I.loc,I.cell,I.free,I.freeC,I.pin,I.hok,I.len⟩
theorem Inv.unhd (ok:X.Ok) (I:Inv (X.hd a) pins σ H s):Inv X pins σ H s:=⟨ok,I.os,I.bare,I.base,I.loc,I.cell,I.free,I.freeC,I.pin,I.hok,I.len⟩
theorem Inv.gone {i:Nat} {x:Str} {h':Heap} {m:Str→Option Value} {v:Option Value} {t':Nat} (I:Inv X pins σ H s) (hN:X.N.Nodup) (hi:X.N[i]? = some x) (hk:X.env.scope.names.lookup x = some .local)
    (hm:∀ (j:Nat) (y:Str) (w:V),X.N[j]? = some y→σ[j]? = some (some w)→Vis X.env.scope y→∃ u,RelV w u∧Look X.env s.heap m y u) (hn:h'.Ns X.env.locals fun y=>if y = x then v else m y) (hs:Heap.SameBut X.env.locals s.heap h'):Inv X pins (σ.set i none) H { s with heap:=h',toks:=t' }:=by
  have hiσ:i < σ.length:=by rw [I.len]; exact (List.getElem?_eq_some_iff.mp hi).1
  have cne:=I.cne
  have oth:∀ b,b≠X.env.locals→h'.get? b = s.heap.get? b:=fun b hb=>hs.2 b hb
  refine ⟨I.ok,I.os,I.bare,⟨fun b o e n hb hx=>?_,fun b o e n hb hx=>?_,I.base.free,fun b o e hx=>?_,I.base.tups,I.base.frzs,I.base.tbls⟩,⟨_,hn,fun j y w e1 e2 e3=>?_⟩,fun y c e=>?_,I.free,I.freeC,fun p hp=>?_,fun b ob e=>?_,by simp [I.len]⟩
  · exact (oth b (Nat.ne_of_lt (Nat.lt_of_lt_of_le (Heap.lt_size e) I.ok.above))).trans (I.base.keep b o e n hb hx)
  · obtain ⟨sl,e1⟩:=I.base.slot b o e n hb hx
    exact ⟨sl,(oth b (Nat.ne_of_lt (Nat.lt_of_lt_of_le (Heap.lt_size e) I.ok.above))).trans e1⟩
  · obtain ⟨o',e1⟩:=I.base.there b o e hx
    exact ⟨o',(oth b (Nat.ne_of_lt (Nat.lt_of_lt_of_le (Heap.lt_size e) I.ok.above))).trans e1⟩
  · by_cases hj:j = i
    · subst hj
      rw [List.getElem?_set_self hiσ] at e2
      cases e2
    · rw [List.getElem?_set_ne (Ne.symm hj)] at e2
      obtain ⟨u',r',q⟩:=hm j y w e1 e2 e3
      refine ⟨u',r',?_⟩
      have hy:y≠x:=fun e=>hj (zJJ hN e1 (e ▸ hi))
      rcases q with ⟨k,e⟩ | ⟨k,c,e,z⟩
      · exact .inl ⟨k,by simp [hy,e]⟩
      · exact .inr ⟨k,c,e,z.sameBut hs (cne y c e)⟩
  · obtain ⟨w',z⟩:=I.cell y c e
    exact ⟨w',z.sameBut hs (cne y c e)⟩
  · obtain ⟨e,n,ne,nf,d⟩:=I.pin p hp
    exact ⟨(oth p.1 ne).trans e,n,ne,nf,d⟩
  · refine (I.hok b ob e).stay (fun c w' hc q=>(oth c ?_).trans q) (fun _ q=>q) fun _ _ q=>q
    rintro rfl
    rcases hc with rfl | hc
    · rw [I.free] at e; cases e
    · rw [I.free] at hc; cases hc
theorem zJN {M:Model} {A:Around} {E:Value→Shared→Prop} {Q:Unit→Shared→Prop} {i:Nat} {x:Str} {pos:Pos} (I:Inv X pins σ H s) (hN:X.N.Nodup) (hi:X.N[i]? = some x) (hk:X.env.scope.names.lookup x = some .local)
    (h:∀ s',Inv X pins (σ.set i none) H s'→Q () s'):wpAny M A (do bindName X.env x .none; unbindBehindTheSuite X.env x pos) Q E s:=by
  obtain ⟨m,hn,hl⟩:=id I.loc
  refine wpAny_nameGoes_keeps hk hn (by rw [I.ok.kind]; rfl) fun h' v hn' hs=>h _ (I.gone hN hi hk hl hn' hs)
noncomputable def zS0 (i:Nat) (D:Ends):Ends:={ nx:=fun σ H=>D.nx (σ.set i none) H,rt:=D.rt,bk:=fun σ H=>D.bk (σ.set i none) H,ct:=fun σ H=>D.ct (σ.set i none) H }
def zSR (K:PySem.W.Frag) (c:Value) (i:Nat) (tb:TSX) (ts:TS):TS:=fun D σ H=>tb D (fun σ1 x d H1=>∃ e C,x = .ref e∧H1 e = some (xo e C d)∧PySem.W.exmOne K C c = some true∧ts (zS0 i D) (σ1.set i (some (.ref e))) H1) σ H
theorem zRD {body:List Stmt} {tb:TSX} {ts:TS} {c:Value} {cn x:Str} {i:Nat} {b₀:Stmt} {suite:List Stmt} {cp hp':Pos} (hb:PSxs X body tb) (hst:X.stack = X.env :: X.outer∧X.env.frame = some X.env.locals)
    (hc:X.mg cn = some c∨(X.mg cn = none∧bootBuiltins cn = some c∧cn≠"__name__")) (hg:Gl X cn) (hN:X.N.Nodup) (hi:X.N[i]? = some x) (hk:X.env.scope.names.lookup x = some .local) (hsu:∀ e,PSs (X.hd e) (b₀ :: suite) ts) (hdb:(cn == ("__debug__":Str)) = false:=by decide) :
    PS X (.Try body [.ExceptHandler (some (.Name cn cp)) (some x) (b₀ :: suite) hp'] [] [] pos) (zSR X.K c i tb ts):=by
  intro pins s σ H D I h
  refine wpAny_Try_except (wpAny_mono (hb pins s σ H _ _ I h) (fun f s1 q=>?_) fun y s1 ⟨σ1,n,e,C,d,H1,ey,I1,fl,hn,hn',hp,q0⟩=>?_)
  · cases f with
    | next=>exact wpAny_execs_nil q
    | ret v=>exact q
    | brk=>exact q
    | cont=>exact q
  · subst ey
    obtain ⟨e',C',ee,hC',hm,q⟩:=q0
    cases ee
    refine zN2 I1 I1.ok.frames hst fl hn hn' hp fun s2 I2 hh=>?_
    refine zJK I2 hh.1 hh.2 hn hp fun s3 I3 f3=>?_
    have I3h:=I3.hd e
    have LT:PySem.W.Looks (model X.prog X.w) s3.heap (typeOf (.ref e)) C':=by
      obtain ⟨oe,vs,he,hcl,_⟩:=(I3.hok e _ hC').1
      subst hcl
      exact (PySem.W.Looks.ld he).andThen .now
    have ex:=PySem.W.exm_one (M:=model X.prog X.w) I3.kIn LT hm
    have load:∀ {Q:Value→Shared→Prop} {E:Value→Shared→Prop},Q c s3→wpAny (model X.prog X.w) (X.A.mark (some (.ref e))) (eval (.Name cn cp) X.env) Q E s3:=fun {Q E} hq=>by
      rcases hc with z | ⟨z,z1,z2⟩
      · exact zHL (X:=X.hd e) I3h hg z hq hdb
      · exact zGJ (X:=X.hd e) I3h hg z z1 hq z2 hdb
    refine wpAny_handleBy_cons (codeAny_handlers_test (load (ex.here ?_))) (by intro z; cases z)
    refine codeAny_handlers_suite_as (zJK I3h hh.1 f3 hn hp fun s4 I4 f4=>?_)
    refine zGR (X:=X.hd e) (v:=.ref e) I4 hN hi (.inl hk) rfl (fun s5 I5=>?_) (.inr hk)
    refine wpAny_mono (hsu e pins s5 _ H1 (zS0 i D) I5 q) (fun f s6 q6=>?_) fun _ _ z=>False.elim z
    cases f with
    | next=>obtain ⟨σ',H',I',q'⟩:=q6; exact zJN (I'.unhd I1.ok) hN hi hk fun s7 I7=>⟨_,H',I7,q'⟩
    | brk=>obtain ⟨σ',H',I',q'⟩:=q6; exact zJN (I'.unhd I1.ok) hN hi hk fun s7 I7=>⟨_,H',I7,q'⟩
    | cont=>obtain ⟨σ',H',I',q'⟩:=q6; exact zJN (I'.unhd I1.ok) hN hi hk fun s7 I7=>⟨_,H',I7,q'⟩
    | ret u=>obtain ⟨v,σ',H',I',r,q'⟩:=q6; exact zJN (I'.unhd I1.ok) hN hi hk fun s7 I7=>⟨v,_,H',I7,r,q'⟩
end
end L2

namespace PySem.W
open PySem PySem.Calls PyProof.Rows Builtin Builtin.ObjectAttr
noncomputable def excTail:List Value→Bool
  | .ref _ :: r=>excTail r
  | [.type a,.type b,.type c,.type d]=>a == "ValueError" && b == "Exception" && c == "BaseException" && d == "object"
  | _=>false
theorem zMA {a b c d:String} (e:excTail [.type a,.type b,.type c,.type d] = true):a = "ValueError"∧b = "Exception"∧c = "BaseException"∧d = "object":=by
  simp only [excTail,Bool.and_eq_true,beq_iff_eq] at e
  exact ⟨e.1.1.1,e.1.1.2,e.1.2,e.2⟩
theorem zFP:∀ {l:List Value},excTail l = true→∃ as:List Addr,l = as.map Value.ref ++ [.type "ValueError",.type "Exception",.type "BaseException",.type "object"]
  | .ref a :: r,e=>by
    obtain ⟨as,rfl⟩:=zFP (l:=r) e
    exact ⟨a :: as,rfl⟩
  | [.type a,.type b,.type c,.type d],e=>by
    obtain ⟨rfl,rfl,rfl,rfl⟩:=zMA e
    exact ⟨[],rfl⟩
def excOver (K:Frag) (C:Addr):Bool:=(clsIn K C).any fun cd=>excTail cd.mro
section
variable {prog:Program} {w:World} {A:Around} {s:Shared} {K:Frag} {x C:Addr} {R:Result→Shared→Prop}
end
end PySem.W
namespace PySem.Xc
open PySem
section
variable {M:Model} {prog:Program} {w:World} {A:Around} {E:Value→Shared→Prop} {h:Heap} {g:Array GenState} {d:Drawn} {t:Nat} {os:OsState} {R:Result→Shared→Prop}
variable {nm q:Str} {C N:Addr} {bs bm bmB:List Value} {hdct:Bool} {sn:List Str} {sub:List Value} {ab:Bool} {col:Option Bool} {dd:Option Addr} {k0 k1 k2 k3 k5:Option Value} {B newId initId:String}
theorem zIU (F:ExcBaseFacts B newId initId bmB) (hB:bm.contains (.type B) = true) {rest:List Value} {Q:Unit→Shared→Prop} (hC:h.get? C = some (excClassObj nm q C N bs bm hdct sn sub ab col dd k0 k1 k2 k3 k5 newId))
    (hq:Q () ⟨h,g,d,t,os⟩):wpAny M A (checkBuiltinCall newId ⟨.ref C :: rest,[]⟩) Q E ⟨h,g,d,t,os⟩:=by
  have hcont:(Value.ref C :: bm).contains (.type B) = true:=by rw [List.contains_cons,hB,Bool.or_true]
  have hstar:=F.noStar
  simp only [checkBuiltinCall,F.newKind,F.newSplit,F.newRow]
  repeat (first | refine wpAny_loadPart_at hC ?_ | (refine wpAny_isSubtype_exc hC ?_; rw [hcont]) | refine wpAny_staticBase_exc hC ?_ | refine wpAny_madeBy_exc hC ?_ | simp only [bne_self_eq_false,Bool.false_eq_true,if_false] | wp_step)
  exact hq
theorem zL5 (F:ExcBaseFacts B newId initId bmB) (hB:bm.contains (.type B) = true) (hA:bm.contains (.type "AttributeError") = false) (hN:bm.contains (.type "NameError") = false) {rest:List Value} (hC:h.get? C = some (excClassObj nm q C N bs bm hdct sn sub ab col dd k0 k1 k2 k3 k5 newId))
    (hq:R (.ok (.ret (.ref (h.objs.size + 1)))) ⟨(h.push { cls:=.type "tuple",data:=.seq rest.toArray }).push
      { cls:=.ref C,data:=.fields #[.ref h.objs.size,.none,.none,.none,.bool false,.none] },g,d,t,os⟩) (hrest:rest.length≤sizeLine) :
    codeAny (model prog w) A (.builtin newId ⟨.ref C :: rest,[]⟩) R ⟨h,g,d,t,os⟩:=by
  have hends:=F.ends
  have hcB:(Value.ref C :: bm).contains (.type B) = true:=by rw [List.contains_cons,hB,Bool.or_true]
  have hcA:(Value.ref C :: bm).contains (.type "AttributeError") = false:=by rw [List.contains_cons,hA]; rfl
  have hcN:(Value.ref C :: bm).contains (.type "NameError") = false:=by rw [List.contains_cons,hN]; rfl
  refine codeAny_builtinAt F.entry ?_
  unfold Builtin.«BaseException.__new__»
  refine wpAt_bind ?_
  show wpAt _ _ _ (stack >>= _) _ _ _
  refine wpAt_bind (wpAt_stack fun p below=>wpAt_of_wpAny ?_)
  wp_walk
  refine wpAt_of_wpAny ?_
  rw [F.owner]
  repeat (first | with_reducible refine wpAny_madeHere_exc F.canon hC ?_ | with_reducible refine wpAny_loadPart_at hC ?_ | (with_reducible refine wpAny_isSubtype_exc hC ?_; first | rw [hcB] | rw [hcA] | rw [hcN]) | wp_step)
  show R _ _
  rw [Heap.size_push]
  exact hq
theorem zMF (F:ExcBaseFacts B newId initId bmB) (hB:bm.contains (.type B) = true) {e:Addr} {oe:Obj} {rest:List Value} {Q:Unit→Shared→Prop} {newId':String}
    (hC:h.get? C = some (excClassObj nm q C N bs bm hdct sn sub ab col dd k0 k1 k2 k3 k5 newId')) (he:h.get? e = some oe) (hcls:oe.cls = .ref C) (hq:Q () ⟨h,g,d,t,os⟩) :
    wpAny M A (checkBuiltinCall initId ⟨.ref e :: rest,[]⟩) Q E ⟨h,g,d,t,os⟩:=by
  have hcB:(Value.ref C :: bm).contains (.type B) = true:=by rw [List.contains_cons,hB,Bool.or_true]
  have hshort:=F.noStar
  simp only [checkBuiltinCall,F.initKind,F.initSplit,F.initRow]
  repeat (first | (with_reducible refine wpAny_loadPart_at he ?_; rw [hcls]) | with_reducible refine wpAny_loadPart_at hC ?_ | (with_reducible refine wpAny_isSubtype_exc hC ?_; rw [hcB]) | wp_step)
  refine wpAny_onRaise ?_
  rw [show ∀ (a b:String) (n:Nat),Bind.check ⟨.positional,"*",B,.self,[⟨"args",.varPos,false⟩]⟩ a b n (List.map (fun x=>x.fst) ({ pos:=Value.ref e :: rest }:Args).kw) = pure () from
    fun a b n=>check_star_args _ _ _ _ _ _]
  exact wpAny_pure hq
theorem zH2 (F:ExcBaseFacts B newId initId bmB) (hB:bm.contains (.type B) = true) (hA:bm.contains (.type "AttributeError") = false) (hN:bm.contains (.type "NameError") = false) {rest:List Value} {fI:Addr} {oI:Obj} {Q:Fin→Shared→Prop}
    (hC:h.get? C = some (excClassObj nm q C N bs bm hdct sn sub ab col dd k0 k1 k2 k3 k5 newId)) (hi:PySem.W.Looks (model prog w) h (typeLookup (.ref C) "__init__") (some (.ref fI)))
    (hfI:h.get? fI = some oI) (hfc:oI.cls = .type "function")
    (hq:∀ h' e,Heap.MadeExcOf h h' e (.ref C) rest→h.objs.size≤e →
      wpAny (model prog w) A (call (.ref fI) (.ref e :: rest)) (fun r s'=>r = .none∧Q (.done (.ret (.ref e))) s') E ⟨h',g,d,t,os⟩) (hrest:rest.length≤sizeLine) :
    wpAny (model prog w) A (Builtin.«type.__call__» ⟨.ref C :: rest,[]⟩) Q E ⟨h,g,d,t,os⟩:=by
  repeat (first | with_reducible refine wpAny_loadPart_at hC ?_ | with_reducible refine wpAny_madeBy_exc hC ?_ | wp_step)
  refine codeAny_call_builtin_code (Code.quiet_builtin _ F.quiet) (zIU F hB hC ?_)
  refine zL5 F hB hA hN hC ?_ hrest
  show wpAny _ _ _ _ _ _
  have hC₁:=Heap.get?_push_of_some { cls:=.ref C,data:=.fields #[.ref h.objs.size,.none,.none,.none,.bool false,.none] }
    (Heap.get?_push_of_some { cls:=.type "tuple",data:=.seq rest.toArray } hC)
  have hfI₁:=Heap.get?_push_of_some { cls:=.ref C,data:=.fields #[.ref h.objs.size,.none,.none,.none,.bool false,.none] }
    (Heap.get?_push_of_some { cls:=.type "tuple",data:=.seq rest.toArray } hfI)
  have hi₁:=hi.keeps (h':=(h.push { cls:=.type "tuple",data:=.seq rest.toArray }).push { cls:=.ref C,data:=.fields #[.ref h.objs.size,.none,.none,.none,.bool false,.none] }) fun b o e=>Heap.get?_push_of_some _ (Heap.get?_push_of_some _ e)
  have hget:((h.push { cls:=.type "tuple",data:=.seq rest.toArray }).push
      { cls:=.ref C,data:=.fields #[.ref h.objs.size,.none,.none,.none,.bool false,.none] }).get? (h.objs.size + 1) = some
      { cls:=.ref C,data:=.fields #[.ref h.objs.size,.none,.none,.none,.bool false,.none] }:=by heap_get
  have hcC:(Value.ref C :: bm).contains (.ref C) = true:=by simp
  unfold isInstance
  repeat (first | with_reducible refine wpAny_loadPart_at hget ?_ | (with_reducible refine wpAny_isSubtype_exc hC₁ ?_; rw [hcC]) | wp_step)
  show wpAny _ _ (typeLookup (.ref C) _) _ _ _
  refine hi₁.here ?_
  refine wpAny_holding (wpAny_bind ?_)
  unfold bindSpecial
  refine wpAny_bind (wpAny_typeOf (T:="function") ⟨_,hfI₁,hfc⟩ ?_)
  rw [if_pos (by decide)]
  refine wpAny_pure (wpAny_bind (wpAny_mono (hq _ (h.objs.size + 1) ⟨fun b o hb=>Heap.get?_push_of_some _ (Heap.get?_push_of_some _ hb),Heap.get?_none_of_le (Nat.le_succ _),h.objs.size,hget,Heap.get?_none_of_le (Nat.le_refl _),?_⟩ (Nat.le_succ _)) (fun r s' hr=>?_) fun _ _ x=>x))
  · exact Heap.get?_push_of_some _ (Heap.get?_push_at rfl rfl)
  · obtain ⟨rfl,hQ⟩:=hr
    wp_walk
    exact hQ
theorem call_initX (F:ExcBaseFacts B newId initId bmB) (hB:bm.contains (.type B) = true) (hA:bm.contains (.type "AttributeError") = false) (hN:bm.contains (.type "NameError") = false) {rest:List Value} {fI:Addr} {oI:Obj} {Q:Value→Shared→Prop}
    (hC:h.get? C = some (excClassObj nm q C N bs bm hdct sn sub ab col dd k0 k1 k2 k3 k5 newId)) (hi:PySem.W.Looks (model prog w) h (typeLookup (.ref C) "__init__") (some (.ref fI)))
    (hfI:h.get? fI = some oI) (hfc:oI.cls = .type "function")
    (hq:∀ h' e,Heap.MadeExcOf h h' e (.ref C) rest→h.objs.size≤e →
      wpAny (model prog w) (A.under (.builtin "type.__call__" ⟨.ref C :: rest,[]⟩)) (call (.ref fI) (.ref e :: rest)) (fun r s'=>r = .none∧Q (.ref e) s') E ⟨h',g,d,t,os⟩) (hrest:rest.length≤sizeLine) :
    wpAny (model prog w) A (call (.ref C) rest) Q E ⟨h,g,d,t,os⟩:=by
  have f1:=tc_lookup
  have f2:=tc_bind (.ref C)
  have hT:(⟨h,g,d,t,os⟩:Shared).TypeIs (.ref C) "type":=⟨_,hC,rfl⟩
  refine wpAny_call (codeAny_of_tree ?_)
  show wpAny _ _ (callAny (.ref C) _) _ _ _
  repeat (any_goals (first | assumption | with_reducible refine wpAny_loadPart_at hC ?_ | wp_step))
  refine ⟨rfl,?_⟩
  refine codeAny_call_builtin_at (Code.quiet_builtin _ (by decide +kernel)) entry_typeCall (wpAny_check_type_call_sub hC (zH2 (hrest:=hrest) F hB hA hN hC hi hfI hfc fun h' e hm hz=>?_))
  exact hq h' e hm hz
theorem zNM (F:ExcBaseFacts B newId initId bmB) (hB:bm.contains (.type B) = true) (hA:bm.contains (.type "AttributeError") = false) (hN:bm.contains (.type "NameError") = false) {rest:List Value} {Q:Fin→Shared→Prop}
    (hC:h.get? C = some (excClassObj nm q C N bs bm hdct sn sub ab col dd k0 k1 k2 k3 k5 newId)) (hi:PySem.W.Looks (model prog w) h (typeLookup (.ref C) "__init__") (some (.builtin initId)))
    (hq:∀ h' e,Heap.MadeExcOf h h' e (.ref C) rest→h.objs.size≤e→Q (.done (.ret (.ref e))) ⟨h',g,d,t,os⟩) (hrest:rest.length≤sizeLine) :
    wpAny (model prog w) A (Builtin.«type.__call__» ⟨.ref C :: rest,[]⟩) Q E ⟨h,g,d,t,os⟩:=by
  repeat (first | with_reducible refine wpAny_loadPart_at hC ?_ | with_reducible refine wpAny_madeBy_exc hC ?_ | wp_step)
  refine codeAny_call_builtin_code (Code.quiet_builtin _ F.quiet) (zIU F hB hC ?_)
  refine zL5 F hB hA hN hC ?_ hrest
  show wpAny _ _ _ _ _ _
  have hC₁:=Heap.get?_push_of_some { cls:=.ref C,data:=.fields #[.ref h.objs.size,.none,.none,.none,.bool false,.none] }
    (Heap.get?_push_of_some { cls:=.type "tuple",data:=.seq rest.toArray } hC)
  have hi₁:=hi.keeps (h':=(h.push { cls:=.type "tuple",data:=.seq rest.toArray }).push { cls:=.ref C,data:=.fields #[.ref h.objs.size,.none,.none,.none,.bool false,.none] }) fun b o e=>Heap.get?_push_of_some _ (Heap.get?_push_of_some _ e)
  have hget:((h.push { cls:=.type "tuple",data:=.seq rest.toArray }).push
      { cls:=.ref C,data:=.fields #[.ref h.objs.size,.none,.none,.none,.bool false,.none] }).get? (h.objs.size + 1) = some
      { cls:=.ref C,data:=.fields #[.ref h.objs.size,.none,.none,.none,.bool false,.none] }:=by heap_get
  have hcC:(Value.ref C :: bm).contains (.ref C) = true:=by simp
  unfold isInstance
  repeat (first | with_reducible refine wpAny_loadPart_at hget ?_ | (with_reducible refine wpAny_isSubtype_exc hC₁ ?_; rw [hcC]) | wp_step)
  show wpAny _ _ (typeLookup (.ref C) _) _ _ _
  refine hi₁.here ?_
  refine wpAny_holding (wpAny_bind (wpAny_of_eq (F.init.bind _) ?_))
  refine wpAny_bind (wpAny_call (codeAny_call_builtin F.init.plain F.initEntry (zMF F hB hC₁ hget rfl ?_)))
  wp_walk
  refine hq _ _ ⟨fun b o hb=>?_,Heap.get?_none_of_le (Nat.le_succ _),h.objs.size + 2,?_,Heap.get?_none_of_le (by omega),?_⟩ (Nat.le_succ _)
  · rw [Heap.get?_update_other _ _ (Nat.ne_of_gt (Nat.lt_succ_of_lt (Heap.lt_size hb)))]
    exact Heap.get?_push_of_some _ (Heap.get?_push_of_some _ (Heap.get?_push_of_some _ hb))
  · rw [Heap.get?_update_self _ (Heap.get?_push_of_some _ hget) rfl]
    simp only [Heap.size_push]
    rfl
  · rw [Heap.get?_update_other _ _ (show h.objs.size + 1≠h.objs.size + 2 by omega)]
    exact Heap.get?_push_at (by simp only [Heap.size_push]) rfl
theorem callX (F:ExcBaseFacts B newId initId bmB) (hB:bm.contains (.type B) = true) (hA:bm.contains (.type "AttributeError") = false) (hN:bm.contains (.type "NameError") = false) {rest:List Value} {Q:Value→Shared→Prop}
    (hC:h.get? C = some (excClassObj nm q C N bs bm hdct sn sub ab col dd k0 k1 k2 k3 k5 newId)) (hi:PySem.W.Looks (model prog w) h (typeLookup (.ref C) "__init__") (some (.builtin initId)))
    (hq:∀ h' e,Heap.MadeExcOf h h' e (.ref C) rest→h.objs.size≤e→Q (.ref e) ⟨h',g,d,t,os⟩) (hrest:rest.length≤sizeLine) :
    wpAny (model prog w) A (call (.ref C) rest) Q E ⟨h,g,d,t,os⟩:=by
  have f1:=tc_lookup
  have f2:=tc_bind (.ref C)
  have hT:(⟨h,g,d,t,os⟩:Shared).TypeIs (.ref C) "type":=⟨_,hC,rfl⟩
  refine wpAny_call (codeAny_of_tree ?_)
  show wpAny _ _ (callAny (.ref C) _) _ _ _
  repeat (any_goals (first | assumption | with_reducible refine wpAny_loadPart_at hC ?_ | wp_step))
  refine ⟨rfl,?_⟩
  refine codeAny_call_builtin_at (Code.quiet_builtin _ (by decide +kernel)) entry_typeCall (wpAny_check_type_call_sub hC (zNM (hrest:=hrest) F hB hA hN hC hi fun h' e hm hz=>?_))
  exact hq h' e hm hz
end
end PySem.Xc

namespace PySem.W
open PySem
def xcIn (K:Frag) (C:Addr):Bool:=match K.lookup C with
  | some ⟨.type "type",_,.cls cd,sl⟩=>(match cd.mro,sl.toList with
    | .ref C' :: bm,[_,_,_,_,some (.builtin n),_]=>C' == C && !cd.hasDel && excTail bm && n == "ValueError.__new__" && cd.hasDict
    | _,_=>false)
  | _=>false
theorem xc_cls {K:Frag} {h:Heap} {C:Addr} (X:K.In h) (q:xcIn K C = true):∃ nm qn N bs bm hdct sn sub ab col dd k0 k1 k2 k3 k5,
    h.get? C = some (excClassObj nm qn C N bs bm hdct sn sub ab col dd k0 k1 k2 k3 k5 "ValueError.__new__")∧excTail bm = true:=by
  unfold xcIn at q
  split at q
  · rename_i dd cd sl ho
    split at q
    · rename_i C' bm k0 k1 k2 k3 n k5 hm hs
      simp only [Bool.and_eq_true,beq_iff_eq,Bool.not_eq_true'] at q
      obtain ⟨⟨⟨⟨rfl,hdel⟩,hb⟩,hn⟩,hd⟩:=q
      subst hn
      obtain ⟨nm,bs,mro,ns,qn,hd',sn,sub,ab,col,del⟩:=cd
      dsimp only at hm hdel
      subst hm hdel
      have hsl:sl = #[k0,k1,k2,k3,some (.builtin "ValueError.__new__"),k5]:=by
        obtain ⟨l⟩:=sl
        simp only at hs
        rw [hs]
      subst hsl
      exact ⟨nm,qn,ns,bs,bm,hd',sn,sub,ab,col,dd,k0,k1,k2,k3,k5,X _ _ ho,hb⟩
    · cases q
  · cases q
theorem exc_con {l:List Value} {T:String} {b:Bool} (e:excTail l = true) (hb:List.contains [Value.type "ValueError",.type "Exception",.type "BaseException",.type "object"] (.type T) = b):l.contains (.type T) = b:=by
  obtain ⟨as,rfl⟩:=zFP e
  clear e
  induction as with
  | nil=>exact hb
  | cons a r ih=>rw [List.map_cons,List.cons_append,List.contains_cons,ih]; rfl
end PySem.W
namespace PySem.Xc
open PySem
section
variable {M:Model} {A:Around} {E:Value→Shared→Prop} {s:Shared} {env:Env}
variable {nm q:Str} {C N:Addr} {bs bm:List Value} {hdct:Bool} {sn:List Str} {sub:List Value} {ab:Bool} {col:Option Bool} {dd:Option Addr} {k0 k1 k2 k3 k5:Option Value} {newId:String}
theorem raiseX {x:Sem Value} {Q:Flow→Shared→Prop} (hh:A.handled = none)
    (h:wpAny M A x (fun v s₁=>∃ e t di nm q C N bs bm hdct sn sub ab col dd k0 k1 k2 k3 k5 newId,v = .ref e∧s₁.heap.get? C = some (excClassObj nm q C N bs bm hdct sn sub ab col dd k0 k1 k2 k3 k5 newId)∧bm.contains (.type "BaseException") = true ∧
      s₁.heap.get? e = some { cls:=.ref C,dict:=di,data:=.fields #[.ref t,.none,.none,.none,.bool false,.none] }∧E (.ref e) s₁) E s) :
    wpAny M A (raiseStmt env (some x) none) Q E s:=by
  unfold raiseStmt
  refine wpAny_bind (wpAny_mono h (fun v s₁ h₁=>?_) fun _ _ x=>x)
  obtain ⟨e,t,di,nm,q,C,N,bs,bm,hdct,sn,sub,ab,col,dd,k0,k1,k2,k3,k5,newId,rfl,hC,hbase,he,hE⟩:=h₁
  have hcB:(Value.ref C :: bm).contains (.type "BaseException") = true:=by rw [List.contains_cons,hbase,Bool.or_true]
  obtain ⟨hp,g,d,tk,os⟩:=s₁
  repeat (first | with_reducible refine wpAny_loadPart_at he ?_ | with_reducible refine wpAny_loadPart_at hC ?_ | (with_reducible refine wpAny_isSubtype_exc hC ?_; rw [hcB]) | wp_step)
  exact wpAny_raiseNew_none hh hE
theorem RaiseX {x:Expr} {pos:Pos} {Q:Flow→Shared→Prop} (hh:A.handled = none)
    (h:wpAny M A (eval x env) (fun v s₁=>∃ e t di nm q C N bs bm hdct sn sub ab col dd k0 k1 k2 k3 k5 newId,v = .ref e∧s₁.heap.get? C = some (excClassObj nm q C N bs bm hdct sn sub ab col dd k0 k1 k2 k3 k5 newId)∧bm.contains (.type "BaseException") = true ∧
      s₁.heap.get? e = some { cls:=.ref C,dict:=di,data:=.fields #[.ref t,.none,.none,.none,.bool false,.none] }∧E (.ref e) s₁) E s) :
    wpAny M A (exec (.Raise (some x) none pos) env) Q E s:=by
  rw [arm_exec_Raise]
  first
    | exact wpAny_bind (wpAny_standAt (raiseX hh (wpAny_bind (wpAny_mono h (fun v s₁ h₁=>wpAny_bind (wpAny_standAt (wpAny_pure h₁))) fun _ _ x=>x))))
    | (simp only [evalOpt,Option.map]; exact wpAny_bind (wpAny_standAt (raiseX hh (wpAny_bind (wpAny_mono h (fun v s₁ h₁=>wpAny_bind (wpAny_standAt (wpAny_pure h₁))) fun _ _ x=>x)))))
    | (show wpAny M A (do standAt pos; raiseStmt env (some (do let v ← eval x env; standAt pos; pure v)) none) Q E s; exact wpAny_bind (wpAny_standAt (raiseX hh (wpAny_bind (wpAny_mono h (fun v s₁ h₁=>wpAny_bind (wpAny_standAt (wpAny_pure h₁))) fun _ _ x=>x)))))
end
section
open PySem.W
variable {prog:Program} {w:World} {A:Around} {E:Value→Shared→Prop} {K:Frag} {x C:Addr} {ox:Obj} {od:Option Obj} {name:Str} {expr fill:Bool} {h:Heap} {g:Array GenState} {d:Drawn} {t:Nat} {os:OsState}
theorem zQC {M:Model} {nameV:Value} {Q:Unit→Shared→Prop} (X:K.In h) (hc:xcIn K C = true) (I:InstAt h x ox C od) (hq:Q () ⟨h,g,d,t,os⟩):wpAny M A (checkBuiltinCall "BaseException.__getattribute__" ⟨[.ref x,nameV],[]⟩) Q E ⟨h,g,d,t,os⟩:=by
  obtain ⟨nm,qn,N,bs,bm,hdct,sn,sub,ab,col,dd,k0,k1,k2,k3,k5,hC,ht⟩:=xc_cls X hc
  have hk:builtinKind "BaseException.__getattribute__" = some .slot:=by decide +kernel
  have hsplit:splitId "BaseException.__getattribute__" = some ("BaseException","__getattribute__"):=by decide +kernel
  have hcB:(Value.ref C :: bm).contains (.type "BaseException") = true:=by rw [List.contains_cons,exc_con ht (T:="BaseException") (b:=true) (by decide)]; rfl
  have ha:=F.args_bexc_ga (.ref x) nameV
  simp only [checkBuiltinCall,hk,hsplit]
  refine wpAny_bind ?_
  · unfold isInstance
    have hx:=I.at_
    have hcl:=I.cls
    repeat (first | (with_reducible refine wpAny_loadPart_at hx ?_; rw [hcl]) | (with_reducible refine wpAny_isSubtype_exc hC ?_; rw [hcB]) | wp_step)
    exact hq
end
end PySem.Xc
namespace L2
open PySem PySem.Spec PyProof.Rows
def XN (e:Addr) (C:Value) (d:Option Addr) (h:Heap):Prop:=∃ t1,h.get? e = some { cls:=C,dict:=d,data:=.fields #[.ref t1,.none,.none,.none,.bool false,.none] }
abbrev xn (e:Addr) (C:Value) (d:Option Addr):HO:=.ext (XN e C d)
theorem zTF {e:Addr} {C:Value} {d:Option Addr} (h1 h2:Heap) (x:XN e C d h1) (k:∀ o,h1.get? e = some o→h2.get? e = some o):XN e C d h2:=let ⟨t1,a⟩:=x; ⟨t1,k _ a⟩
theorem zTE {e:Addr} {C:Value} {d:Option Addr} (h1 h2:Heap) (x:XO e C d h1) (k:∀ o,h1.get? e = some o→h2.get? e = some o):XO e C d h2:=let ⟨oe,vs,a,r⟩:=x; ⟨oe,vs,k _ a,r⟩
theorem zYK {P:Program} {w:World} {H:Hp} {h:Heap} {e:Addr} {C:Value} {d:Option Addr} (x:XN e C d h):ObjOk P w H h e (xn e C d):=⟨x,let ⟨t1,a⟩:=x; ⟨_,a⟩,zTF⟩
theorem zYJ {P:Program} {w:World} {H:Hp} {h:Heap} {e:Addr} {C:Value} {d:Option Addr} (x:XO e C d h):ObjOk P w H h e (xo e C d):=⟨x,let ⟨oe,vs,a,_⟩:=x; ⟨_,a⟩,zTE⟩
section
variable {X:Cx} {pins:List (Addr × Obj)} {σ:St} {H:Hp} {s:Shared} {k:Nat} {f C:Addr} {fd:FuncData} {ps:List Str} {sp:Sp} {x:Str} {p pos:Pos} {e:Expr} {es:List Expr} {t:TA} {te:TE}
def zJ4 (C:Addr) (t:TA):TE:=fun σ H Q=>t σ H fun vs H1=>vs.length≤sizeLine∧∀ e,H1 e = none→Q (.ref e) (upd H1 e (xn e (.ref C) none))
theorem Inv.madeX {h':Heap} {e:Addr} {us:List Value} (I:Inv X pins σ H s) (m:Heap.MadeExcOf s.heap h' e (.ref C) us) (hs:s.heap.objs.size≤e):H e = none∧Inv X pins σ (upd H e (xn e (.ref C) none)) { s with heap:=h' }:=by
  obtain ⟨t1,h1,_⟩:=m.there
  exact ⟨I.hok.fresh hs,I.laid (t':=s.toks) m.keeps hs (zYK ⟨t1,h1⟩)⟩
theorem zNS {Q:VK} {us:List Value} {vs:List V} (hc:PySem.W.xcIn X.K C = true) (hi:PySem.W.findIn X.K (.ref C) "__init__" = some (some (.builtin "ValueError.__init__")))
    (I:Inv X pins σ H s) (r:Vals vs us) (hz:vs.length≤sizeLine) (h:∀ e,H e = none→Q (.ref e) (upd H e (xn e (.ref C) none))):wpAny (model X.prog X.w) X.A (call (.ref C) us) (EP X pins σ Q) X.xe s:=by
  obtain ⟨nm,qn,N,bs,bm,hdct,sn,sub,ab,col,dd,k0,k1,k2,k3,k5,hC,ht⟩:=PySem.W.xc_cls I.kIn hc
  have hus:us.length≤sizeLine:=by rw [← r.length]; exact hz
  have key:∀ h' e,Heap.MadeExcOf s.heap h' e (.ref C) us→s.heap.objs.size≤e→EP X pins σ Q (.ref e) { s with heap:=h' }:=by
    intro h' e m hs
    obtain ⟨he,I2⟩:=I.madeX m hs
    exact ⟨.ref e,_,I2,rfl,h e he⟩
  have hK:=PySem.W.looks_findIn (M:=model X.prog X.w) I.kIn hi
  obtain ⟨hh,g,d,tk,os⟩:=s
  exact Xc.callX PySem.F.excBase_ValueError (PySem.W.exc_con ht (by decide)) (PySem.W.exc_con ht (by decide)) (PySem.W.exc_con ht (by decide)) hC hK key hus
theorem zPE (hc:PySem.W.xcIn X.K C = true) (hi:PySem.W.findIn X.K (.ref C) "__init__" = some (some (.builtin "ValueError.__init__"))) (hg:Gl X x) (hm:X.mg x = some (.ref C)) (hk:PySem.W.keepIn X.K (.ref C) = true)
    (ha:PA X (e :: es) t) (hdb:(x == ("__debug__":Str)) = false:=by decide) (he:starEach (e :: es) X.env = (false,eval e X.env) :: starEach es X.env:=by rfl) (hpl:(backTo pos (starEach es X.env)).any (·.1) = false:=by rfl) :
    PE X (.Call (.Name x p) (e :: es) [] pos) (zJ4 C t):=by
  intro pins s σ H Q I h
  refine wpAny_Call_Name_kw (zHL I hg hm ?_ hdb)
  refine PySem.W.callWith_K (h₀:=X.base) I.ok.mod.kin hk (thn (ha pos pins s σ H _ I h) fun us s1 ⟨vs,H1,I1,r,z,q⟩=>⟨I1.kIn,?_⟩) he hpl
  exact zNS hc hi I1 r z q
theorem Inv.xn {e:Addr} {d:Option Addr} {Cv:Value} (I:Inv X pins σ H s) (h:H e = some (xn e Cv d)):XN e Cv d s.heap:=(I.hok e _ h).1
theorem XN.xo {h:Heap} {e:Addr} {d:Option Addr} {Cv:Value} (x:XN e Cv d h):XO e Cv d h:=let ⟨t1,a⟩:=x; ⟨_,_,a,rfl,rfl,rfl,by simp⟩
theorem Inv.raised {e:Addr} {d:Option Addr} (I:Inv X pins σ H s) (h:H e = some (L2.xn e (.ref C) d)) (E:XK) (q:E (.ref e) d (upd H e (xo e (.ref C) d))):XP X pins σ E (.ref e) s:=by
  have x:=I.xn h
  obtain ⟨t1,a⟩:=id x
  have I':Inv X pins σ (upd H e (xo e (.ref C) d)) s:=I.write (t':=s.toks) (h':=s.heap) (e:=e) (by rw [h]; trivial) (.inl rfl) (fun _ _ _ q=>q) ⟨_,a⟩ (zYJ x.xo)
  exact ⟨s.heap.objs.size,e,.ref C,d,_,rfl,I',⟨zAP,.inl ⟨_,_,a,rfl,rfl,rfl,rfl⟩⟩,I.sz,Nat.le_refl _,I.pinlt,q⟩
def zXW (X:Cx) (E:XK):Prop:=∀ (pins:List (Addr × Obj)) (σ:St) (x:Value) (s':Shared),XP X pins σ E x s'→X.xe x s'
def zSS (K:PySem.W.Frag) (E:XK) (te:TE):TS:=fun _ σ H=>te σ H fun v H1=>∃ e C d,v = .ref e∧H1 e = some (L2.xn e (.ref C) d)∧PySem.W.xcIn K C = true∧E (.ref e) d (upd H1 e (xo e (.ref C) d))
theorem zMZ {E:XK} (he:PE X e te) (hf:zXW X E) (hc:X.calm = true):PS X (.Raise (some e) none pos) (zSS X.K E te):=by
  intro pins s σ H D I h
  refine Xc.RaiseX (I.ok.hd hc) (thn (he pins s σ H _ I h) fun v s1 ⟨y,H1,I1,ry,a,C,d,ey,ha,hx,q⟩=>?_)
  subst ey
  cases ry
  obtain ⟨t1,hg⟩:=I1.xn ha
  obtain ⟨nm,qn,N,bs,bm,hdct,sn,sub,ab,col,dd,k0,k1,k2,k3,k5,hC,ht⟩:=PySem.W.xc_cls I1.kIn hx
  exact ⟨a,t1,d,nm,qn,C,N,bs,bm,hdct,sn,sub,ab,col,dd,k0,k1,k2,k3,k5,_,rfl,hC,PySem.W.exc_con ht (by decide),hg,hf pins σ _ _ (I1.raised ha E q)⟩
structure XBase (K:PySem.W.Frag) (B:Addr):Prop where
  ga:PySem.W.specialIn K (.ref B) "__getattribute__" = some (some (.builtin "type.__getattribute__"))
  rd:PySem.W.readsIn K B (.type "type") = true
  fd:PySem.W.findCls K (.ref B) (.type "type") "__init__" = some (.val (.builtin "ValueError.__init__"))
  hi:PySem.W.handedIn (.builtin "ValueError.__init__") = true
structure XSet (K:PySem.W.Frag) (C:Addr) (f:Str):Prop where
  st:PySem.W.findIn K (.ref C) "__setattr__" = some (some (.builtin "object.__setattr__"))
  ov:PySem.W.excOver K C = true
  tk:PySem.W.takerIn K C f = some none
  hd:(PySem.W.clsIn K C).any (·.hasDict) = true
end
end L2

namespace PySem.Xc
open PySem PySem.W
section
variable {prog:Program} {w:World} {A:Around} {E:Value→Shared→Prop} {K:Frag} {x C:Addr} {ox:Obj} {od:Option Obj} {name:Str} {expr fill:Bool} {h:Heap} {g:Array GenState} {d:Drawn} {t:Nat} {os:OsState}
theorem zOA {Q:Option Value→Shared→Prop} (X:K.In h) (I:InstAt h x ox C od) (hc:xcIn K C = true) (hga:findIn K (.ref C) "__getattribute__" = some (some (.builtin "BaseException.__getattribute__"))) (hgg:findIn K (.ref C) "__getattr__" = some none)
    (hf:findObj K C od "__class__" = some (.bind (.builtin "getset_descriptor.__get__") (.builtin "object.__class__"))) (hm:mroIn K C (.type "object") = some true) (hq:Q (some (.ref C)) ⟨h,g,d,t + 1,os⟩):wpAny (model prog w) A (getAttr? (.ref x) "__class__") Q E ⟨h,g,d,t,os⟩:=by
  have f3:=F.excAttr_ValueError.ga.bind (.ref x)
  have hx2:(Value.builtin "BaseException.__getattribute__" == Value.builtin "object.__getattribute__") = false:=by decide +kernel
  have hx1:(onTheHeap (Value.ref C) && Value.builtin "BaseException.__getattribute__" == Value.builtin "object.__getattribute__") = false:=by rw [hx2]; rfl
  have L0:=I.type (M:=model prog w)
  have L1:=looks_findIn (M:=model prog w) X hga
  have L2:=looks_findIn (M:=model prog w) X hgg
  have hx:=I.at_
  have hcl:=I.cls
  unfold getAttr?
  repeat (any_goals (first | assumption | (with_reducible refine wpAny_loadPart_at hx ?_; rw [hcl]) | with_reducible refine L1.at ?_ | with_reducible refine L2.at ?_ | wp_step))
  refine codeAny_call_builtin F.excAttr_ValueError.ga.plain F.entry_bexc_ga (zQC (h:=h) X hc I ?_)
  have L3:=looks_find (M:=model prog w) X I hf
  unfold Builtin.«object.__getattribute__»
  refine wpAny_bind (wpAny_pure (wpAny_bind (wpAny_pure (wpAny_bind (L0.at (wpAny_bind (L3.at ?_)))))))
  show wpAny _ _ (Builtin.ObjectAttr.bindTo (.builtin "getset_descriptor.__get__") (.builtin "object.__class__") (.ref x) (.ref C)) _ _ _
  unfold Builtin.ObjectAttr.bindTo
  refine wpAny_bind (wpAny_holding (wpAny_call (class_get (s:=⟨h,g,d,t + 1,os⟩) (ox:=ox) (od:=od) X I hm ?_)))
  exact wpAny_pure (handed_on rfl (wpAny_pure hq))
theorem zJP {a g:Value} (hc:(clsIn K C).isSome = true) (ha:findIn K (.ref C) name = some (some a)) (hg:specialIn K a "__get__" = some (some g)) (ht:takesIn K a = some true):findObj K C od name = some (.bind g a):=by
  obtain ⟨cd,hc⟩:=Option.isSome_iff_exists.mp hc
  unfold findObj
  rw [hc,Option.bind_some,ha,Option.bind_some]
  simp only [hg,Option.bind_some,ht]
end
structure XIs (K:Frag) (C:Addr):Prop where
  xc:xcIn K C = true
  ga:findIn K (.ref C) "__getattribute__" = some (some (.builtin "BaseException.__getattribute__"))
  gg:findIn K (.ref C) "__getattr__" = some none
  hd:hasDictIn K C = true
  ca:findIn K (.ref C) "__class__" = some (some (.builtin "object.__class__"))
  cg:specialIn K (.builtin "object.__class__") "__get__" = some (some (.builtin "getset_descriptor.__get__"))
  ct:takesIn K (.builtin "object.__class__") = some true
  mo:mroIn K C (.type "object") = some true
theorem kitx_exc {K:Frag} {x C:Addr} (c:XIs K C):KitX K (.ref x) (.ref C) (fun h=>∃ ox od,InstAt h x ox C od) where
  ty:=fun _ _ _ ⟨_,_,I⟩=>I.type
  it:=fun _ _ X _=>by
    obtain ⟨cdD,hcD,_⟩:=any_some c.hd
    unfold clsIn at hcD
    split at hcD
    · rename_i c' d' cd' sl' ho
      intro A' Q' E' s' k q
      unfold isType loadHead
      exact wpAny_bind (wpAny_loadPart (k _ _ (X _ _ ho)) (wpAny_pure q))
    · cases hcD
  ne:=fun h tp dd its n sl X htp=>by
    obtain ⟨cdD,hcD,_⟩:=any_some c.hd
    refine Bool.eq_false_iff.mpr fun q=>?_
    have e:C = tp:=Value.ref.inj (beq_iff_eq.mp q)
    subst e
    unfold clsIn at hcD
    split at hcD
    · rename_i c' d' cd' sl' ho
      have z:=(X _ _ ho).symm.trans htp
      cases z
    · cases hcD
  ca:=fun {_ _ _ _ _ s} X ⟨_,_,I⟩ k=>by
    obtain ⟨cd,hc,_⟩:=any_some c.hd
    obtain ⟨h,g,d,t,os⟩:=s
    exact zOA X I c.xc c.ga c.gg (zJP (by rw [hc]; rfl) c.ca c.cg c.ct) c.mo k
end PySem.Xc
namespace L2
open PySem PySem.Spec PyProof.Rows
section
variable {X:Cx} {pins:List (Addr × Obj)} {σ:St} {H:Hp} {s:Shared} {C e d:Addr} {f:Str} {pos:Pos} {ta:TE}
def isX (H:Hp) (e C:Addr) (d:Option Addr):Prop:=H e = some (xn e (.ref C) d)∨H e = some (xo e (.ref C) d)
theorem Inv.isX {d:Option Addr} (I:Inv X pins σ H s) (h:L2.isX H e C d):XO e (.ref C) d s.heap:=by
  rcases h with h | h
  · exact (I.xn h).xo
  · exact (I.hok e _ h).1
theorem Inv.instX0 {d:Option Addr} (I:Inv X pins σ H s) (h:L2.isX H e C d) (hd:∀ a,d = some a→∃ fs,H a = some (.xd fs)):∃ ox od,PySem.W.InstAt s.heap e ox C od:=by
  obtain ⟨oe,vs,h1,h2,h3,h4,_⟩:=I.isX h
  have nc:PySem.W.notCls oe = true:=by unfold PySem.W.notCls; rw [h4]
  cases d with
  | none=>exact ⟨oe,none,h1,h2,nc,by rw [h3]; trivial⟩
  | some a =>
    obtain ⟨fs,ha⟩:=hd a rfl
    obtain ⟨mA,hn,_⟩:=I.hok a _ ha
    obtain ⟨od,ho,_⟩:=zKT hn
    exact ⟨oe,some od,h1,h2,nc,by rw [h3]; exact ho⟩
noncomputable def clsV:List V→Option (List Value)
  | []=>some []
  | .ref a :: r=>(clsV r).map (Value.ref a :: ·)
  | .ty n :: r=>(clsV r).map (Value.type n :: ·)
  | _ :: _=>none
theorem zME:∀ {xs:List V} {its us:List Value},clsV xs = some its→Vals xs us→us = its
  | [],_,_,h,.nil=>by cases h; rfl
  | .ref a :: r,its,_,h,.cons q t=>by
    obtain ⟨l,hl,rfl⟩:=Option.map_eq_some_iff.mp (show (clsV r).map (Value.ref a :: ·) = some its from h)
    rw [zME hl t]
    cases q
    rfl
  | .ty n :: r,its,_,h,.cons q t=>by
    obtain ⟨l,hl,rfl⟩:=Option.map_eq_some_iff.mp (show (clsV r).map (Value.type n :: ·) = some its from h)
    rw [zME hl t]
    cases q
    rfl
def zU0 (K:PySem.W.Frag):List V→Hp→VK→Prop:=fun vs H Q=>∃ e C d y b,vs = [.ref e,y]∧L2.isX H e C d∧(∀ a,d = some a→∃ fs,H a = some (.xd fs))∧Xc.XIs K C∧Q (.bl b) H ∧
  ((∃ c,y = .ref c∧PySem.W.kitOne K (.ref C) (.ref c) = some b)∨(∃ n,y = .ty n∧PySem.W.kitOne K (.ref C) (.type n) = some b)∨∃ p xs its,y = .ref p∧H p = some (.tup xs)∧clsV xs = some its∧PySem.W.kitAny K (.ref C) its = some b)
theorem zFX:zD3 X (.builtin "isinstance") (zU0 X.K):=by
  intro pins s σ H vs us Q I r h
  obtain ⟨e,C,d,y,b,rfl,hx,hd,c,q,hy⟩:=h
  cases r with
  | cons r1 r2 =>
    cases r2 with
    | cons ry r3 =>
      cases r3
      cases r1
      have P:=I.instX0 hx hd
      rcases hy with ⟨c',rfl,hk⟩ | ⟨n,rfl,hk⟩ | ⟨p,xs,its,rfl,hp,rv,hk⟩
      · cases ry
        exact PySem.W.kia_one (Xc.kitx_exc c) I.kIn P hk (fun z=>nomatch z) fun tk=>⟨.bl b,H,I.tok tk,rfl,q⟩
      · cases ry
        exact PySem.W.kia_one (Xc.kitx_exc c) I.kIn P hk (fun z=>nomatch z) fun tk=>⟨.bl b,H,I.tok tk,rfl,q⟩
      · cases ry
        obtain ⟨_,us',r',ob,h1,h2,n,h3⟩:=I.hok p _ hp
        obtain ⟨oc,od,odt,osl⟩:=ob
        dsimp only at h2 h3
        subst h2 h3
        rw [zME rv r'] at h1
        exact PySem.W.kia_tup (Xc.kitx_exc c) I.kIn P h1 hk (fun z=>nomatch z) fun tk=>⟨.bl b,H,I.tok tk,rfl,q⟩
end
end L2

namespace L2
open PySem PySem.Spec PyProof.Rows
def HasX (P:Program) (w:World) (K:PySem.W.Frag) (mg:Str→Option Value) (base:Heap) (x:Str) (k:Nat) (ps:List Str) (sp:Sp):Prop :=
  ∃ f fd,FnOk P w K mg base (CXe P w) k f fd ps sp∧mg x = some (.ref f)∧PySem.W.keepIn K (.ref f) = true∧Binds K fd ps []
section
variable {P:Program} {w:World} {K:PySem.W.Frag} {mg:Str→Option Value} {base:Heap} {x:Str} {k:Nat} {ps N:List Str} {sp sp':Sp} {st:Stmt}
theorem Fun.okX {y qual:Str} {f:Addr} {fd:FuncData} (F:Fun K y qual st f fd) (S:FnScope N ps (zAC st)) (len:∀ vs H Q E,sp vs H Q E→vs.length = ps.length)
    (hbody:∀ (cdv:Value) (A:Around) (outer:List Env) (s:Shared) (H:Hp) (vs:List V) (Q:VK) (E:XK),Room k (A.deeper (envOfC qual (zAC st) s.heap.objs.size f cdv))→sp vs H Q E →
      ∃ t,PSs (cxOf (CXe P w) P w K mg base N qual (zAC st) f cdv A outer s H E) (zCE st) t∧t { nx:=fun _ H'=>Q .non H',rt:=Q } (start N vs) H):FnOk P w K mg base (CXe P w) (k + 1) f fd ps sp:=by
  obtain ⟨oc,od,kV,doc,pm,an,cdv,ct,osl,rfl,lk,hcd⟩:=F.ex
  exact zXA lk hcd S len fun A outer s H vs Q E hr hsp=>hbody cdv A outer s H vs Q E hr hsp
theorem Def.okX (D:Def K mg x st) (S:FnScope N ps (zAC st))
    (hb:∀ (kV doc pm:Value) (an:Option Addr) (cdv ct:Value) (us:List Value),us.length = ps.length→bindArgs (PySem.W.fnOf x x (zDU st) (zCE st) (zAC st) .none kV doc pm an cdv ct) ⟨us,[]⟩ = pure (ps.zip us))
    (len:∀ vs H Q E,sp vs H Q E→vs.length = ps.length)
    (hbody:∀ (f:Addr) (cdv:Value) (A:Around) (outer:List Env) (s:Shared) (H:Hp) (vs:List V) (Q:VK) (E:XK),Room k (A.deeper (envOfC x (zAC st) s.heap.objs.size f cdv))→sp vs H Q E →
      ∃ t,PSs (cxOf (CXe P w) P w K mg base N x (zAC st) f cdv A outer s H E) (zCE st) t∧t { nx:=fun _ H'=>Q .non H',rt:=Q } (start N vs) H):HasX P w K mg base x (k + 1) ps sp:=by
  obtain ⟨f,fd,F,m⟩:=D
  exact ⟨f,fd,F.okX S len (fun cdv A outer s H vs Q E hr h=>hbody f cdv A outer s H vs Q E hr h),m,F.kp,F.binds hb⟩
theorem zKX {qual:Str} {scope:Scope} {f:Addr} {cd:Value} {A:Around} {outer:List Env} {s:Shared} {H:Hp} {E:XK}:zXW (cxOf (CXe P w) P w K mg base N qual scope f cd A outer s H E) E:=fun _ _ _ _ h=>zVC (fun _ _ _ z=>z) h
end
section
variable {X:Cx} {x:Str} {j k:Nat} {ps:List Str} {sp:Sp} {e:Expr} {es:List Expr} {t:TA} {p pos:Pos} {E:XK}
theorem zWD (h:HasX X.prog X.w X.K X.mg X.base x j ps sp) (hjk:j≤k) (hr:Room k X.A) (hg:Gl X x) (ha:PA X.nox (e :: es) t) (hdb:(x == ("__debug__":Str)) = false:=by decide)
    (he:starEach (e :: es) X.env = (false,eval e X.env) :: starEach es X.env:=by rfl) (hpl:(backTo pos (starEach es X.env)).any (·.1) = false:=by rfl):PEx X (.Call (.Name x p) (e :: es) [] pos) (fun σ H Q E=>zJ5 sp [] E t σ H Q):=by
  obtain ⟨f,fd,G,m,kp,b⟩:=h
  exact zRG G (hr.mono hjk) hg m kp b .nil ha hdb he hpl
theorem zPF {C:Addr} (hg:Gl X x) (hm:X.mg x = some (.ref C)) (hdb:(x == ("__debug__":Str)) = false:=by decide):PE X (.Name x pos) (tC (.ref C)):=fun pins s σ H Q I h=>zHL I hg hm ⟨.ref C,H,I,rfl,h⟩ hdb
end
end L2

namespace Att
open PySem PySem.W PySem.Calls PyProof.Rows
theorem zTG {ns:List Int} (h:WData.weightAll (ns.map WData.int)≤2 ^ 20):∀ i∈ns,i.natAbs.log2 < 2 ^ 20:=by
  induction ns with
  | nil=>intro i hi; cases hi
  | cons n r ih =>
    rw [List.map_cons,WData.weightAll] at h
    intro i hi
    rcases List.mem_cons.mp hi with rfl | hi
    · rw [WData.weight] at h
      split at h
      · rename_i z
        have:i = 0:=beq_iff_eq.mp z
        subst this
        decide
      · omega
    · exact ih (by omega) i hi
theorem attach_callW {l:OpenLaw} {n:Nat} {q:Program} {loose:List Str} {XP:(Str→Option Value)→Heap→Prop} {YP:World→Heap→Prop} {d:DefRec}
    (hn:l.most = some n) (hdf:d.params.defaults = [])
    (call:∀ (w:World) (s₀ s₁:Shared) (mg mb:Str→Option Value) (fa:Addr) (o:Obj) (pm cd doc:Value) (a:Addr) (vs:List Value) (ns:List Int),
      Ground q loose [] XP w s₀ mg mb s₁.heap→YP w s₁.heap →
      s₁.heap.get? fa = some o→o.data = .func (docDef d.name d.params d.body d.scope pm cd doc)→s₁.heap.CodeRec cd d.name→mg d.name = some (.ref fa) →
      s₁.heap.get? a = some { cls:=.type "list",data:=.seq vs.toArray }→IntsAre vs ns→ns.length≤n→(∀ i∈ns,i.natAbs.log2 < 2 ^ 20)→s₁.gens = #[] →
      codeAny (model l.prog w) callerA (.call (.ref fa) ⟨[.ref a],[]⟩) (fun r s'=>r = .ok (.ret (.bool true))∧OldK s₁.heap s'.heap∧s'.os = s₁.os∧AllBare s'.gens) s₁) :
    WalkO q loose XP YP l.row.toRowW d [] (fun f vs=>PySem.call f vs):=by
  intro w s₀ s₁ mg mb G Y fa o pm cd doc dV kV ho hd hcd hD hmg hg args vals as hpre hlay hrd hwl hlo
  obtain rfl:dV = .none:=Dflts.none hD hdf
  obtain rfl:kV = .none:=Dflts.noKw hD
  obtain ⟨a,vs,ns,rfl,rfl,hobj,hints,hlen⟩:=zOY hn hpre hwl
  have hw:∀ i∈ns,i.natAbs.log2 < 2 ^ 20:=by
    have hl:WData.layableAll [WData.list (ns.map WData.int)] = true:=hlay
    simp only [WData.layableAll,List.all_cons,List.all_nil,Bool.and_true,WData.layable,Bool.and_eq_true,decide_eq_true_eq] at hl
    exact zTG (by have:=hl.2; rw [WData.weight] at this; exact this)
  refine enter_call (codeAny_mono (call w s₀ s₁ mg mb fa o pm cd doc a vs ns G Y ho (fd_plain hd) hcd hmg hobj hints hlen hw hg) fun r s' hq=>?_)
  obtain ⟨rfl,h2,h3,h4⟩:=hq
  exact ⟨.inl ⟨.bool true,.bool true,[],rfl,fun _=>rfl,.bool true,zP9 l _,fun _=>⟨List.Pairwise.nil,fun _ hm=>(nomatch hm)⟩⟩,h2,h3,h4⟩
end Att
namespace L2
open PySem PySem.Spec PyProof.Rows
theorem walk_ofW {l:PySem.W.OpenLaw} {n k:Nat} {q:Program} {loose:List Str} {XP:(Str→Option Value)→Heap→Prop} {YP:World→Heap→Prop} {d:DefRec} {K:Params→PySem.W.Frag} {CX:World→CXT} {sp:World→Sp} {x:Str}
    (hn:l.most = some n) (hn2:n≤sizeLine) (hdf:d.params.defaults = []) (hr:Room k callerA)
    (hY:∀ (w:World) (h:Heap),YP w h→(K w.params).In h)
    (F:∀ (w:World) (mg:Str→Option Value) (fa:Addr) (h:Heap),(K w.params).In h→h.Ns mainGlobals mg→mg d.name = some (.ref fa) →
      ∃ fd:FuncData,(∀ (s:Shared) (u:Value),BindsTo s fd ⟨[u],[]⟩ [(x,u)]) ∧
        ∀ base:Heap,(K w.params).In base→base.Ns mainGlobals mg→FnOk l.prog w (K w.params) mg base (CX w) k fa fd [x] (sp w))
    (hsp:∀ (w:World) (H:Hp) (a:Addr) (ns:List Int),ns.length≤n→(∀ i∈ns,i.natAbs.log2 < 2 ^ 20)→Only H→SqL (K w.params) H a (ns.map V.int)→sp w [.ref a] H (fun v _=>v = .bl true) fun _ _ _=>False)
    (hCX:∀ (w:World) (H:Hp) (s:Shared) (e:Value) (s':Shared),CX w [] H s (fun _ _ _=>False) e s'→False) :
    PySem.W.WalkO q loose XP YP l.row.toRowW d [] (fun f vs=>PySem.call f vs):=by
  refine Att.attach_callW hn hdf fun w s₀ s₁ mg mb fa o pm cd doc a vs ns G Y ho hd hcd hmg hobj hints hlen hw hg=>?_
  have KX:=hY w _ Y
  obtain ⟨fd,hb,hF⟩:=F w mg fa _ KX G.T.g hmg
  exact zRS KX G.T.g G.T.b G.T.builtins G.T.nolimit hg hobj hints (Nat.le_trans hlen hn2) hr hF hb (fun H hO hS=>hsp w H a ns hlen hw hO hS) fun H e s'=>hCX w H s₁ e s'
def MulOk (i j:Int):Prop:=((-(2 ^ 64) < i∧i < 2 ^ 64)∨(-(2 ^ 64) < j∧j < 2 ^ 64))∨i.natAbs.log2 + j.natAbs.log2≤67108864
theorem zQH (i:Int):Builtin.Int.intBits i≤i.natAbs.log2 + 1:=by
  unfold Builtin.Int.intBits
  split <;> omega
theorem MulOk.ok {i j:Int} (h:MulOk i j):IntMulOk i j:=by
  rcases h with h | h
  · exact CMul.ok h
  · unfold IntMulOk
    have h1:=zQH i
    have h2:=zQH j
    have h3:Builtin.Int.intTooBig ((Builtin.Int.intBits i:Int) + (Builtin.Int.intBits j:Int)) = false:=by
      unfold Builtin.Int.intTooBig
      have:(bitsLine:Int) = 134217728:=by decide
      rw [this]
      simp only [gt_iff_lt,decide_eq_false_iff_not,Int.not_lt]
      omega
    rw [h3,Bool.and_false]
    exact Bool.false_ne_true
section
variable {X:Cx}
noncomputable def zW4:R2:=fun x y H Q=>match x,y with
  | .int i,.int j=>MulOk i j∧Q (.int (i * j)) H
  | _,_=>False
theorem zUB:OpR X (binaryOp .Mult) (rI MulOk fun i j=>.int (i * j)):=opI fun _ _ _ _ _ _ _ hc q=>mul_int q hc.ok
theorem zGG:OpR X (binaryOp .Mult) zW4:=by
  intro pins s σ H x y v u Q I rx ry h
  cases x <;> cases y <;> first
    | exact zUB pins s σ H _ _ v u Q I rx ry ⟨_,_,rfl,rfl,h.1,h.2⟩
    | exact False.elim h
noncomputable def zW7:R2:=fun x y H Q=>match x,y with
  | .int i,.int j=>(0 < j∧j < 1000000000000000000000000)∧Q (.int (i / j)) H
  | _,_=>False
theorem log2_lt {n:Nat} (h:n < 1000000000000000000000000):n.log2 < 9000:=by
  by_cases z:n = 0
  · subst z; decide
  · have h2:n < 2 ^ 80:=by omega
    have:=(Nat.log2_lt z).mpr h2
    omega
theorem zUC:OpR X (binaryOp .FloorDiv) (rI (fun _ j=>0 < j∧j < 1000000000000000000000000) fun i j=>.int (i / j)):=opI fun i j _ _ _ _ _ hc q=>by
  have h1:(0:Int) < j:=hc.1
  have h2:j < 1000000000000000000000000:=hc.2
  exact floordiv_int (by omega) (by rw [Int.fdiv_eq_ediv_of_nonneg i (by omega)]; exact q) (.inl (PyProof.noPylong_of_log2 (log2_lt (by omega))))
theorem zD4:OpR X (binaryOp .FloorDiv) zW7:=by
  intro pins s σ H x y v u Q I rx ry h
  cases x <;> cases y <;> first
    | exact zUC pins s σ H _ _ v u Q I rx ry ⟨_,_,rfl,rfl,h.1,h.2⟩
    | exact False.elim h
end
end L2

namespace L3
open PySem PySem.Spec
open L2 hiding Rep RepL
open Mi (Dt Xn R okR zA3 optR zA0 zAA zAG zAB zAE Rh Sl Ro EM TM AM FM IM SM Tg Out zB3 zB0 zBB full frz frz1 frzAt)
class Kc where
  K:PySem.W.Frag
variable [Kc]
noncomputable def clK (K:PySem.W.Frag) (c:Str):Option Addr:=match PySem.W.nsIn K mainGlobals c with
  | some (some (.ref C))=>some C
  | _=>none
def SqR (K:PySem.W.Frag) (H:Hp) (a:Addr) (xs:List V):Prop:=SqL K H a xs∨SqT K H a xs
theorem zH5 {K:PySem.W.Frag} {H H':Hp} {a:Addr} {xs:List V} (e:Same H H') (h:SqT K H a xs):SqT K H' a xs:=by
  rcases h with (h | ⟨o,h⟩) | h
  · exact .inl (.inl (e _ _ h))
  · exact .inl (.inr ⟨o,e _ _ h⟩)
  · exact .inr h
theorem zFF {K:PySem.W.Frag} {H H':Hp} {a:Addr} {xs:List V} (e:Same H H') (h:SqR K H a xs):SqR K H' a xs:=h.imp (fun z=>e.seq z) fun z=>zH5 e z
noncomputable def svV:Mi.Sv→V
  | .i n=>.int n
  | .s x=>.str x
noncomputable def swV:Mi.Sw→V
  | .non=>.non
  | .bl b=>.bl b
  | .int i=>.int i
  | .str x=>.str x
mutual
def Rep (H:Hp):Dt→V→Prop
  | .non,v=>v = .non
  | .bl b,v=>v = .bl b
  | .int i,v=>v = .int i
  | .str x,v=>v = .str x
  | .lst ds,v=>∃ a xs,v = .ref a∧H a = some (.lst xs)∧RepL H ds xs
  | .tup ds,v=>∃ a xs,v = .ref a∧H a = some (.tup xs)∧RepL H ds xs
  | .scr ns,v=>∃ a,v = .ref a∧SqR Kc.K H a (ns.map V.int)
  | .exc c f d,v=>∃ e C da,v = .ref e∧isX H e C da∧clK Kc.K c = some C∧((da = none∧f = "")∨∃ a gs w,da = some a∧H a = some (.xd gs)∧gs.lookup f = some w∧Rep H d w)
  | .ins c fs,v=>∃ a C dx,v = .ref a∧clK Kc.K c = some C∧H a = some (.ins C dx (fs.map fun p=>(p.1,svV p.2)))
  | .dct kvs,v=>∃ a,v = .ref a∧H a = some (.dK (kvs.map fun p=>(p.1,swV p.2)))
def RepL (H:Hp):List Dt→List V→Prop
  | [],xs=>xs = []
  | d :: r,xs=>∃ x q,xs = x :: q∧Rep H d x∧RepL H r q
end
mutual
theorem Rep.mono {H H':Hp} (s:Same H H'):∀ {d:Dt} {v:V},Rep H d v→Rep H' d v
  | .non,_,h=>h
  | .bl _,_,h=>h
  | .int _,_,h=>h
  | .str _,_,h=>h
  | .lst _,_,h=>by obtain ⟨a,xs,e,e',r⟩:=h; exact ⟨a,xs,e,s _ _ e',RepL.mono s r⟩
  | .tup _,_,h=>by obtain ⟨a,xs,e,e',r⟩:=h; exact ⟨a,xs,e,s _ _ e',RepL.mono s r⟩
  | .scr _,_,h=>by obtain ⟨a,e,e'⟩:=h; exact ⟨a,e,zFF s e'⟩
  | .exc _ _ _,_,h=>by
    obtain ⟨a,C,da,e,e',hc,r⟩:=h
    refine ⟨a,C,da,e,e'.imp (fun z=>s _ _ z) fun z=>s _ _ z,hc,r.imp (fun z=>z) ?_⟩
    rintro ⟨b,gs,w,h1,h2,h3,h4⟩
    exact ⟨b,gs,w,h1,s _ _ h2,h3,Rep.mono s h4⟩
  | .ins _ _,_,h=>by obtain ⟨a,C,dx,e,hc,h1⟩:=h; exact ⟨a,C,dx,e,hc,s _ _ h1⟩
  | .dct _,_,h=>by obtain ⟨a,e,h1⟩:=h; exact ⟨a,e,s _ _ h1⟩
theorem RepL.mono {H H':Hp} (s:Same H H'):∀ {ds:List Dt} {xs:List V},RepL H ds xs→RepL H' ds xs
  | [],_,h=>h
  | _ :: _,_,h=>by obtain ⟨x,q,e,r,t⟩:=h; exact ⟨x,q,e,Rep.mono s r,RepL.mono s t⟩
end
theorem RepL.length {H:Hp}:∀ {ds:List Dt} {xs:List V},RepL H ds xs→xs.length = ds.length
  | [],_,h=>by cases h; rfl
  | _ :: _,_,h=>by obtain ⟨x,q,e,r,t⟩:=h; subst e; simp [RepL.length t]
mutual
def conv:Dt→L2.Dat
  | .non=>.non
  | .bl b=>.bl b
  | .int i=>.int i
  | .str x=>.str x
  | .lst ds=>.lst (zGC ds)
  | .tup ds=>.tup (zGC ds)
  | .scr _=>.non
  | .exc _ _ _=>.non
  | .ins _ _=>.non
  | .dct _=>.non
def zGC:List Dt→List L2.Dat
  | []=>[]
  | d :: r=>conv d :: zGC r
end
mutual
theorem zFV:∀ {d:Dt},d.dep≤40→(conv d).dep≤d.dep
  | .non,_=>Nat.le_refl _
  | .bl _,_=>Nat.le_refl _
  | .int _,_=>Nat.le_refl _
  | .str _,_=>Nat.le_refl _
  | .lst ds,h=>by rw [Dt.dep] at h ⊢; rw [conv,L2.Dat.dep]; have:=zHY (ds:=ds) (by omega); omega
  | .tup ds,h=>by rw [Dt.dep] at h ⊢; rw [conv,L2.Dat.dep]; have:=zHY (ds:=ds) (by omega); omega
  | .scr _,h=>by rw [Dt.dep] at h; omega
  | .exc _ _ _,h=>by rw [Dt.dep] at h; omega
  | .ins _ _,h=>by rw [Dt.dep] at h; omega
  | .dct _,h=>by rw [Dt.dep] at h; omega
theorem zHY:∀ {ds:List Dt},Dt.depL ds≤40→L2.Dat.depL (zGC ds)≤Dt.depL ds
  | [],_=>Nat.le_refl _
  | d :: r,h=>by
    rw [Dt.depL] at h ⊢
    rw [zGC,L2.Dat.depL]
    have h1:=zFV (d:=d) (by omega)
    have h2:=zHY (ds:=r) (by omega)
    omega
end
mutual
theorem zEQ {H:Hp}:∀ {d:Dt} {v:V},d.dep≤40→Rep H d v→L2.Rep H (conv d) v
  | .non,_,_,h=>h
  | .bl _,_,_,h=>h
  | .int _,_,_,h=>h
  | .str _,_,_,h=>h
  | .lst ds,_,hd,h=>by obtain ⟨a,xs,e,e',r⟩:=h; exact ⟨a,xs,e,e',zHX (by rw [Dt.dep] at hd; omega) r⟩
  | .tup ds,_,hd,h=>by obtain ⟨a,xs,e,e',r⟩:=h; exact ⟨a,xs,e,e',zHX (by rw [Dt.dep] at hd; omega) r⟩
  | .scr _,_,h,_=>by rw [Dt.dep] at h; omega
  | .exc _ _ _,_,h,_=>by rw [Dt.dep] at h; omega
  | .ins _ _,_,h,_=>by rw [Dt.dep] at h; omega
  | .dct _,_,h,_=>by rw [Dt.dep] at h; omega
theorem zHX {H:Hp}:∀ {ds:List Dt} {xs:List V},Dt.depL ds≤40→RepL H ds xs→L2.RepL H (zGC ds) xs
  | [],_,_,h=>h
  | d :: r,_,hd,h=>by
    rw [Dt.depL] at hd
    obtain ⟨x,q,e,a,b⟩:=h
    exact ⟨x,q,e,zEQ (by omega) a,zHX (by omega) b⟩
end
mutual
theorem zMD:∀ {d e:Dt},d.dep≤40→e.dep≤40→L2.Dat.eq (conv d) (conv e) = Dt.eq d e
  | .scr _,_,h,_=>by rw [Dt.dep] at h; omega
  | .exc _ _ _,_,h,_=>by rw [Dt.dep] at h; omega
  | .ins _ _,_,h,_=>by rw [Dt.dep] at h; omega
  | .dct _,_,h,_=>by rw [Dt.dep] at h; omega
  | .lst ds,e,h,h'=>by
    rw [Dt.dep] at h
    cases e with
    | lst es=>rw [Dt.dep] at h'; rw [conv,conv,L2.Dat.eq,Dt.eq]; exact zJT (by omega) (by omega)
    | scr _=>rw [Dt.dep] at h'; omega
    | exc _ _ _=>rw [Dt.dep] at h'; omega
    | ins _ _=>rw [Dt.dep] at h'; omega
    | dct _=>rw [Dt.dep] at h'; omega
    | _=>simp [conv,L2.Dat.eq,Dt.eq]
  | .tup ds,e,h,h'=>by
    rw [Dt.dep] at h
    cases e with
    | tup es=>rw [Dt.dep] at h'; rw [conv,conv,L2.Dat.eq,Dt.eq]; exact zJT (by omega) (by omega)
    | scr _=>rw [Dt.dep] at h'; omega
    | exc _ _ _=>rw [Dt.dep] at h'; omega
    | ins _ _=>rw [Dt.dep] at h'; omega
    | dct _=>rw [Dt.dep] at h'; omega
    | _=>simp [conv,L2.Dat.eq,Dt.eq]
  | .non,e,_,h'=>by
    cases e with
    | scr _=>rw [Dt.dep] at h'; omega
    | exc _ _ _=>rw [Dt.dep] at h'; omega
    | ins _ _=>rw [Dt.dep] at h'; omega
    | dct _=>rw [Dt.dep] at h'; omega
    | _=>simp [conv,L2.Dat.eq,Dt.eq]
  | .bl _,e,_,h'=>by
    cases e with
    | scr _=>rw [Dt.dep] at h'; omega
    | exc _ _ _=>rw [Dt.dep] at h'; omega
    | ins _ _=>rw [Dt.dep] at h'; omega
    | dct _=>rw [Dt.dep] at h'; omega
    | _=>simp [conv,L2.Dat.eq,Dt.eq]
  | .int _,e,_,h'=>by
    cases e with
    | scr _=>rw [Dt.dep] at h'; omega
    | exc _ _ _=>rw [Dt.dep] at h'; omega
    | ins _ _=>rw [Dt.dep] at h'; omega
    | dct _=>rw [Dt.dep] at h'; omega
    | _=>simp [conv,L2.Dat.eq,Dt.eq]
  | .str _,e,_,h'=>by
    cases e with
    | scr _=>rw [Dt.dep] at h'; omega
    | exc _ _ _=>rw [Dt.dep] at h'; omega
    | ins _ _=>rw [Dt.dep] at h'; omega
    | dct _=>rw [Dt.dep] at h'; omega
    | _=>simp [conv,L2.Dat.eq,Dt.eq]
theorem zJT:∀ {ds es:List Dt},Dt.depL ds≤40→Dt.depL es≤40→L2.Dat.eqL (zGC ds) (zGC es) = Dt.eqL ds es
  | [],[],_,_=>by simp [zGC,L2.Dat.eqL,Dt.eqL]
  | [],_ :: _,_,_=>by simp [zGC,L2.Dat.eqL,Dt.eqL]
  | _ :: _,[],_,_=>by simp [zGC,L2.Dat.eqL,Dt.eqL]
  | d :: r,e :: t,h,h'=>by
    rw [Dt.depL] at h h'
    rw [zGC,zGC,L2.Dat.eqL,Dt.eqL,zMD (by omega) (by omega),zJT (by omega) (by omega)]
end
theorem zCL {G:Hp}:∀ {ds:List Dt} {xs:List V} {q:Nat} {d:Dt} {x:V},RepL G ds xs→ds[q]? = some d→xs[q]? = some x→Rep G d x
  | [],_,_,_,_,_,h,_=>by simp at h
  | d :: r,xs,0,e,y,h,h1,h2=>by
    obtain ⟨x,t,rfl,a,b⟩:=h
    simp at h1 h2; subst h1; subst h2; exact a
  | d :: r,xs,q + 1,e,y,h,h1,h2=>by
    obtain ⟨x,t,rfl,a,b⟩:=h
    exact zCL b (by simpa using h1) (by simpa using h2)
theorem zG5 {G:Hp}:∀ {ds:List Dt} {xs:List V},xs.length = ds.length→(∀ (q:Nat) (d:Dt) (x:V),ds[q]? = some d→xs[q]? = some x→Rep G d x)→RepL G ds xs
  | [],[],_,_=>rfl
  | [],_ :: _,h,_=>by simp at h
  | _ :: _,[],h,_=>by simp at h
  | d :: r,x :: t,h,k=>⟨x,t,rfl,k 0 d x rfl rfl,zG5 (by simpa using h) fun q e y h1 h2=>k (q + 1) e y (by simpa using h1) (by simpa using h2)⟩
theorem zHW {n:Nat}:∀ {ds:List Dt},Dt.depL ds≤n→∀ {q:Nat} {d:Dt},ds[q]? = some d→d.dep≤n
  | [],_,_,_,h=>by simp at h
  | e :: r,h,0,d,h1=>by simp at h1; subst h1; rw [Dt.depL] at h; omega
  | e :: r,h,q + 1,d,h1=>by rw [Dt.depL] at h; exact zHW (ds:=r) (by omega) (q:=q) (by simpa using h1)
theorem Rep.scalar {G G2:Hp} {d:Dt} {v:V} (h:Rep G d v) (hd:d.dep = 0):Rep G2 d v:=by
  cases d with
  | lst ds=>rw [Dt.dep] at hd; omega
  | tup ds=>rw [Dt.dep] at hd; omega
  | scr ns=>rw [Dt.dep] at hd; omega
  | exc _ _ _=>rw [Dt.dep] at hd; omega
  | ins _ _=>rw [Dt.dep] at hd; omega
  | dct _=>rw [Dt.dep] at hd; omega
  | _=>exact h
structure Kids (P:(Addr→Prop)→Dt→V→Prop) (S:Addr→Prop) (a:Addr) (ds:List Dt) (xs:List V) (T:Nat→Addr→Prop):Prop where
  len:xs.length = ds.length
  own:∀ (q:Nat) (d:Dt) (x:V),ds[q]? = some d→xs[q]? = some x→P (T q) d x
  top:S a
  out:∀ q,¬ T q a
  dis:∀ q r b,T q b→T r b→q = r
  sub:∀ q b,T q b→S b
def Own (G H:Hp):Nat→(Addr→Prop)→Dt→V→Prop
  | 0,_,d,v=>Rep G d v
  | n + 1,S,d,v=>match d with
    | .lst ds=>∃ a xs T,v = .ref a∧H a = some (.lst xs)∧Kids (Own G H n) S a ds xs T
    | .tup ds=>∃ a xs T,v = .ref a∧H a = some (.tup xs)∧Kids (Own G H n) S a ds xs T
    | .dct kvs=>∃ a,v = .ref a∧H a = some (.dK (kvs.map fun p=>(p.1,swV p.2)))∧S a
    | d=>Rep G d v
theorem Kids.imp {P P':(Addr→Prop)→Dt→V→Prop} {S S':Addr→Prop} {a:Addr} {ds:List Dt} {xs:List V} {T:Nat→Addr→Prop} (k:Kids P S a ds xs T)
    (h:∀ q d x,ds[q]? = some d→P (T q) d x→P' (T q) d x) (hs:∀ b,S b→S' b):Kids P' S' a ds xs T :=
  ⟨k.len,fun q d x h1 h2=>h q d x h1 (k.own q d x h1 h2),hs _ k.top,k.out,k.dis,fun q b t=>hs _ (k.sub q b t)⟩
theorem Own.mono {G G' H H':Hp} (sG:Same G G') (sH:Same H H'):∀ {n:Nat} {S:Addr→Prop} {d:Dt} {v:V},Own G H n S d v→Own G' H' n S d v
  | 0,S,d,v,h=>Rep.mono sG h
  | n + 1,S,d,v,h=>by
    cases d with
    | lst ds=>obtain ⟨a,xs,T,e,ha,k⟩:=h; exact ⟨a,xs,T,e,sH _ _ ha,k.imp (fun _ _ _ _ p=>Own.mono sG sH p) fun _ z=>z⟩
    | tup ds=>obtain ⟨a,xs,T,e,ha,k⟩:=h; exact ⟨a,xs,T,e,sH _ _ ha,k.imp (fun _ _ _ _ p=>Own.mono sG sH p) fun _ z=>z⟩
    | dct kvs=>obtain ⟨a,e,ha,hs⟩:=h; exact ⟨a,e,sH _ _ ha,hs⟩
    | _=>exact Rep.mono sG h
theorem Own.sub {G H:Hp} {n:Nat} {S S':Addr→Prop} {d:Dt} {v:V} (h:Own G H n S d v) (hs:∀ b,S b→S' b):Own G H n S' d v:=by
  cases n with
  | zero=>exact h
  | succ n =>
    cases d with
    | lst ds=>obtain ⟨a,xs,T,e,ha,k⟩:=h; exact ⟨a,xs,T,e,ha,k.imp (fun _ _ _ _ p=>p) hs⟩
    | tup ds=>obtain ⟨a,xs,T,e,ha,k⟩:=h; exact ⟨a,xs,T,e,ha,k.imp (fun _ _ _ _ p=>p) hs⟩
    | dct kvs=>obtain ⟨a,e,ha,h2⟩:=h; exact ⟨a,e,ha,hs _ h2⟩
    | _=>exact h
theorem Own.rep {G H J:Hp} (sG:Same G J):∀ {n:Nat} {S:Addr→Prop} {d:Dt} {v:V},Own G H n S d v→(∀ a o,S a→H a = some o→J a = some o)→Rep J d v
  | 0,S,d,v,h,_=>Rep.mono sG h
  | n + 1,S,d,v,h,hj=>by
    cases d with
    | lst ds=>obtain ⟨a,xs,T,e,ha,k⟩:=h; exact ⟨a,xs,e,hj _ _ k.top ha,zG5 k.len fun q d x h1 h2=>Own.rep sG (k.own q d x h1 h2) fun b o t hb=>hj b o (k.sub q b t) hb⟩
    | tup ds=>obtain ⟨a,xs,T,e,ha,k⟩:=h; exact ⟨a,xs,e,hj _ _ k.top ha,zG5 k.len fun q d x h1 h2=>Own.rep sG (k.own q d x h1 h2) fun b o t hb=>hj b o (k.sub q b t) hb⟩
    | dct kvs=>obtain ⟨a,e,ha,hs⟩:=h; exact ⟨a,e,hj _ _ hs ha⟩
    | _=>exact Rep.mono sG h
theorem Own.at {G G2 H:Hp}:∀ {n k:Nat} {S:Addr→Prop} {d:Dt} {v:V},Own G H n S d v→d.dep≤n→d.dep≤k→n < 1000→Own G2 H k S d v
  | n,k,S,d,v,h,hn,hk,hz=>by
    cases d with
    | lst ds =>
      rw [Dt.dep] at hn hk
      cases n with
      | zero=>omega
      | succ n =>
        cases k with
        | zero=>omega
        | succ k =>
          obtain ⟨a,xs,T,e,ha,kd⟩:=h
          refine ⟨a,xs,T,e,ha,kd.imp (fun q d x h1 p=>?_) fun _ z=>z⟩
          exact Own.at p (zHW (by omega) h1) (zHW (by omega) h1) (by omega)
    | tup ds =>
      rw [Dt.dep] at hn hk
      cases n with
      | zero=>omega
      | succ n =>
        cases k with
        | zero=>omega
        | succ k =>
          obtain ⟨a,xs,T,e,ha,kd⟩:=h
          refine ⟨a,xs,T,e,ha,kd.imp (fun q d x h1 p=>?_) fun _ z=>z⟩
          exact Own.at p (zHW (by omega) h1) (zHW (by omega) h1) (by omega)
    | non=>cases n <;> cases k <;> exact h
    | bl b=>cases n <;> cases k <;> exact h
    | int i=>cases n <;> cases k <;> exact h
    | str x=>cases n <;> cases k <;> exact h
    | scr ns=>rw [Dt.dep] at hn; omega
    | exc _ _ _=>rw [Dt.dep] at hn; omega
    | ins _ _=>rw [Dt.dep] at hn; omega
    | dct _=>rw [Dt.dep] at hn; omega
termination_by n=>n
theorem Own.scalar {G H G2 H2:Hp} {n k:Nat} {S S2:Addr→Prop} {d:Dt} {v:V} (h:Own G H n S d v) (hd:d.dep = 0):Own G2 H2 k S2 d v:=by
  cases d with
  | lst ds=>rw [Dt.dep] at hd; omega
  | tup ds=>rw [Dt.dep] at hd; omega
  | non=>cases n <;> cases k <;> exact h
  | bl b=>cases n <;> cases k <;> exact h
  | int i=>cases n <;> cases k <;> exact h
  | str x=>cases n <;> cases k <;> exact h
  | scr ns=>rw [Dt.dep] at hd; omega
  | exc _ _ _=>rw [Dt.dep] at hd; omega
  | ins _ _=>rw [Dt.dep] at hd; omega
  | dct _=>rw [Dt.dep] at hd; omega
theorem zSY {G H:Hp} {n:Nat} {S:Addr→Prop} {d:Dt} {v:V} (h:Rep G d v) (hd:d.dep = 0):Own G H n S d v:=Own.scalar (n:=0) (G:=G) (H:=H) (S:=S) h hd
theorem Own.upd {G H:Hp} {p:Addr} {o:HO}:∀ {n:Nat} {S:Addr→Prop} {d:Dt} {v:V},Own G H n S d v→¬ S p→Own G (upd H p o) n S d v
  | 0,S,d,v,h,_=>h
  | n + 1,S,d,v,h,hp=>by
    cases d with
    | lst ds =>
      obtain ⟨a,xs,T,e,ha,k⟩:=h
      have hap:a≠p:=fun z=>hp (z ▸ k.top)
      exact ⟨a,xs,T,e,(zAO hap).trans ha,k.imp (fun q _ _ _ w=>Own.upd w fun z=>hp (k.sub q _ z)) fun _ z=>z⟩
    | tup ds =>
      obtain ⟨a,xs,T,e,ha,k⟩:=h
      have hap:a≠p:=fun z=>hp (z ▸ k.top)
      exact ⟨a,xs,T,e,(zAO hap).trans ha,k.imp (fun q _ _ _ w=>Own.upd w fun z=>hp (k.sub q _ z)) fun _ z=>z⟩
    | dct kvs =>
      obtain ⟨a,e,ha,hs⟩:=h
      have hap:a≠p:=fun z=>hp (z ▸ hs)
      exact ⟨a,e,(zAO hap).trans ha,hs⟩
    | _=>exact h
structure Ext (G H G' H':Hp):Prop where
  g:Same G G'
  h:Same H H'
  in':Same G' H'
  old:∀ b,H b≠none→G' b = G b
theorem Ext.refl {G H:Hp} (s:Same G H):Ext G H G H:=⟨Same.refl _,Same.refl _,s,fun _ _=>rfl⟩
theorem _root_.L2.Same.some {H H':Hp} (s:Same H H') {b:Addr} (h:H b≠Option.none):H' b≠Option.none:=by
  cases e:H b with
  | none=>exact absurd e h
  | some o=>rw [s _ _ e]; simp
theorem Ext.trans {G H G1 H1 G2 H2:Hp} (a:Ext G H G1 H1) (b:Ext G1 H1 G2 H2):Ext G H G2 H2 :=
  ⟨a.g.trans b.g,a.h.trans b.h,b.in',fun c hc=>(b.old c (a.h.some hc)).trans (a.old c hc)⟩
structure Fr (G H G' H':Hp) (S:Addr→Prop):Prop where
  ext:Ext G H G' H'
  new:∀ a,S a→H a = none∧G' a = none∧H' a≠none
open Classical in
noncomputable def over (G H:Hp) (S:Addr→Prop):Hp:=fun b=>if S b then H b else G b
theorem zF8 {G H:Hp} {S:Addr→Prop} {a:Addr} (h:S a):over G H S a = H a:=by unfold over; rw [if_pos h]
theorem zCN {G H:Hp} {S:Addr→Prop} {a:Addr} (h:¬ S a):over G H S a = G a:=by unfold over; rw [if_neg h]
theorem zEC {G H:Hp} {S:Addr→Prop} (s:Same G H):Same G (over G H S)∧Same (over G H S) H:=by
  constructor
  · intro b o e
    by_cases z:S b
    · rw [zF8 z]; exact s _ _ e
    · rw [zCN z]; exact e
  · intro b o e
    by_cases z:S b
    · rw [zF8 z] at e; exact e
    · rw [zCN z] at e; exact s _ _ e
theorem Fr.frz {G H G' H':Hp} {S:Addr→Prop} {n:Nat} {d:Dt} {v:V} (f:Fr G H G' H' S) (o:Own G' H' n S d v):Ext G H (over G' H' S) H'∧Rep (over G' H' S) d v:=by
  obtain ⟨s1,s2⟩:=zEC (S:=S) f.ext.in'
  refine ⟨⟨f.ext.g.trans s1,f.ext.h,s2,fun b hb=>?_⟩,o.rep s1 fun a u ha e=>by rw [zF8 ha]; exact e⟩
  have z:¬ S b:=fun z=>hb (f.new b z).1
  rw [zCN z]; exact f.ext.old b hb
structure View (G:Hp) (σ:St) (ρ:Rh):Prop where
  len:ρ.length = σ.length
  «at»:∀ (i:Nat) (d:Dt),ρ[i]? = some (some d)→∃ v,σ[i]? = some (some v)∧Rep G d v
theorem View.mono {G G':Hp} {σ:St} {ρ:Rh} (s:Same G G') (h:View G σ ρ):View G' σ ρ:=⟨h.len,fun i d e=>let ⟨v,a,b⟩:=h.at i d e; ⟨v,a,Rep.mono s b⟩⟩
def XRep (mg:Str→Option Value) (x:Xn) (c:Value) (da:Option Addr) (G H:Hp):Prop :=
  ∃ e C,c = .ref e∧G e = some (xo e (.ref C) da)∧clK Kc.K x.cls = some C∧((da = none∧x.f = "")∨∃ a gs w,da = some a∧G a = some (.xd gs)∧gs.lookup x.f = some w∧Rep G x.d w)
def PostE (mg:Str→Option Value) (E:XK) (G H:Hp) (n:Nat) (r:R Dt) (Q:VK):Prop:=match r with
  | none=>False
  | some (.error x)=>∀ c da G' H',Ext G H G' H'→XRep mg x c da G' H'→E c da H'
  | some (.ok d)=>∀ v G' H' S,Fr G H G' H' S→Own G' H' n S d v→Q v H'
def PostT (mg:Str→Option Value) (E:XK) (G H:Hp) (r:R Bool) (Q:Bool→Hp→Prop):Prop:=match r with
  | none=>False
  | some (.error x)=>∀ c da G' H',Ext G H G' H'→XRep mg x c da G' H'→E c da H'
  | some (.ok b)=>∀ H',Same H H'→Q b H'
structure OwnA (G H:Hp) (n:Nat) (S:Addr→Prop) (ds:List Dt) (xs:List V) (T:Nat→Addr→Prop):Prop where
  len:xs.length = ds.length
  own:∀ (q:Nat) (d:Dt) (x:V),ds[q]? = some d→xs[q]? = some x→Own G H n (T q) d x
  dis:∀ q r b,T q b→T r b→q = r
  sub:∀ q b,T q b→S b
def zXU (mg:Str→Option Value) (E:XK) (G H:Hp) (n:Nat) (r:R (List Dt)) (Q:List V→Hp→Prop):Prop:=match r with
  | none=>False
  | some (.error x)=>∀ c da G' H',Ext G H G' H'→XRep mg x c da G' H'→E c da H'
  | some (.ok ds)=>∀ vs G' H' S T,Fr G H G' H' S→OwnA G' H' n S ds vs T→Q vs H'
def DE (mg:Str→Option Value) (E:XK) (t:TE) (m:EM) (n:Nat):Prop:=∀ (G H:Hp) (σ:St) (ρ:Rh) (Q:VK),Same G H→View G σ ρ→PostE mg E G H n (m ρ) Q→t σ H Q
def DT (mg:Str→Option Value) (E:XK) (t:TT) (m:TM):Prop:=∀ (G H:Hp) (σ:St) (ρ:Rh) (Q:Bool→Hp→Prop),Same G H→View G σ ρ→PostT mg E G H (m ρ) Q→t σ H Q
def DA (mg:Str→Option Value) (E:XK) (t:TA) (m:AM) (n:Nat):Prop:=∀ (G H:Hp) (σ:St) (ρ:Rh) (Q:List V→Hp→Prop),Same G H→View G σ ρ→zXU mg E G H n (m ρ) Q→t σ H Q
structure Err (mg:Str→Option Value) (E:XK) (G H:Hp) {β:Type} (P:R β→Prop):Prop where
  no:P none→False
  er:∀ x,P (some (.error x))→∀ c da G' H',Ext G H G' H'→XRep mg x c da G' H'→E c da H'
theorem Ext.same {G H H':Hp} (s:Same G H) (h:Same H H'):Ext G H G H':=⟨Same.refl _,h,s.trans h,fun _ _=>rfl⟩
theorem Err.from {mg:Str→Option Value} {E:XK} {G H G' H':Hp} {β:Type} {P:R β→Prop} (e:Err mg E G H P) (x:Ext G H G' H'):Err mg E G' H' P:=⟨e.no,fun y p c da G2 H2 z w=>e.er y p c da G2 H2 (x.trans z) w⟩
section
variable {mg:Str→Option Value} {E:XK} {n:Nat}
theorem errE {G H:Hp} {Q:VK}:Err mg E G H (fun r=>PostE mg E G H n r Q):=⟨fun h=>h,fun _ h=>h⟩
theorem errT {G H:Hp} {Q:Bool→Hp→Prop}:Err mg E G H (fun r=>PostT mg E G H r Q):=⟨fun h=>h,fun _ h=>h⟩
theorem errA {G H:Hp} {Q:List V→Hp→Prop}:Err mg E G H (fun r=>zXU mg E G H n r Q):=⟨fun h=>h,fun _ h=>h⟩
theorem DE.step {β:Type} {t:TE} {m:EM} (D:DE mg E t m n) {G H:Hp} {σ:St} {ρ:Rh} {Q:VK} {P:R β→Prop} {f:Dt→R β} (hE:Err mg E G H P) (s:Same G H) (w:View G σ ρ) (p:P (zA3 (m ρ) f))
    (h:∀ d v G' H' S,m ρ = okR d→Fr G H G' H' S→Own G' H' n S d v→P (f d)→Q v H'):t σ H Q:=by
  refine D G H σ ρ Q s w ?_
  cases e:m ρ with
  | none=>rw [e] at p; exact hE.no p
  | some r =>
    rw [e] at p
    cases r with
    | error x=>exact hE.er x p
    | ok d=>exact fun v G' H' S fr o=>h d v G' H' S e fr o p
theorem DT.step {β:Type} {t:TT} {m:TM} (D:DT mg E t m) {G H:Hp} {σ:St} {ρ:Rh} {Q:Bool→Hp→Prop} {P:R β→Prop} {f:Bool→R β} (hE:Err mg E G H P) (s:Same G H) (w:View G σ ρ) (p:P (zA3 (m ρ) f))
    (h:∀ b H',m ρ = okR b→Same H H'→P (f b)→Q b H'):t σ H Q:=by
  refine D G H σ ρ Q s w ?_
  cases e:m ρ with
  | none=>rw [e] at p; exact hE.no p
  | some r =>
    rw [e] at p
    cases r with
    | error x=>exact hE.er x p
    | ok b=>exact fun H' sH=>h b H' e sH p
theorem DA.step {β:Type} {t:TA} {m:AM} (D:DA mg E t m n) {G H:Hp} {σ:St} {ρ:Rh} {Q:List V→Hp→Prop} {P:R β→Prop} {f:List Dt→R β} (hE:Err mg E G H P) (s:Same G H) (w:View G σ ρ) (p:P (zA3 (m ρ) f))
    (h:∀ ds vs G' H' S T,m ρ = okR ds→Fr G H G' H' S→OwnA G' H' n S ds vs T→P (f ds)→Q vs H'):t σ H Q:=by
  refine D G H σ ρ Q s w ?_
  cases e:m ρ with
  | none=>rw [e] at p; exact hE.no p
  | some r =>
    rw [e] at p
    cases r with
    | error x=>exact hE.er x p
    | ok ds=>exact fun vs G' H' S T fr o=>h ds vs G' H' S T e fr o p
theorem PostE.from {G H G' H':Hp} {Q:VK} {r:R Dt} (p:PostE mg E G H n r Q) (x:Ext G H G' H'):PostE mg E G' H' n r Q:=by
  cases r with
  | none=>exact p
  | some r =>
    cases r with
    | error y=>exact fun c da G2 H2 z w=>p c da G2 H2 (x.trans z) w
    | ok d =>
      exact fun v G2 H2 S fr o=>p v G2 H2 S ⟨x.trans fr.ext,fun a ha=>⟨x.h.free (fr.new a ha).1,(fr.new a ha).2⟩⟩ o
theorem PostT.from {G H G' H':Hp} {Q:Bool→Hp→Prop} {r:R Bool} (p:PostT mg E G H r Q) (x:Ext G H G' H'):PostT mg E G' H' r Q:=by
  cases r with
  | none=>exact p
  | some r =>
    cases r with
    | error y=>exact fun c da G2 H2 z w=>p c da G2 H2 (x.trans z) w
    | ok d=>exact fun H2 s=>p H2 (x.h.trans s)
theorem Fr.from {G H G1 H1 G2 H2:Hp} {S:Addr→Prop} (x:Ext G H G1 H1) (f:Fr G1 H1 G2 H2 S):Fr G H G2 H2 S:=⟨x.trans f.ext,fun a ha=>⟨x.h.free (f.new a ha).1,(f.new a ha).2⟩⟩
theorem PostE.val {G H G' H':Hp} {d:Dt} {v:V} {Q:VK} (p:PostE mg E G H n (okR d) Q) (x:Ext G H G' H') (hd:d.dep = 0) (h:Rep G' d v):Q v H' :=
  p v G' H' (fun _=>False) ⟨x,fun _ z=>z.elim⟩ (zSY h hd)
theorem PostE.kept {G H G' H':Hp} {d:Dt} {v:V} {Q:VK} (p:PostE mg E G H 0 (okR d) Q) (x:Ext G H G' H') (h:Rep G' d v):Q v H' :=
  p v G' H' (fun _=>False) ⟨x,fun _ z=>z.elim⟩ h
theorem zAS {t:TE} {m:EM} {n:Nat} (D:DE mg E t m n):DE mg E t m 0:=by
  intro G H σ ρ Q s w p
  refine D G H σ ρ Q s w ?_
  cases e:m ρ with
  | none=>rw [e] at p; exact p
  | some r =>
    rw [e] at p
    cases r with
    | error x=>exact p
    | ok d =>
      intro v G' H' S fr o
      obtain ⟨x,r⟩:=fr.frz o
      exact PostE.kept p x r
end
end L3

namespace L3
open PySem PySem.Spec
open L2 hiding Rep RepL
open Mi (Dt Xn R okR zA3 optR zA0 zAA zAG zAB zAE Rh Sl Ro EM TM AM FM IM SM Tg Out zB3 zB0 zBB full frz frz1 frzAt)
section
variable [Kc] {mg:Str→Option Value} {E:XK} {n k l:Nat} {ta tb tc:TE} {ma mb mc:EM}
theorem zA8 {i:Int}:DE mg E (tC (.int i)) (Mi.eC (.int i)) n:=fun G H σ ρ Q s w p=>PostE.val p (Ext.refl s) rfl rfl
theorem zO8 {b:Bool}:DE mg E (tC (.bl b)) (Mi.eC (.bl b)) n:=fun G H σ ρ Q s w p=>PostE.val p (Ext.refl s) rfl rfl
theorem zQA:DE mg E (tC .non) (Mi.eC .non) n:=fun G H σ ρ Q s w p=>PostE.val p (Ext.refl s) rfl rfl
theorem zT8 {x:Str}:DE mg E (tC (.str x)) (Mi.eC (.str x)) n:=fun G H σ ρ Q s w p=>PostE.val p (Ext.refl s) rfl rfl
theorem de_v (i:Nat):DE mg E (vM i) (Mi.eV i) 0:=by
  intro G H σ ρ Q s w p
  unfold Mi.eV at p
  cases e:ρ[i]? with
  | none=>rw [e] at p; exact p.elim
  | some o =>
    rw [e] at p
    cases o with
    | none=>exact p.elim
    | some d =>
      obtain ⟨v,h1,h2⟩:=w.at i d e
      unfold vM
      rw [h1]
      exact PostE.kept p (Ext.refl s) h2
def ROp (r:R2) (f:Dt→Dt→Option Dt) (n:Nat):Prop:=∀ (mg:Str→Option Value) (E:XK) (G H:Hp) (d e:Dt) (x y:V) (Q:VK),Same G H→Rep G d x→Rep G e y→PostE mg E G H n (optR (f d e)) Q→r x y H Q
theorem zA9 {r:R2} {f:Dt→Dt→Option Dt} (hr:ROp r f n) (A:DE mg E ta ma k) (B:DE mg E tb mb l):DE mg E (tOp r ta tb) (Mi.eB f ma mb) n:=by
  intro G H σ ρ Q s w p
  refine (zAS A).step errE s w p fun d v G1 H1 S _ fr o p1=>?_
  refine (zAS B).step (errE.from fr.ext) fr.ext.in' (w.mono fr.ext.g) p1 fun e u G2 H2 S2 _ fr2 o2 p2=>?_
  exact hr mg E G2 H2 d e v u Q fr2.ext.in' (Rep.mono fr2.ext.g o) o2 (PostE.from p2 (fr.ext.trans fr2.ext))
def ROp1 (r:V→Hp→VK→Prop) (f:Dt→Option Dt) (n:Nat):Prop:=∀ (mg:Str→Option Value) (E:XK) (G H:Hp) (d:Dt) (x:V) (Q:VK),Same G H→Rep G d x→PostE mg E G H n (optR (f d)) Q→r x H Q
theorem zYS {r:V→Hp→VK→Prop} {f:Dt→Option Dt} (hr:ROp1 r f n) (A:DE mg E ta ma k):DE mg E (tUn r ta) (Mi.eU f ma) n:=by
  intro G H σ ρ Q s w p
  refine (zAS A).step errE s w p fun d v G1 H1 S _ fr o p1=>?_
  exact hr mg E G1 H1 d v Q fr.ext.in' o (PostE.from p1 fr.ext)
theorem zNC (A:DE mg E ta ma k) (B:DE mg E tb mb n):DE mg E (fun σ H Q=>ta σ H fun x H1=>match x with | .bl c=>if c = true then tb σ H1 Q else Q (.bl false) H1 | _=>False) (Mi.eAnd ma mb) n:=by
  intro G H σ ρ Q s w p
  refine (zAS A).step errE s w p fun d v G1 H1 S _ fr o p1=>?_
  cases d with
  | bl b =>
    cases (show v = .bl b from o)
    cases b with
    | true=>exact B G1 H1 σ ρ Q fr.ext.in' (w.mono fr.ext.g) (PostE.from p1 fr.ext)
    | false=>exact PostE.val (PostE.from p1 fr.ext) (Ext.refl fr.ext.in') rfl rfl
  | _=>exact p1.elim
theorem zT9 (A:DE mg E ta ma k):DE mg E (fun σ H Q=>ta σ H fun x H1=>match x with | .bl c=>Q (.bl (!c)) H1 | _=>False) (Mi.eNot ma) n:=by
  intro G H σ ρ Q s w p
  refine (zAS A).step errE s w p fun d v G1 H1 S _ fr o p1=>?_
  cases d with
  | bl b =>
    cases (show v = .bl b from o)
    exact PostE.val (PostE.from p1 fr.ext) (Ext.refl fr.ext.in') rfl rfl
  | _=>exact p1.elim
theorem zNB {tA:TT} {c:TM} (C:DT mg E tA c) (A:DE mg E ta ma n) (B:DE mg E tb mb n):DE mg E (tIf tA ta tb) (Mi.eIf c ma mb) n:=by
  intro G H σ ρ Q s w p
  refine C.step errE s w p fun b H' _ sH p1=>?_
  have p2:=PostE.from p1 (Ext.same s sH)
  cases b with
  | true=>exact A G H' σ ρ Q (s.trans sH) w p2
  | false=>exact B G H' σ ρ Q (s.trans sH) w p2
theorem dt_b (A:DE mg E ta ma k):DT mg E (fun σ H Q=>ta σ H fun z H3=>match z with | .bl k=>Q k H3 | _=>False) (Mi.tB ma):=by
  intro G H σ ρ Q s w p
  refine (zAS A).step errT s w p fun d v G1 H1 S _ fr o p1=>?_
  cases d with
  | bl b =>
    cases (show v = .bl b from o)
    exact p1 H1 fr.ext.h
  | _=>exact p1.elim
theorem dt_m (A:DE mg E ta ma k):DT mg E (bM ta) (Mi.tM ma):=by
  intro G H σ ρ Q s w p
  refine (zAS A).step errT s w p fun d v G1 H1 S _ fr o p1=>?_
  cases d with
  | bl b=>cases (show v = .bl b from o); exact p1 H1 fr.ext.h
  | int b=>cases (show v = .int b from o); exact p1 H1 fr.ext.h
  | non=>cases (show v = .non from o); exact p1 H1 fr.ext.h
  | _=>exact p1.elim
variable {tA tB:TT} {cA cB:TM}
theorem zQ4 (A:DT mg E tA cA) (B:DT mg E tB cB):DT mg E (L2.tAnd tA tB) (Mi.tAn cA cB):=by
  intro G H σ ρ Q s w p
  refine A.step errT s w p fun b H' _ sH p1=>?_
  cases b with
  | true=>exact B G H' σ ρ Q (s.trans sH) w (PostT.from p1 (Ext.same s sH))
  | false=>exact p1 H' sH
theorem zQ3 (A:DT mg E tA cA) (B:DT mg E tB cB):DT mg E (L2.tOr tA tB) (Mi.tOr cA cB):=by
  intro G H σ ρ Q s w p
  refine A.step errT s w p fun b H' _ sH p1=>?_
  cases b with
  | false=>exact B G H' σ ρ Q (s.trans sH) w (PostT.from p1 (Ext.same s sH))
  | true=>exact p1 H' sH
theorem zHS (A:DT mg E tA cA):DT mg E (L2.tNot tA) (Mi.tNo cA):=by
  intro G H σ ρ Q s w p
  exact A.step errT s w p fun b H' _ sH p1=>p1 H' sH
theorem zC0:DT mg E L2.tYes Mi.tYes:=fun G H σ ρ Q s w p=>p H (Same.refl _)
variable {t:TA} {m:AM}
theorem zA6:DA mg E tNil Mi.aNil n:=fun G H σ ρ Q s w p=>p [] G H (fun _=>False) (fun _ _=>False) ⟨Ext.refl s,fun _ z=>z.elim⟩ ⟨rfl,fun q d x h=>by simp at h,fun _ _ _ z=>z.elim,fun _ _ z=>z.elim⟩
theorem zA2 (A:DE mg E ta ma n) (B:DA mg E t m n):DA mg E (zI9 ta t) (Mi.aCons ma m) n:=by
  intro G H σ ρ Q s w p
  refine A.step errA s w p fun d v G1 H1 S1 _ fr o p1=>?_
  refine B.step (errA.from fr.ext) fr.ext.in' (w.mono fr.ext.g) p1 fun ds vs G2 H2 S2 T2 _ fr2 o2 p2=>?_
  refine p2 (v :: vs) G2 H2 (fun a=>S1 a∨S2 a) (fun q=>match q with | 0=>S1 | q + 1=>T2 q) ⟨fr.ext.trans fr2.ext,fun a ha=>?_⟩ ⟨by simp [o2.len],fun q d' x h1 h2=>?_,fun q r b h1 h2=>?_,fun q b h=>?_⟩
  · rcases ha with ha | ha
    · obtain ⟨n1,n2,n3⟩:=fr.new a ha
      exact ⟨n1,(fr2.ext.old a n3).trans n2,fr2.ext.h.some n3⟩
    · obtain ⟨n1,n2,n3⟩:=fr2.new a ha
      exact ⟨fr.ext.h.free n1,n2,n3⟩
  · cases q with
    | zero=>simp at h1 h2; subst h1; subst h2; exact o.mono fr2.ext.g fr2.ext.h
    | succ q=>exact o2.own q d' x (by simpa using h1) (by simpa using h2)
  · have ap:∀ r b,S1 b→T2 r b→False:=fun r b h1 h2=>(fr.new b h1).2.2 (fr2.new b (o2.sub r b h2)).1
    cases q with
    | zero =>
      cases r with
      | zero=>rfl
      | succ r=>exact (ap r b h1 h2).elim
    | succ q =>
      cases r with
      | zero=>exact (ap q b h2 h1).elim
      | succ r=>rw [o2.dis q r b h1 h2]
  · cases q with
    | zero=>exact .inl h
    | succ q=>exact .inr (o2.sub q b h)
theorem OwnA.repL {G H:Hp} {S:Addr→Prop} {ds:List Dt} {vs:List V} {T:Nat→Addr→Prop} (o:OwnA G H 0 S ds vs T):RepL G ds vs:=zG5 o.len fun q d x h1 h2=>o.own q d x h1 h2
theorem big' {n:Nat} (h:n≤100000):n≤sizeLine:=Nat.le_of_lt (L2.big h)
theorem Fr.add {G H G' H':Hp} {S:Addr→Prop} (f:Fr G H G' H' S) {p:Addr} (hp:H' p = none) (o:HO):Fr G H G' (upd H' p o) (fun a=>a = p∨S a):=by
  have sn:=L2.same_new hp o
  refine ⟨⟨f.ext.g,f.ext.h.trans sn,f.ext.in'.trans sn,f.ext.old⟩,fun a ha=>?_⟩
  rcases ha with rfl | ha
  · exact ⟨f.ext.h.free hp,f.ext.in'.free hp,by rw [zAP]; simp⟩
  · obtain ⟨n1,n2,n3⟩:=f.new a ha
    exact ⟨n1,n2,sn.some n3⟩
theorem OwnA.kids {G' H':Hp} {S:Addr→Prop} {ds:List Dt} {vs:List V} {T:Nat→Addr→Prop} (o:OwnA G' H' n S ds vs T) (hn:∀ a,S a→H' a≠none) {p:Addr} (hp:H' p = none) (ob:HO) :
    Kids (Own G' (upd H' p ob) n) (fun a=>a = p∨S a) p ds vs T :=
  ⟨o.len,fun q d x h1 h2=>(o.own q d x h1 h2).mono (Same.refl _) (L2.same_new hp ob),.inl rfl,fun q z=>hn p (o.sub q p z) hp,o.dis,fun q b z=>.inr (o.sub q b z)⟩
theorem zEH (A:DA mg E t m n):DE mg E (tLst t) (Mi.eLst m) (n + 1):=by
  intro G H σ ρ Q s w p
  refine A.step errE s w p fun ds vs G1 H1 S T _ fr o p1=>?_
  by_cases hz:ds.length≤100000
  · rw [if_pos hz] at p1
    refine ⟨by rw [o.len]; exact big' hz,fun a ha=>?_⟩
    exact p1 (.ref a) G1 _ _ (fr.add ha _) ⟨a,vs,T,rfl,zAP,o.kids (fun b hb=>(fr.new b hb).2.2) ha _⟩
  · rw [if_neg hz] at p1; exact p1.elim
theorem zXL (A:DA mg E t m n):DE mg E (tTup t) (Mi.eTup m) (n + 1):=by
  intro G H σ ρ Q s w p
  refine A.step errE s w p fun ds vs G1 H1 S T _ fr o p1=>?_
  by_cases hz:ds.length≤100000
  · rw [if_pos hz] at p1
    refine ⟨by rw [o.len]; exact big' hz,fun a ha=>?_⟩
    exact p1 (.ref a) G1 _ _ (fr.add ha _) ⟨a,vs,T,rfl,zAP,o.kids (fun b hb=>(fr.new b hb).2.2) ha _⟩
  · rw [if_neg hz] at p1; exact p1.elim
theorem PostE.lst {G H G' H':Hp} {ds:List Dt} {xs:List V} {Q:VK} (p:PostE mg E G H 1 (okR (.lst ds)) Q) (x:Ext G H G' H') (r:RepL G' ds xs) {a:Addr} (ha:H' a = none):Q (.ref a) (upd H' a (.lst xs)):=by
  have fr:Fr G H G' H' (fun _=>False):=⟨x,fun _ z=>z.elim⟩
  refine p (.ref a) G' _ _ (fr.add ha (.lst xs)) ⟨a,xs,fun _ _=>False,rfl,zAP,⟨r.length,fun q d y h1 h2=>zCL r h1 h2,.inl rfl,fun _ z=>z,fun _ _ _ z=>z.elim,fun _ _ z=>z.elim⟩⟩
def CBi (r:List V→Hp→VK→Prop) (f:List Dt→Option Dt) (n:Nat):Prop:=∀ (mg:Str→Option Value) (E:XK) (G H:Hp) (ds:List Dt) (vs:List V) (Q:VK),Same G H→RepL G ds vs→PostE mg E G H n (optR (f ds)) Q→r vs H Q
theorem zCK {r:List V→Hp→VK→Prop} {f:List Dt→Option Dt} (hr:CBi r f n) (A:DA mg E t m 0):DE mg E (tCB r t) (Mi.eBi f m) n:=by
  intro G H σ ρ Q s w p
  refine A.step errE s w p fun ds vs G1 H1 S T _ fr o p1=>?_
  exact hr mg E G1 H1 ds vs Q fr.ext.in' o.repL (PostE.from p1 fr.ext)
noncomputable def spM (mg:Str→Option Value) (L:Nat) (f:FM):Sp:=fun vs H Q E=>∃ G ds,Same G H∧RepL G ds vs∧PostE mg E G H L (f ds) Q
theorem zAQ {f:FM} (A:DA mg E t m 0):DE mg E (zJ5 (spM mg n f) [] E t) (Mi.eCall f m) n:=by
  intro G H σ ρ Q s w p
  refine A.step errE s w p fun ds vs G1 H1 S T _ fr o p1=>?_
  exact ⟨G1,ds,fr.ext.in',by rw [List.append_nil]; exact o.repL,PostE.from p1 fr.ext⟩
theorem zP3 {G H:Hp} {o:Option Dt} {Q:VK} {d:Dt} {v:V} (s:Same G H) (p:PostE mg E G H n (optR o) Q) (e:o = some d) (hd:d.dep = 0) (h:Rep G d v):Q v H:=by
  subst e; exact PostE.val p (Ext.refl s) hd h
theorem zC2:ROp zW9 Mi.addD 1:=by
  intro mg E G H d e x y Q s h1 h2 p
  cases d with
  | int i =>
    cases e with
    | int j=>cases (show x = .int i from h1); cases (show y = .int j from h2); exact zP3 s p rfl rfl rfl
    | _=>exact p.elim
  | str i =>
    cases e with
    | str j =>
      cases (show x = .str i from h1); cases (show y = .str j from h2)
      rw [Mi.addD] at p
      by_cases hz:i.length + j.length≤100000
      · rw [if_pos hz] at p
        exact ⟨big' hz,PostE.val p (Ext.refl s) rfl rfl⟩
      · rw [if_neg hz] at p; exact p.elim
    | _=>exact p.elim
  | lst ds =>
    cases e with
    | lst es =>
      obtain ⟨a,xs,rfl,ha,ra⟩:=h1
      obtain ⟨b,ys,rfl,hb,rb⟩:=h2
      rw [Mi.addD] at p
      by_cases hz:ds.length + es.length≤100000
      · rw [if_pos hz] at p
        refine ⟨xs,ys,s _ _ ha,s _ _ hb,by rw [ra.length,rb.length]; exact big' hz,fun q hq=>?_⟩
        refine PostE.lst p (Ext.refl s) (zG5 (by simp [ra.length,rb.length]) fun j d' x' e1 e2=>?_) hq
        by_cases hj:j < ds.length
        · rw [List.getElem?_append_left hj] at e1
          rw [List.getElem?_append_left (by rw [ra.length]; exact hj)] at e2
          exact zCL ra e1 e2
        · rw [List.getElem?_append_right (by omega)] at e1
          rw [List.getElem?_append_right (by rw [ra.length]; omega),ra.length] at e2
          exact zCL rb e1 e2
      · rw [if_neg hz] at p; exact p.elim
    | _=>exact p.elim
  | _=>exact p.elim
theorem zMU:ROp zW0 Mi.subD n:=by
  intro mg E G H d e x y Q s h1 h2 p
  cases d with
  | int i =>
    cases e with
    | int j=>cases (show x = .int i from h1); cases (show y = .int j from h2); exact zP3 s p rfl rfl rfl
    | _=>exact p.elim
  | _=>exact p.elim
theorem zGI:ROp zW4 Mi.mulD n:=by
  intro mg E G H d e x y Q s h1 h2 p
  cases d with
  | int i =>
    cases e with
    | int j =>
      cases (show x = .int i from h1); cases (show y = .int j from h2)
      rw [Mi.mulD] at p
      split at p
      · rename_i hz; exact ⟨hz,PostE.val p (Ext.refl s) rfl rfl⟩
      · exact p.elim
    | _=>exact p.elim
  | _=>exact p.elim
theorem zD6:ROp zW7 Mi.divD n:=by
  intro mg E G H d e x y Q s h1 h2 p
  cases d with
  | int i =>
    cases e with
    | int j =>
      cases (show x = .int i from h1); cases (show y = .int j from h2)
      rw [Mi.divD] at p
      split at p
      · rename_i hz; exact ⟨hz,PostE.val p (Ext.refl s) rfl rfl⟩
      · exact p.elim
    | _=>exact p.elim
  | _=>exact p.elim
theorem zBH:ROp zW5 Mi.modD n:=by
  intro mg E G H d e x y Q s h1 h2 p
  cases d with
  | int i =>
    cases e with
    | int j =>
      cases (show x = .int i from h1); cases (show y = .int j from h2)
      rw [Mi.modD] at p
      split at p
      · rename_i hz; exact ⟨hz,PostE.val p (Ext.refl s) rfl rfl⟩
      · exact p.elim
    | _=>exact p.elim
  | _=>exact p.elim
theorem zST:ROp zW2 Mi.powD n:=by
  intro mg E G H d e x y Q s h1 h2 p
  cases d with
  | int i =>
    cases e with
    | int j =>
      cases (show x = .int i from h1); cases (show y = .int j from h2)
      rw [Mi.powD] at p
      split at p
      · rename_i hz; exact ⟨hz,PostE.val p (Ext.refl s) rfl rfl⟩
      · exact p.elim
    | _=>exact p.elim
  | _=>exact p.elim
theorem zVY:ROp1 zW3 Mi.negD n:=by
  intro mg E G H d x Q s h1 p
  cases d with
  | int i=>cases (show x = .int i from h1); exact zP3 s p rfl rfl rfl
  | _=>exact p.elim
theorem zDY {q:Int→Int→Bool}:ROp (zU2 q) (Mi.cmpD q) n:=by
  intro mg E G H d e x y Q s h1 h2 p
  cases d with
  | int i =>
    cases e with
    | int j=>cases (show x = .int i from h1); cases (show y = .int j from h2); exact zP3 s p rfl rfl rfl
    | _=>exact p.elim
  | _=>exact p.elim
theorem zT4 {G H:Hp} {d e:Dt} {x y:V} {Q:VK} {ng:Bool} (s:Same G H) (h1:Rep G d x) (h2:Rep G e y) (hd:d.dep≤40) (he:e.dep≤40) (q:Q (.bl (if ng then !Dt.eq d e else Dt.eq d e)) H) :
    ∃ d' e',L2.Rep H d' x∧L2.Rep H e' y∧d'.dep≤40∧Q (.bl (if ng then !L2.Dat.eq d' e' else L2.Dat.eq d' e')) H :=
  ⟨conv d,conv e,zEQ hd (Rep.mono s h1),zEQ he (Rep.mono s h2),Nat.le_trans (zFV hd) hd,by rw [zMD hd he]; exact q⟩
theorem zGD {α:Type} [DecidableEq α] (a b:α):(a == b) = decide (a = b):=by
  by_cases h:a = b
  · subst h; simp
  · simp [h]
theorem zJB {G:Hp} {d:Dt} {i:Int} (h:Rep G d (.int i)):d = .int i:=by
  cases d with
  | int k=>cases h; rfl
  | non=>cases h
  | bl _=>cases h
  | str _=>cases h
  | lst _=>obtain ⟨_,_,z,_⟩:=h; cases z
  | tup _=>obtain ⟨_,_,z,_⟩:=h; cases z
  | scr _=>obtain ⟨_,z,_⟩:=h; cases z
  | exc _ _ _=>obtain ⟨_,_,_,z,_⟩:=h; cases z
  | ins _ _=>obtain ⟨_,_,_,z,_⟩:=h; cases z
  | dct _=>obtain ⟨_,z,_⟩:=h; cases z
theorem zJA {G:Hp} {d:Dt} {i:Str} (h:Rep G d (.str i)):d = .str i:=by
  cases d with
  | str k=>cases h; rfl
  | non=>cases h
  | bl _=>cases h
  | int _=>cases h
  | lst _=>obtain ⟨_,_,z,_⟩:=h; cases z
  | tup _=>obtain ⟨_,_,z,_⟩:=h; cases z
  | scr _=>obtain ⟨_,z,_⟩:=h; cases z
  | exc _ _ _=>obtain ⟨_,_,_,z,_⟩:=h; cases z
  | ins _ _=>obtain ⟨_,_,_,z,_⟩:=h; cases z
  | dct _=>obtain ⟨_,z,_⟩:=h; cases z
theorem zMV {G:Hp} {d:Dt} {i:Bool} (h:Rep G d (.bl i)):d = .bl i:=by
  cases d with
  | bl k=>cases h; rfl
  | non=>cases h
  | str _=>cases h
  | int _=>cases h
  | lst _=>obtain ⟨_,_,z,_⟩:=h; cases z
  | tup _=>obtain ⟨_,_,z,_⟩:=h; cases z
  | scr _=>obtain ⟨_,z,_⟩:=h; cases z
  | exc _ _ _=>obtain ⟨_,_,_,z,_⟩:=h; cases z
  | ins _ _=>obtain ⟨_,_,_,z,_⟩:=h; cases z
  | dct _=>obtain ⟨_,z,_⟩:=h; cases z
theorem zF7:ROp rEqU Mi.eqD n:=by
  intro mg E G H d e x y Q s h1 h2 p
  unfold Mi.eqD at p
  split at p
  · rename_i hz
    have q:Q (.bl (Dt.eq d e)) H:=PostE.val p (Ext.refl s) rfl rfl
    have g:=zT4 (ng:=false) (Q:=Q) s h1 h2 hz.1 hz.2 q
    unfold rEqU
    split
    · rw [zJB h1,zJB h2,Dt.eq,zGD] at q; exact q
    · rw [zJA h1,zJA h2,Dt.eq,zGD] at q; exact q
    · rw [zMV h1,zMV h2,Dt.eq,zGD] at q; exact q
    · exact g
  · exact p.elim
theorem zTW:ROp rNeU Mi.neD n:=by
  intro mg E G H d e x y Q s h1 h2 p
  unfold Mi.neD at p
  split at p
  · rename_i hz
    have q:Q (.bl (!Dt.eq d e)) H:=PostE.val p (Ext.refl s) rfl rfl
    have g:=zT4 (ng:=true) (Q:=Q) s h1 h2 hz.1 hz.2 q
    unfold rNeU
    split
    · rw [zJB h1,zJB h2,Dt.eq,zGD] at q; exact q
    · rw [zJA h1,zJA h2,Dt.eq,zGD] at q; exact q
    · rw [zMV h1,zMV h2,Dt.eq,zGD] at q; exact q
    · exact g
  · exact p.elim
theorem zRX {G:Hp} {d:Dt} {x:V} (h:Rep G d x):decide (x = .non) = Mi.isNonD d:=by
  cases d with
  | non=>cases h; rfl
  | bl _=>cases h; rfl
  | int _=>cases h; rfl
  | str _=>cases h; rfl
  | lst _=>obtain ⟨_,_,rfl,_⟩:=h; rfl
  | tup _=>obtain ⟨_,_,rfl,_⟩:=h; rfl
  | scr _=>obtain ⟨_,rfl,_⟩:=h; rfl
  | exc _ _ _=>obtain ⟨_,_,_,rfl,_⟩:=h; rfl
  | ins _ _=>obtain ⟨_,_,_,rfl,_⟩:=h; rfl
  | dct _=>obtain ⟨_,rfl,_⟩:=h; rfl
theorem zTX:ROp (fun x y H Q=>y = .non∧Q (.bl (!decide (x = .non))) H) Mi.isntD n:=by
  intro mg E G H d e x y Q s h1 h2 p
  cases e with
  | non=>exact ⟨h2,by rw [zRX h1]; exact PostE.val p (Ext.refl s) rfl rfl⟩
  | _=>exact p.elim
theorem zIO (n:Nat) (i:Int):Mi.ixA n i = ixN n i:=rfl
theorem zPT {α:Type} (xs:List α) (i:Int):Mi.itA xs i = atI xs i:=rfl
theorem zTB {G:Hp} {ds:List Dt} {xs:List V} {i:Int} {d:Dt} (r:RepL G ds xs) (h:Mi.itA ds i = some d):∃ x,atI xs i = some x∧Rep G d x:=by
  rw [zPT] at h
  unfold atI at h ⊢
  rw [r.length]
  cases e:ixN ds.length i with
  | none=>rw [e] at h; cases h
  | some j =>
    rw [e] at h
    have h':ds[j]? = some d:=h
    have hj:j < xs.length:=by rw [r.length]; exact (List.getElem?_eq_some_iff.mp h').1
    exact ⟨xs[j],by simp [hj],zCL r h' (by simp [hj])⟩
theorem zC1:ROp (rIxU Kc.K) Mi.ixD 0:=by
  intro mg E G H d e x y Q s h1 h2 p
  cases e with
  | int i =>
    cases (show y = .int i from h2)
    cases d with
    | lst ds =>
      obtain ⟨a,xs,rfl,ha,ra⟩:=h1
      cases er:Mi.itA ds i with
      | none=>rw [Mi.ixD,er] at p; exact p.elim
      | some c =>
        rw [Mi.ixD,er] at p
        obtain ⟨v,e1,r1⟩:=zTB ra er
        exact ⟨xs,v,.inl (SqL.of (s _ _ ha)),e1,PostE.kept p (Ext.refl s) r1⟩
    | tup ds =>
      obtain ⟨a,xs,rfl,ha,ra⟩:=h1
      cases er:Mi.itA ds i with
      | none=>rw [Mi.ixD,er] at p; exact p.elim
      | some c =>
        rw [Mi.ixD,er] at p
        obtain ⟨v,e1,r1⟩:=zTB ra er
        exact ⟨xs,v,.inr (SqT.of (s _ _ ha)),e1,PostE.kept p (Ext.refl s) r1⟩
    | scr ns =>
      obtain ⟨a,rfl,ha⟩:=h1
      cases er:Mi.itA ns i with
      | none=>rw [Mi.ixD,er] at p; exact p.elim
      | some c =>
        rw [Mi.ixD,er] at p
        refine ⟨ns.map V.int,.int c,zFF s ha,?_,PostE.kept p (Ext.refl s) rfl⟩
        rw [zPT] at er
        unfold atI at er ⊢
        rw [List.length_map]
        cases e:ixN ns.length i with
        | none=>rw [e] at er; cases er
        | some j =>
          rw [e] at er
          have er':ns[j]? = some c:=er
          show (ns.map V.int)[j]? = some (.int c)
          rw [List.getElem?_map,er']; rfl
    | str z =>
      cases (show x = .str z from h1)
      rw [Mi.ixD] at p
      by_cases hz:z.length≤100000
      · rw [if_pos hz] at p
        cases er:Mi.itA z.cps.toList i with
        | none=>rw [er] at p; exact p.elim
        | some c=>rw [er] at p; exact ⟨c,big' hz,er,PostE.kept p (Ext.refl s) rfl⟩
      · rw [if_neg hz] at p; exact p.elim
    | _=>exact p.elim
  | _=>cases d <;> exact p.elim
theorem zG6 {G:Hp} {d:Dt} {vs:List V} (h:RepL G [d] vs):∃ x,vs = [x]∧Rep G d x:=by
  obtain ⟨x,q,rfl,a,b⟩:=h
  cases (show q = [] from b)
  exact ⟨x,rfl,a⟩
theorem zR9 {G:Hp} {d e:Dt} {vs:List V} (h:RepL G [d,e] vs):∃ x y,vs = [x,y]∧Rep G d x∧Rep G e y:=by
  obtain ⟨x,q,rfl,a,b⟩:=h
  obtain ⟨y,rfl,c⟩:=zG6 b
  exact ⟨x,y,rfl,a,c⟩
theorem zC8:CBi (zTZ Kc.K) Mi.lenD n:=by
  intro mg E G H ds vs Q s h p
  cases ds with
  | nil=>exact p.elim
  | cons a0 r0 =>
    cases r0 with
    | cons _ _=>cases a0 <;> exact p.elim
    | nil =>
      cases a0 with
      | lst es =>
        obtain ⟨x,rfl,a,xs,rfl,ha,ra⟩:=zG6 h
        exact ⟨xs,.inl (SqL.of (s _ _ ha)),by rw [ra.length]; exact PostE.val p (Ext.refl s) rfl rfl⟩
      | tup es =>
        obtain ⟨x,rfl,a,xs,rfl,ha,ra⟩:=zG6 h
        exact ⟨xs,.inr (SqT.of (s _ _ ha)),by rw [ra.length]; exact PostE.val p (Ext.refl s) rfl rfl⟩
      | scr ns =>
        obtain ⟨x,rfl,a,rfl,ha⟩:=zG6 h
        refine ⟨ns.map V.int,zFF s ha,?_⟩
        rw [List.length_map]
        exact PostE.val p (Ext.refl s) rfl rfl
      | str z =>
        obtain ⟨x,rfl,hx⟩:=zG6 h
        cases (show x = .str z from hx)
        rw [Mi.lenD] at p
        by_cases hz:z.length≤100000
        · rw [if_pos hz] at p
          exact ⟨big' hz,PostE.val p (Ext.refl s) rfl rfl⟩
        · rw [if_neg hz] at p; exact p.elim
      | _=>exact p.elim
theorem zCH {G:Hp}:∀ (ns:List Int),RepL G (ns.map Dt.int) (ns.map V.int)
  | []=>rfl
  | _ :: r=>⟨_,_,rfl,rfl,zCH r⟩
theorem zI0:CBi (zIK Kc.K) Mi.listD 1:=by
  intro mg E G H ds vs Q s h p
  cases ds with
  | nil=>exact p.elim
  | cons a0 r0 =>
    cases r0 with
    | cons _ _=>cases a0 <;> exact p.elim
    | nil =>
      cases a0 with
      | lst es =>
        obtain ⟨x,rfl,a,xs,rfl,ha,ra⟩:=zG6 h
        exact .inl ⟨xs,.inl (SqL.of (s _ _ ha)),fun l hl=>PostE.lst p (Ext.refl s) ra hl⟩
      | tup es =>
        obtain ⟨x,rfl,a,xs,rfl,ha,ra⟩:=zG6 h
        exact .inl ⟨xs,.inr (SqT.of (s _ _ ha)),fun l hl=>PostE.lst p (Ext.refl s) ra hl⟩
      | scr ns =>
        obtain ⟨x,rfl,a,rfl,ha⟩:=zG6 h
        exact .inl ⟨ns.map V.int,zFF s ha,fun l hl=>PostE.lst p (Ext.refl s) (zCH ns) hl⟩
      | _=>exact p.elim
theorem zR7 {G:Hp} (lo:Int) (k:Nat):RepL G (Mi.nums lo k) (zHG lo k):=by
  unfold Mi.nums zHG
  refine zG5 (by simp) fun q d x h1 h2=>?_
  rw [List.getElem?_map] at h1 h2
  cases e:(List.range k)[q]? with
  | none=>rw [e] at h1; cases h1
  | some j=>rw [e] at h1 h2; cases h1; cases h2; rfl
theorem zL1 {K:PySem.W.Frag} (A:DA mg E t m 0):DE mg E (tCB (zIK K) (zI9 (tCB zP4 t) tNil)) (Mi.eBi Mi.rangeD m) 1:=by
  intro G H σ ρ Q s w p
  refine A.step errE s w p fun ds vs G1 H1 S T _ fr o p1=>?_
  have p2:=PostE.from p1 fr.ext
  have r:=o.repL
  have s1:=fr.ext.in'
  have fin:∀ (lo hi:Int),(-4611686018427387904≤lo∧lo < 4611686018427387904∧-4611686018427387904≤hi∧hi < 4611686018427387904)→hi - lo≤100000→PostE mg E G1 H1 1 (okR (.lst (Mi.nums lo (hi - lo).toNat))) Q →
      ∀ q,H1 q = none→zIK K [.ref q] (upd H1 q (.rng lo hi)) Q:=by
    intro lo hi hb hz pp q hq
    refine .inr ⟨lo,hi,zAP,⟨by omega,by omega,by omega,by omega⟩,by omega,fun l hl=>?_⟩
    have sn:=L2.same_new hq (.rng lo hi)
    exact PostE.lst pp (Ext.same s1 sn) (zR7 lo _) hl
  cases ds with
  | nil=>exact p2.elim
  | cons a0 r0 =>
    cases a0 with
    | int i =>
      cases r0 with
      | nil =>
        obtain ⟨x,rfl,hx⟩:=zG6 r
        cases (show x = .int i from hx)
        rw [Mi.rangeD] at p2
        split at p2
        · rename_i hz
          intro q hq
          refine fin 0 i ⟨by decide,by decide,hz.1.1,hz.1.2⟩ (by omega) ?_ q hq
          rw [Int.sub_zero]
          exact p2
        · exact p2.elim
      | cons b0 r1 =>
        cases r1 with
        | cons _ _=>cases b0 <;> exact p2.elim
        | nil =>
          cases b0 with
          | int j =>
            obtain ⟨x,y,rfl,hx,hy⟩:=zR9 r
            cases (show x = .int i from hx)
            cases (show y = .int j from hy)
            rw [Mi.rangeD] at p2
            split at p2
            · rename_i hz
              exact fun q hq=>fin i j hz.1 hz.2 p2 q hq
            · exact p2.elim
          | _=>exact p2.elim
    | _=>rcases r0 with _ | ⟨_,_ | _⟩ <;> exact p2.elim
theorem zY6 {G H:Hp} {d:Dt} {x:V} (s:Same G H) (h:Rep G d x) (hd:Mi.tyD d≠""):zH3 H x = some (Mi.tyD d):=by
  cases d with
  | non=>cases h; rfl
  | bl _=>cases h; rfl
  | int _=>cases h; rfl
  | str _=>cases h; rfl
  | lst _=>obtain ⟨a,xs,rfl,ha,_⟩:=h; unfold zH3; dsimp only; rw [s _ _ ha]; rfl
  | tup _=>obtain ⟨a,xs,rfl,ha,_⟩:=h; unfold zH3; dsimp only; rw [s _ _ ha]; rfl
  | scr _=>exact absurd rfl hd
  | exc _ _ _=>exact absurd rfl hd
  | ins _ _=>exact absurd rfl hd
  | dct _=>exact absurd rfl hd
theorem zN9 {nm:String} (hn:nm∈["int","bool","str","list","tuple","dict"]) (A:DE mg E ta ma k):DE mg E (tCB zW6 (zI9 ta (zI9 (tC (.ty nm)) tNil))) (Mi.eIsi nm ma) n:=by
  intro G H σ ρ Q s w p
  refine (zAS A).step errE s w p fun d v G1 H1 S _ fr o p1=>?_
  have p2:=PostE.from p1 fr.ext
  unfold Mi.isiD at p2
  split at p2
  · exact p2.elim
  · rename_i hd
    exact ⟨Mi.tyD d,zY6 fr.ext.in' o hd,hn,PostE.val p2 (Ext.refl fr.ext.in') rfl rfl⟩
theorem zLA {G:Hp}:∀ {ds:List Dt} {bs:List Bool} {xs:List V},Mi.boolsD ds = some bs→RepL G ds xs→xs = bs.map V.bl
  | [],bs,xs,h,r=>by cases h; exact r
  | .bl b :: ds,bs,xs,h,r=>by
    obtain ⟨x,q,rfl,a,c⟩:=r
    rw [Mi.boolsD] at h
    cases e:Mi.boolsD ds with
    | none=>rw [e] at h; cases h
    | some cs =>
      rw [e] at h
      cases h
      rw [zLA e c,show x = .bl b from a]
      rfl
  | .non :: _,_,_,h,_=>by simp [Mi.boolsD] at h
  | .int _ :: _,_,_,h,_=>by simp [Mi.boolsD] at h
  | .str _ :: _,_,_,h,_=>by simp [Mi.boolsD] at h
  | .lst _ :: _,_,_,h,_=>by simp [Mi.boolsD] at h
  | .tup _ :: _,_,_,h,_=>by simp [Mi.boolsD] at h
  | .scr _ :: _,_,_,h,_=>by simp [Mi.boolsD] at h
  | .exc _ _ _ :: _,_,_,h,_=>by simp [Mi.boolsD] at h
  | .ins _ _ :: _,_,_,h,_=>by simp [Mi.boolsD] at h
  | .dct _ :: _,_,_,h,_=>by simp [Mi.boolsD] at h
theorem zXR:CBi zW8 Mi.allD n:=by
  intro mg E G H ds vs Q s h p
  match ds,h,p with
  | [.lst es],h,p =>
    obtain ⟨x,rfl,a,xs,rfl,ha,ra⟩:=zG6 h
    rw [Mi.allD] at p
    cases e:Mi.boolsD es with
    | none=>rw [e] at p; exact p.elim
    | some bs =>
      rw [e] at p
      exact ⟨bs,by rw [← zLA e ra]; exact s _ _ ha,PostE.val p (Ext.refl s) rfl rfl⟩
  | [],_,p=>exact p.elim
  | [.non],_,p=>exact p.elim
  | [.bl _],_,p=>exact p.elim
  | [.int _],_,p=>exact p.elim
  | [.str _],_,p=>exact p.elim
  | [.tup _],_,p=>exact p.elim
  | [.scr _],_,p=>exact p.elim
  | [.exc _ _ _],_,p=>exact p.elim
  | [.ins _ _],_,p=>exact p.elim
  | [.dct _],_,p=>exact p.elim
  | x :: _ :: _,_,p=>cases x <;> exact p.elim
end
end L3

namespace L3
open PySem PySem.Spec
open L2 hiding Rep RepL
open Mi (Dt Xn R okR zA3 optR zA0 zAA zAG zAB zAE Rh Sl Ro EM TM AM FM IM SM Tg Out zB3 zB0 zBB full frz frz1 frzAt)
variable [Kc]
def ItOk (J:It) (G:Hp) (ds:List Dt):Prop:=∀ (i:Nat) (G1 H1:Hp),Same G G1→Same G1 H1→(i < ds.length→J.go i H1)∧(ds.length≤i→J.stop i H1)∧∀ x H2 d,ds[i]? = some d→J.yld i H1 x H2→∃ G2,Ext G1 H1 G2 H2∧Rep G2 d x
noncomputable def zSJ (ind:Bool) (G:Hp):Hp:=if ind = true then (fun _=>none) else G
def zXT (mg:Str→Option Value) (E:XK) (G H:Hp) (ind:Bool) (r:R (List Dt)) (Q:It→Hp→Prop):Prop:=match r with
  | none=>False
  | some (.error x)=>∀ c da G' H',Ext G H G' H'→XRep mg x c da G' H'→E c da H'
  | some (.ok ds)=>∀ J G' H',Ext G H G' H'→ItOk J (zSJ ind G') ds→Q J H'
def DI (mg:Str→Option Value) (E:XK) (t:TI) (m:IM) (ind:Bool):Prop:=∀ (G H:Hp) (σ:St) (ρ:Rh) (Q:It→Hp→Prop),Same G H→View G σ ρ→zXT mg E G H ind (m ρ) Q→t σ H Q
section
variable {mg:Str→Option Value} {E:XK} {n k l:Nat} {ta te:TE} {ma me:EM} {t:TA} {m:AM} {ind:Bool}
theorem errI {G H:Hp} {Q:It→Hp→Prop}:Err mg E G H (fun r=>zXT mg E G H ind r Q):=⟨fun h=>h,fun _ h=>h⟩
theorem errB {G H:Hp} {α β:Type} {P:R β→Prop} (e:Err mg E G H P) (g:α→R β):Err mg E G H (fun r=>P (zA3 r g)):=⟨fun h=>e.no h,fun x h=>e.er x h⟩
theorem DI.step {β:Type} {t:TI} {m:IM} (D:DI mg E t m ind) {G H:Hp} {σ:St} {ρ:Rh} {Q:It→Hp→Prop} {P:R β→Prop} {f:List Dt→R β} (hE:Err mg E G H P) (s:Same G H) (w:View G σ ρ) (p:P (zA3 (m ρ) f))
    (h:∀ ds J G' H',m ρ = okR ds→Ext G H G' H'→ItOk J (zSJ ind G') ds→P (f ds)→Q J H'):t σ H Q:=by
  refine D G H σ ρ Q s w ?_
  cases e:m ρ with
  | none=>rw [e] at p; exact hE.no p
  | some r =>
    rw [e] at p
    cases r with
    | error x=>exact hE.er x p
    | ok ds=>exact fun J G' H' x i=>h ds J G' H' e x i p
theorem zT1 {K:PySem.W.Frag} {G:Hp} {a:Addr} {xs:List V} {ds:List Dt} (ha:SqL K G a xs) (r:RepL G ds xs):ItOk (Itl K a) G ds:=by
  intro i G1 H1 s1 s2
  have hS:SqL K H1 a xs:=(s1.trans s2).seq ha
  refine ⟨fun hi=>⟨xs,xs[i]'(by rw [r.length]; exact hi),hS,by simp⟩,fun hi=>⟨xs,hS,by rw [r.length]; exact hi⟩,fun x H2 d hd hy=>?_⟩
  obtain ⟨rfl,hy⟩:=hy
  exact ⟨G1,Ext.refl s2,Rep.mono s1 (zCL r hd (hy xs hS))⟩
theorem zSZ {K:PySem.W.Frag} {G:Hp} {a:Addr} {xs:List V} {ds:List Dt} (ha:SqT K G a xs) (r:RepL G ds xs):ItOk (Itt K a) G ds:=by
  intro i G1 H1 s1 s2
  have hS:SqT K H1 a xs:=zH5 (s1.trans s2) ha
  refine ⟨fun hi=>⟨xs,xs[i]'(by rw [r.length]; exact hi),hS,by simp⟩,fun hi=>⟨xs,hS,by rw [r.length]; exact hi⟩,fun x H2 d hd hy=>?_⟩
  obtain ⟨rfl,hy⟩:=hy
  exact ⟨G1,Ext.refl s2,Rep.mono s1 (zCL r hd (hy xs hS))⟩
theorem zT0 {G:Hp} (lo:Int) (k:Nat):ItOk (Itr lo k) G (Mi.nums lo k):=by
  intro i G1 H1 s1 s2
  have hl:(Mi.nums lo k).length = k:=by simp [Mi.nums]
  refine ⟨fun hi=>by rw [hl] at hi; exact hi,fun hi=>by rw [hl] at hi; exact hi,fun x H2 d hd hy=>?_⟩
  obtain ⟨rfl,rfl⟩:=hy
  refine ⟨G1,Ext.refl s2,?_⟩
  unfold Mi.nums at hd
  rw [List.getElem?_map] at hd
  cases e:(List.range k)[i]? with
  | none=>rw [e] at hd; cases hd
  | some j =>
    rw [e] at hd
    cases hd
    have hj:j = i:=by
      obtain ⟨h1,h2⟩:=List.getElem?_eq_some_iff.mp e
      rw [List.getElem_range] at h2; exact h2.symm
    subst hj
    rfl
theorem zDS (A:DA mg E t m 0):DI mg E (zX7 t) (Mi.iR1 m) true:=by
  intro G H σ ρ Q s w p
  refine A.step errI s w p fun ds vs G1 H1 S T _ fr o p1=>?_
  have r:=o.repL
  match ds,r,p1 with
  | [.int j],r,p1 =>
    obtain ⟨x,rfl,hx⟩:=zG6 r
    cases (show x = .int j from hx)
    dsimp only at p1
    split at p1
    · rename_i hz
      exact ⟨j,rfl,by omega,by omega,p1 _ G1 H1 fr.ext (zT0 0 _)⟩
    · exact p1.elim
  | [],_,p=>exact p.elim
  | [.non],_,p=>exact p.elim
  | [.bl _],_,p=>exact p.elim
  | [.str _],_,p=>exact p.elim
  | [.lst _],_,p=>exact p.elim
  | [.tup _],_,p=>exact p.elim
  | [.scr _],_,p=>exact p.elim
  | [.exc _ _ _],_,p=>exact p.elim
  | [.ins _ _],_,p=>exact p.elim
  | [.dct _],_,p=>exact p.elim
  | x :: _ :: _,_,p=>cases x <;> exact p.elim
theorem zXK (A:DA mg E t m 0):DI mg E (zX6 t) (Mi.iR2 m) true:=by
  intro G H σ ρ Q s w p
  refine A.step errI s w p fun ds vs G1 H1 S T _ fr o p1=>?_
  have r:=o.repL
  cases ds with
  | nil=>exact p1.elim
  | cons a0 r0 =>
    cases a0 with
    | int i =>
      cases r0 with
      | nil=>exact p1.elim
      | cons b0 r1 =>
        cases r1 with
        | cons _ _=>cases b0 <;> exact p1.elim
        | nil =>
          cases b0 with
          | int j =>
            obtain ⟨x,y,rfl,hx,hy⟩:=zR9 r
            cases (show x = .int i from hx)
            cases (show y = .int j from hy)
            dsimp only at p1
            split at p1
            · rename_i hz
              exact ⟨i,j,rfl,⟨by omega,by omega,by omega,by omega⟩,p1 _ G1 H1 fr.ext (zT0 i _)⟩
            · exact p1.elim
          | _=>exact p1.elim
    | _=>rcases r0 with _ | ⟨_,_ | _⟩ <;> exact p1.elim
theorem zKY:∀ (ds:List Dt) (n:Nat),(Mi.enumD n ds).length = ds.length
  | [],_=>rfl
  | _ :: r,n=>by rw [Mi.enumD,List.length_cons,List.length_cons,zKY r]
theorem zKZ:∀ (ds:List Dt) (n i:Nat) (d:Dt),(Mi.enumD n ds)[i]? = some d→∃ e,ds[i]? = some e∧d = .tup [.int ((n + i:Nat):Int),e]
  | [],_,_,_,h=>by simp [Mi.enumD] at h
  | x :: r,n,0,d,h=>by simp [Mi.enumD] at h; exact ⟨x,by simp,by rw [← h]; rfl⟩
  | x :: r,n,i + 1,d,h=>by
    rw [Mi.enumD] at h
    obtain ⟨e,h1,h2⟩:=zKZ r (n + 1) i d (by simpa using h)
    exact ⟨e,by simpa using h1,by rw [h2,show n + 1 + i = n + (i + 1) by omega]⟩
theorem Ext.new {G H:Hp} (s:Same G H) {T:Addr} (hT:H T = none) (o:HO):Ext G H (upd G T o) (upd H T o):=by
  refine ⟨L2.same_new (s.free hT) o,L2.same_new hT o,fun b u e=>?_,fun b hb=>zAO fun z=>hb (z ▸ hT)⟩
  by_cases z:b = T
  · subst z; rw [zAP] at e ⊢; exact e
  · rw [zAO z] at e ⊢; exact s _ _ e
theorem zX4 {K:PySem.W.Frag} {G:Hp} {a:Addr} {xs:List V} {ds:List Dt} (ha:G a = some (.lst xs)) (r:RepL G ds xs):ItOk (Ite K a) G (Mi.enumD 0 ds):=by
  intro i G1 H1 s1 s2
  have hS:SqL K H1 a xs:=SqL.of (s2 _ _ (s1 _ _ ha))
  rw [zKY]
  refine ⟨fun hi=>⟨xs,xs[i]'(by rw [r.length]; exact hi),hS,by simp⟩,fun hi=>⟨xs,hS,by rw [r.length]; exact hi⟩,fun x H2 d hd hy=>?_⟩
  obtain ⟨T,y,rfl,hT,rfl,hy⟩:=hy
  obtain ⟨e,h1,rfl⟩:=zKZ ds 0 i d hd
  have x1:=Ext.new s2 hT (.tup [.int i,y])
  refine ⟨_,x1,T,_,rfl,zAP,_,_,rfl,?_,_,_,rfl,Rep.mono (s1.trans x1.g) (zCL r h1 (hy xs hS)),rfl⟩
  show V.int (i:Int) = .int ((0 + i:Nat):Int)
  rw [Nat.zero_add]
theorem zYR {K:PySem.W.Frag} (A:DA mg E t m 0):DI mg E (zUV K t) (Mi.iEn m) false:=by
  intro G H σ ρ Q s w p
  refine A.step errI s w p fun ds vs G1 H1 S T _ fr o p1=>?_
  have r:=o.repL
  match ds,r,p1 with
  | [.lst es],r,p1 =>
    obtain ⟨x,rfl,a,xs,rfl,ha,ra⟩:=zG6 r
    exact ⟨⟨xs,SqL.of (fr.ext.in' _ _ ha)⟩,p1 _ G1 H1 fr.ext (zX4 ha ra)⟩
  | [],_,p=>exact p.elim
  | [.non],_,p=>exact p.elim
  | [.bl _],_,p=>exact p.elim
  | [.str _],_,p=>exact p.elim
  | [.int _],_,p=>exact p.elim
  | [.tup _],_,p=>exact p.elim
  | [.scr _],_,p=>exact p.elim
  | [.exc _ _ _],_,p=>exact p.elim
  | [.ins _ _],_,p=>exact p.elim
  | [.dct _],_,p=>exact p.elim
  | x :: _ :: _,_,p=>cases x <;> exact p.elim
noncomputable def zH4:St→List (Nat × V)→St
  | σ,[]=>σ
  | σ,(i,v) :: r=>zH4 (σ.set i (some v)) r
inductive BsRep (G:Hp):List (Nat × Dt)→List (Nat × V)→Prop
  | nil:BsRep G [] []
  | cons {i d v bs ws}:Rep G d v→BsRep G bs ws→BsRep G ((i,d) :: bs) ((i,v) :: ws)
theorem View.set {G:Hp} {σ:St} {ρ:Rh} {i:Nat} {d:Dt} {v:V} (w:View G σ ρ) (r:Rep G d v):View G (σ.set i (some v)) (ρ.set i (some d)):=by
  refine ⟨by simp [w.len],fun j e h=>?_⟩
  have hj:j < ρ.length:=by
    have:=(List.getElem?_eq_some_iff.mp h).1
    simpa using this
  by_cases z:i = j
  · subst z
    rw [List.getElem?_set_self hj] at h
    cases h
    exact ⟨v,List.getElem?_set_self (by rw [← w.len]; exact hj),r⟩
  · rw [List.getElem?_set_ne z] at h
    obtain ⟨u,h1,h2⟩:=w.at j e h
    exact ⟨u,by rw [List.getElem?_set_ne z]; exact h1,h2⟩
theorem View.sets {G:Hp} {bs ws} (h:BsRep G bs ws):∀ {σ:St} {ρ:Rh},View G σ ρ→View G (zH4 σ ws) (zB0 ρ bs):=by
  induction h with
  | nil=>exact fun w=>w
  | cons r _ ih=>exact fun w=>ih (w.set r)
def TgOk (g:TG) (tg:Tg):Prop:=∀ (G H:Hp) (σ:St) (d:Dt) (x:V) (bs:List (Nat × Dt)) (Q:St→Hp→Prop),Same G H→Rep G d x→zB3 tg d = some bs→(∀ ws,BsRep G bs ws→Q (zH4 σ ws) H)→g x σ H Q
def zSM (g:TGs) (is:List Nat):Prop:=∀ (G H:Hp) (σ:St) (ds:List Dt) (xs:List V) (Q:St→Hp→Prop),RepL G ds xs→ds.length = is.length→(∀ ws,BsRep G (is.zip ds) ws→Q (zH4 σ ws) H)→g xs σ H Q
theorem zAV (i:Nat):TgOk (zJO i) (.one i):=by
  intro G H σ d x bs Q s r e h
  cases e
  exact h [(i,x)] (.cons r .nil)
theorem zLL:zSM gNil []:=by
  intro G H σ ds xs Q r hl h
  cases ds with
  | nil=>cases (show xs = [] from r); exact ⟨rfl,h [] .nil⟩
  | cons _ _=>simp at hl
theorem zEJ (i:Nat) {g:TGs} {is:List Nat} (hg:zSM g is):zSM (zX8 (zJO i) g) (i :: is):=by
  intro G H σ ds xs Q r hl h
  cases ds with
  | nil=>simp at hl
  | cons d ds =>
    obtain ⟨x,q,rfl,a,b⟩:=r
    exact ⟨x,q,rfl,hg G H _ ds q Q b (by simpa using hl) fun ws hw=>h ((i,x) :: ws) (.cons a hw)⟩
theorem zOP {K:PySem.W.Frag} {g:TGs} {is:List Nat} {k:Nat} (hg:zSM g is) (hk:is.length = k):TgOk (gTup K k g) (.tup is):=by
  intro G H σ d x bs Q s r e h
  cases d with
  | tup ds =>
    obtain ⟨a,xs,rfl,ha,ra⟩:=r
    rw [zB3] at e
    by_cases hz:ds.length = is.length
    · rw [if_pos hz] at e
      cases e
      exact ⟨a,xs,rfl,SqT.of (s _ _ ha),by rw [ra.length,hz,hk],hg G H σ ds xs Q ra hz h⟩
    · rw [if_neg hz] at e; cases e
  | _=>simp [zB3] at e
theorem zKE:∀ (ws:List (Nat × V)) (σ own:St),(∀ p∈ws,σ.length≤p.1)→∃ own':St,own'.length = own.length∧zH4 (σ ++ own) ws = σ ++ own'
  | [],σ,own,_=>⟨own,rfl,rfl⟩
  | (i,v) :: r,σ,own,h=>by
    have hi:σ.length≤i:=h (i,v) (by simp)
    rw [zH4,List.set_append_right _ _ hi]
    obtain ⟨o,h1,h2⟩:=zKE r σ (own.set (i - σ.length) (some v)) fun p hp=>h p (by simp [hp])
    exact ⟨o,by rw [h1,List.length_set],h2⟩
theorem BsRep.idx {G:Hp} {bs ws} (h:BsRep G bs ws):ws.map (·.1) = bs.map (·.1):=by
  induction h with
  | nil=>rfl
  | cons _ _ ih=>simp [ih]
theorem zQI {tg:Tg} {d:Dt} {bs:List (Nat × Dt)} (h:zB3 tg d = some bs):∀ i∈bs.map (·.1),i∈tg.idx:=by
  cases tg with
  | one i=>cases h; simp [Tg.idx]
  | tup is =>
    cases d with
    | tup ds =>
      rw [zB3] at h
      split at h
      · cases h
        intro i hi
        obtain ⟨p,hp,e⟩:=List.mem_map.mp hi
        rw [← e]
        obtain ⟨a,b⟩:=p
        exact (List.of_mem_zip hp).1
      · cases h
    | _=>simp [zB3] at h
theorem zAT {wi:TI} {g:TG} {tif:TT} {it:IM} {tg:Tg} {c:TM} (I:DI mg E wi it ind) (hT:TgOk g tg) (C:DT mg E tif c) (B:DE mg E te me n):DE mg E (zTK wi k g tif te) (Mi.eComp it k tg c me) (n + 1):=by
  intro G H σ ρ Q s w p
  refine I.step errE s w p fun ds J G1 H1 _ x1 io p1=>?_
  by_cases hz:ds.length≤100000∧(tg.idx.all fun i=>decide (ρ.length≤i)) = true
  case neg=>rw [if_neg hz] at p1; exact p1.elim
  rw [if_pos hz] at p1
  obtain ⟨hz,hix⟩:=hz
  have hb1:Same (zSJ ind G1) G1:=by
    unfold zSJ
    split
    · exact fun b o e=>by cases e
    · exact Same.refl _
  refine ⟨fun i m acc H'=>m = ds.length - i∧i≤ds.length∧∃ G' as S T,Fr G H G' H' S∧Same G1 G'∧OwnA G' H' n S as acc T∧as.length≤i∧PostE mg E G H (n + 1) (zA3 (Mi.compGo ρ k tg c me (ds.drop i) as) fun es=>okR (.lst es)) Q,
    ⟨_,rfl,Nat.zero_le _,G1,[],fun _=>False,fun _ _=>False,⟨x1,fun _ z=>z.elim⟩,Same.refl _,⟨rfl,fun q d x h=>by simp at h,fun _ _ _ z=>z.elim,fun _ _ z=>z.elim⟩,Nat.le_refl _,by rw [List.drop_zero]; exact p1⟩,?_⟩
  rintro i m acc H' ⟨rfl,hi,G',as,S,T,fr,sg,o,hl,p⟩
  obtain ⟨j1,j2,j3⟩:=io i G' H' (hb1.trans sg) fr.ext.in'
  by_cases hlt:i < ds.length
  · refine .inr ⟨j1 hlt,by rw [o.len]; exact L2.big (by omega),fun acc' H''=>ds.length - (i + 1) = ds.length - (i + 1)∧i + 1≤ds.length∧∃ G' as S T,Fr G H G' H'' S∧Same G1 G'∧OwnA G' H'' n S as acc' T∧as.length≤i + 1∧PostE mg E G H (n + 1) (zA3 (Mi.compGo ρ k tg c me (ds.drop (i + 1)) as) fun es=>okR (.lst es)) Q,
      fun acc' H'' q=>⟨ds.length - (i + 1),by omega,q⟩,fun x H2 hy=>?_⟩
    have hd:ds[i]? = some ds[i]:=List.getElem?_eq_getElem hlt
    obtain ⟨G2,x2,r2⟩:=j3 x H2 ds[i] hd hy
    rw [List.drop_eq_getElem_cons hlt,Mi.compGo] at p
    cases eb:zB3 tg ds[i] with
    | none=>rw [eb] at p; exact p.elim
    | some bs =>
      rw [eb] at p
      dsimp only at p
      refine hT G2 H2 _ _ x bs _ x2.in' r2 eb fun ws hb=>?_
      have hsl:∀ q∈ws,σ.length≤q.1:=fun q hq=>by
        have h1:q.1∈bs.map (·.1):=by rw [← hb.idx]; exact List.mem_map_of_mem hq
        have h2:=List.all_eq_true.mp hix q.1 (zQI eb q.1 h1)
        rw [← w.len]; exact of_decide_eq_true h2
      obtain ⟨own,ho1,ho2⟩:=zKE ws σ (List.replicate k none) hsl
      refine ⟨own,by rw [ho1,List.length_replicate],ho2,?_⟩
      have x02:=fr.ext.trans x2
      have w2:View G2 (zH4 (σ ++ List.replicate k none) ws) (zB0 (ρ ++ List.replicate k none) bs):=by
        refine View.sets hb ⟨by simp [w.len],fun j d h=>?_⟩
        by_cases hj:j < ρ.length
        · rw [List.getElem?_append_left hj] at h
          obtain ⟨v,a,b⟩:=w.at j d h
          exact ⟨v,by rw [List.getElem?_append_left (by rw [← w.len]; exact hj)]; exact a,Rep.mono x02.g b⟩
        · rw [List.getElem?_append_right (by omega),List.getElem?_replicate] at h
          split at h <;> cases h
      refine C.step ((errB errE _).from x02) x2.in' w2 p fun b H3 _ s3 p3=>?_
      have x3:Ext G2 H2 G2 H3:=Ext.same x2.in' s3
      have x03:=x02.trans x3
      have newS:∀ a,S a→H a = none∧G2 a = none∧H3 a≠none:=fun a ha=>by
        obtain ⟨n1,n2,n3⟩:=fr.new a ha
        exact ⟨n1,(x2.old a n3).trans n2,s3.some (x2.h.some n3)⟩
      have own3:OwnA G2 H3 n S as acc T:=⟨o.len,fun q d y h1 h2=>(o.own q d y h1 h2).mono x2.g (x2.h.trans s3),o.dis,o.sub⟩
      cases b with
      | false=>exact ⟨rfl,hlt,G2,as,S,T,⟨x03,newS⟩,sg.trans x2.g,own3,by omega,p3⟩
      | true =>
        refine B.step ((errB errE _).from x03) x3.in' w2 p3 fun e v G4 H4 S4 _ fr4 o4 p4=>?_
        have ap:∀ q b,T q b→S4 b→False:=fun q b h1 h2=>(newS b (o.sub q b h1)).2.2 (fr4.new b h2).1
        refine ⟨rfl,hlt,G4,as ++ [e],fun a=>S a∨S4 a,fun q b=>(q < as.length∧T q b)∨(q = as.length∧S4 b),⟨x03.trans fr4.ext,fun a ha=>?_⟩,sg.trans (x2.g.trans fr4.ext.g),⟨by simp [o.len],fun q d y h1 h2=>?_,fun q r b h1 h2=>?_,fun q b h=>?_⟩,by simp; omega,p4⟩
        · rcases ha with ha | ha
          · obtain ⟨n1,n2,n3⟩:=newS a ha
            exact ⟨n1,(fr4.ext.old a n3).trans n2,fr4.ext.h.some n3⟩
          · obtain ⟨n1,n2,n3⟩:=fr4.new a ha
            exact ⟨x03.h.free n1,n2,n3⟩
        · by_cases hq:q < as.length
          · rw [List.getElem?_append_left hq] at h1
            rw [List.getElem?_append_left (by rw [o.len]; exact hq)] at h2
            exact ((own3.own q d y h1 h2).mono fr4.ext.g fr4.ext.h).sub fun b z=>.inl ⟨hq,z⟩
          · rw [List.getElem?_append_right (by omega)] at h1
            rw [List.getElem?_append_right (by rw [o.len]; omega),o.len] at h2
            have hq0:q - as.length = 0:=by
              have:=(List.getElem?_eq_some_iff.mp h1).1
              simp at this; omega
            rw [hq0] at h1 h2
            simp at h1 h2
            subst h1; subst h2
            exact o4.sub fun b z=>.inr ⟨by omega,z⟩
        · rcases h1 with ⟨a1,t1⟩ | ⟨a1,t1⟩ <;> rcases h2 with ⟨a2,t2⟩ | ⟨a2,t2⟩
          · exact o.dis q r b t1 t2
          · exact (ap q b t1 t2).elim
          · exact (ap r b t2 t1).elim
          · omega
        · rcases h with ⟨_,z⟩ | ⟨_,z⟩
          · exact .inl (o.sub q b z)
          · exact .inr z
  · have e:i = ds.length:=by omega
    subst e
    refine .inl ⟨j2 (Nat.le_refl _),fun D hD=>?_⟩
    rw [List.drop_length,Mi.compGo] at p
    exact p (.ref D) G' _ _ (fr.add hD _) ⟨D,acc,T,rfl,zAP,o.kids (fun b hb=>(fr.new b hb).2.2) hD _⟩
end
end L3

namespace L3
open PySem PySem.Spec
open L2 hiding Rep RepL
open Mi (Dt Xn R okR zA3 optR zA0 zAA zAG zAB zAE Rh Sl Ro EM TM AM FM IM SM Tg Out zB3 zB0 zBB full frz frz1 frzAt)
variable [Kc]
structure Sat (G0 H0 S0:Hp) (σ:St) (ρ:Ro) (G H:Hp) (As:Nat→Addr→Prop):Prop where
  ext:Ext G0 H0 G H
  stb:Same S0 G
  len:ρ.length = σ.length
  «at»:∀ (i:Nat) (d:Dt) (n:Nat),ρ[i]? = some (some (d,n))→∃ v,σ[i]? = some (some v)∧Own G H n (As i) d v
  dis:∀ i j a,As i a→As j a→i = j
  new:∀ i a,As i a→H0 a = none∧G a = none∧H a≠none
section
variable {G0 H0 S0:Hp} {σ:St} {ρ:Ro} {G H:Hp} {As:Nat→Addr→Prop}
theorem Sat.grow (a:Sat G0 H0 S0 σ ρ G H As) {H':Hp} (s:Same H H'):Sat G0 H0 S0 σ ρ G H' As :=
  ⟨a.ext.trans (Ext.same a.ext.in' s),a.stb,a.len,fun i d n e=>let ⟨v,h1,h2⟩:=a.at i d n e; ⟨v,h1,h2.mono (Same.refl _) s⟩,a.dis,fun i b h=>let ⟨n1,n2,n3⟩:=a.new i b h; ⟨n1,n2,s.some n3⟩⟩
theorem Sat.wider (a:Sat G0 H0 S0 σ ρ G H As) {G' H':Hp} (x:Ext G H G' H'):Sat G0 H0 S0 σ ρ G' H' As :=
  ⟨a.ext.trans x,a.stb.trans x.g,a.len,fun i d n e=>let ⟨v,h1,h2⟩:=a.at i d n e; ⟨v,h1,h2.mono x.g x.h⟩,a.dis,fun i b h=>let ⟨n1,n2,n3⟩:=a.new i b h; ⟨n1,(x.old b n3).trans n2,x.h.some n3⟩⟩
theorem Sat.full (a:Sat G0 H0 S0 σ ρ G H As):∃ J,Ext G0 H0 J H∧Same G J∧View J σ (full ρ):=by
  obtain ⟨s1,s2⟩:=zEC (S:=fun b=>∃ i,As i b) a.ext.in'
  refine ⟨over G H fun b=>∃ i,As i b,⟨a.ext.g.trans s1,a.ext.h,s2,fun b hb=>?_⟩,s1,by simp [Mi.full,a.len],fun i d e=>?_⟩
  · have z:¬ ∃ i,As i b:=fun ⟨i,z⟩=>hb (a.new i b z).1
    rw [zCN z]; exact a.ext.old b hb
  · unfold Mi.full at e
    rw [List.getElem?_map] at e
    cases e1:ρ[i]? with
    | none=>rw [e1] at e; cases e
    | some o =>
      rw [e1] at e
      cases o with
      | none=>cases e
      | some sl =>
        obtain ⟨d',n⟩:=sl
        cases e
        obtain ⟨v,h1,h2⟩:=a.at i _ n e1
        exact ⟨v,h1,h2.rep s1 fun b o hb e=>by rw [zF8 ⟨i,hb⟩]; exact e⟩
theorem Sat.put (a:Sat G0 H0 S0 σ ρ G H As) {i n:Nat} {d:Dt} {v:V} {S:Addr→Prop} (o:Own G H n S d v) (hS:∀ b,S b→H0 b = none∧G b = none∧H b≠none) (hd:∀ j b,j≠i→As j b→S b→False) :
    Sat G0 H0 S0 (σ.set i (some v)) (ρ.set i (some (d,n))) G H (fun j=>if j = i then S else As j):=by
  refine ⟨a.ext,a.stb,by simp [a.len],fun j e k h=>?_,fun j l b h1 h2=>?_,fun j b h=>?_⟩
  · have hj:j < ρ.length:=by
      have:=(List.getElem?_eq_some_iff.mp h).1
      simpa using this
    by_cases z:i = j
    · subst z
      rw [List.getElem?_set_self hj] at h
      cases h
      exact ⟨v,List.getElem?_set_self (by rw [← a.len]; exact hj),by rw [if_pos rfl]; exact o⟩
    · rw [List.getElem?_set_ne z] at h
      obtain ⟨u,h1,h2⟩:=a.at j e k h
      exact ⟨u,by rw [List.getElem?_set_ne z]; exact h1,by rw [if_neg (fun q=>z q.symm)]; exact h2⟩
  · try dsimp only at h1 h2
    by_cases z1:j = i
    · by_cases z2:l = i
      · rw [z1,z2]
      · rw [if_pos z1] at h1; rw [if_neg z2] at h2; exact (hd l b z2 h2 h1).elim
    · by_cases z2:l = i
      · rw [if_neg z1] at h1; rw [if_pos z2] at h2; exact (hd j b z1 h1 h2).elim
      · rw [if_neg z1] at h1; rw [if_neg z2] at h2; exact a.dis j l b h1 h2
  · try dsimp only at h
    by_cases z1:j = i
    · rw [if_pos z1] at h; exact hS b h
    · rw [if_neg z1] at h; exact a.new j b h
theorem Sat.set (a:Sat G0 H0 S0 σ ρ G H As) {H':Hp} {i n:Nat} {d:Dt} {v:V} {S:Addr→Prop} (s:Same H H') (o:Own G H' n S d v) (hS:∀ b,S b→H b = none∧G b = none∧H' b≠none) :
    Sat G0 H0 S0 (σ.set i (some v)) (ρ.set i (some (d,n))) G H' (fun j=>if j = i then S else As j) :=
  (a.grow s).put o (fun b hb=>⟨a.ext.h.free (hS b hb).1,(hS b hb).2⟩) fun j b _ h1 h2=>(a.new j b h1).2.2 (hS b h2).1
theorem Sat.frz1 (a:Sat G0 H0 S0 σ ρ G H As) (i:Nat):∃ G1 As1,Sat G0 H0 S0 σ (Mi.frz1 i ρ) G1 H As1:=by
  unfold Mi.frz1
  cases e1:ρ[i]? with
  | none=>exact ⟨G,As,a⟩
  | some o =>
    cases o with
    | none=>exact ⟨G,As,a⟩
    | some sl =>
      obtain ⟨d,n⟩:=sl
      dsimp only
      obtain ⟨v,h1,h2⟩:=a.at i d n e1
      obtain ⟨s1,s2⟩:=zEC (S:=As i) a.ext.in'
      have x:Ext G0 H0 (over G H (As i)) H:=⟨a.ext.g.trans s1,a.ext.h,s2,fun b hb=>by
        have z:¬ As i b:=fun z=>hb (a.new i b z).1
        rw [zCN z]; exact a.ext.old b hb⟩
      have hv:(σ.set i (some v)) = σ:=by
        have hi:i < σ.length:=(List.getElem?_eq_some_iff.mp h1).1
        have he:=(List.getElem?_eq_some_iff.mp h1).2
        rw [← he,List.set_getElem_self]
      have b:Sat G0 H0 S0 σ (ρ.set i (some (d,0))) (over G H (As i)) H (fun j b=>j≠i∧As j b):=by
        refine ⟨x,a.stb.trans s1,by simp [a.len],fun j e k h=>?_,fun j l b p q=>a.dis j l b p.2 q.2,fun j b p=>?_⟩
        · have hj:j < ρ.length:=by
            have:=(List.getElem?_eq_some_iff.mp h).1
            simpa using this
          by_cases z:i = j
          · subst z
            rw [List.getElem?_set_self hj] at h
            cases h
            exact ⟨v,h1,h2.rep s1 fun b o hb e=>by rw [zF8 hb]; exact e⟩
          · rw [List.getElem?_set_ne z] at h
            obtain ⟨u,q1,q2⟩:=a.at j e k h
            exact ⟨u,q1,(q2.mono s1 (Same.refl _)).sub fun b hb=>⟨fun q=>z q.symm,hb⟩⟩
        · obtain ⟨n1,n2,n3⟩:=a.new j b p.2
          have z:¬ As i b:=fun z=>p.1 (a.dis j i b p.2 z)
          exact ⟨n1,by rw [zCN z]; exact n2,n3⟩
      exact ⟨_,_,b⟩
theorem Sat.frzAt:∀ (vs:List Nat) {ρ:Ro} {G:Hp} {As:Nat→Addr→Prop},Sat G0 H0 S0 σ ρ G H As→∃ G1 As1,Sat G0 H0 S0 σ (Mi.frzAt vs ρ) G1 H As1
  | [],_,_,_,a=>⟨_,_,a⟩
  | i :: r,_,_,_,a=>by
    obtain ⟨G1,As1,b⟩:=a.frz1 i
    exact Sat.frzAt r b
theorem Sat.frz (a:Sat G0 H0 S0 σ ρ G H As):View G σ (Mi.frz ρ):=by
  refine ⟨by simp [Mi.frz,a.len],fun i d e=>?_⟩
  unfold Mi.frz at e
  rw [List.getElem?_map] at e
  cases e1:ρ[i]? with
  | none=>rw [e1] at e; cases e
  | some o =>
    rw [e1] at e
    cases o with
    | none=>cases e
    | some sl =>
      obtain ⟨d',n⟩:=sl
      obtain ⟨v,h1,h2⟩:=a.at i d' n e1
      simp only [Option.map_some,Option.some.injEq] at e
      split at e
      · rename_i hz
        cases e
        rcases hz with hz | hz
        · subst hz; exact ⟨v,h1,h2⟩
        · exact ⟨v,h1,Own.scalar (k:=0) (G2:=G) (H2:=H) (S2:=fun _=>False) h2 hz⟩
      · cases e
theorem Sat.store (a:Sat G0 H0 S0 σ ρ G H As) {i n:Nat} {d:Dt} {v:V} {p:Addr} {o:HO} {S:Addr→Prop} (hp:As i p) (hv:σ[i]? = some (some v)) (w:Own G (upd H p o) n S d v)
    (hS:∀ b,S b→As i b∨(H0 b = none∧G b = none∧H b≠none∧∀ j,¬ As j b)):Sat G0 H0 S0 σ (ρ.set i (some (d,n))) G (upd H p o) (fun j=>if j = i then S else As j):=by
  obtain ⟨p1,p2,p3⟩:=a.new i p hp
  have hn:∀ b,H b≠none→upd H p o b≠none:=fun b hb=>by
    by_cases z:b = p
    · subst z; rw [zAP]; simp
    · rw [zAO z]; exact hb
  refine ⟨⟨a.ext.g,L2.Same.upd a.ext.h p1 o,L2.Same.upd a.ext.in' p2 o,a.ext.old⟩,a.stb,by simp [a.len],fun j e k h=>?_,fun j l b h1 h2=>?_,fun j b h=>?_⟩
  · have hj:j < ρ.length:=by
      have:=(List.getElem?_eq_some_iff.mp h).1
      simpa using this
    by_cases z:i = j
    · subst z
      rw [List.getElem?_set_self hj] at h
      cases h
      exact ⟨v,hv,by rw [if_pos rfl]; exact w⟩
    · rw [List.getElem?_set_ne z] at h
      obtain ⟨u,h1,h2⟩:=a.at j e k h
      exact ⟨u,h1,by rw [if_neg (fun q=>z q.symm)]; exact h2.upd fun q=>z (a.dis i j p hp q)⟩
  · have key:∀ j b,j≠i→As j b→S b→False:=fun j b hj h1 h2=>by
      rcases hS b h2 with q | ⟨_,_,_,q⟩
      · exact hj (a.dis j i b h1 q)
      · exact q j h1
    try dsimp only at h1 h2
    by_cases z1:j = i
    · by_cases z2:l = i
      · rw [z1,z2]
      · rw [if_pos z1] at h1; rw [if_neg z2] at h2; exact (key l b z2 h2 h1).elim
    · by_cases z2:l = i
      · rw [if_neg z1] at h1; rw [if_pos z2] at h2; exact (key j b z1 h1 h2).elim
      · rw [if_neg z1] at h1; rw [if_neg z2] at h2; exact a.dis j l b h1 h2
  · try dsimp only at h
    by_cases z1:j = i
    · rw [if_pos z1] at h
      rcases hS b h with q | ⟨q1,q2,q3,_⟩
      · obtain ⟨n1,n2,n3⟩:=a.new i b q
        exact ⟨n1,n2,hn b n3⟩
      · exact ⟨q1,q2,hn b q3⟩
    · rw [if_neg z1] at h
      obtain ⟨n1,n2,n3⟩:=a.new j b h
      exact ⟨n1,n2,hn b n3⟩
end
def zE1 (mg:Str→Option Value) (E:XK) (G0 H0 S0:Hp) (L:Nat) (r:R Out) (D:Ends):Prop:=match r with
  | none=>False
  | some (.error x)=>∀ c da G' H',Ext G0 H0 G' H'→XRep mg x c da G' H'→E c da H'
  | some (.ok (.nx ρ))=>∀ σ G H As,Sat G0 H0 S0 σ ρ G H As→D.nx σ H
  | some (.ok (.bk ρ))=>∀ σ G H As,Sat G0 H0 S0 σ ρ G H As→D.bk σ H
  | some (.ok (.ct ρ))=>∀ σ G H As,Sat G0 H0 S0 σ ρ G H As→D.ct σ H
  | some (.ok (.rt d))=>∀ v G H S,Fr G0 H0 G H S→Own G H L S d v→D.rt v H
def DS (mg:Str→Option Value) (E:XK) (L:Nat) (t:TS) (m:SM):Prop:=∀ (G0 H0 S0:Hp) (σ:St) (ρ:Ro) (G H:Hp) (As:Nat→Addr→Prop) (D:Ends),Sat G0 H0 S0 σ ρ G H As→zE1 mg E G0 H0 S0 L (m ρ) D→t D σ H
section
variable {mg:Str→Option Value} {E:XK} {L n k l:Nat} {te ta tb:TE} {e ea eb:EM} {t u:TS} {m m':SM}
theorem errS {G0 H0 S0:Hp} {D:Ends}:Err mg E G0 H0 (fun r=>zE1 mg E G0 H0 S0 L r D):=⟨fun h=>h,fun _ h=>h⟩
theorem zCJ:DS mg E L zVO Mi.sNil:=fun G0 H0 S0 σ ρ G H As D a p=>p σ G H As a
theorem zAF (A:DS mg E L t m) (B:DS mg E L u m'):DS mg E L (tSeq t u) (Mi.sSeq m m'):=by
  intro G0 H0 S0 σ ρ G H As D a p
  refine A G0 H0 S0 σ ρ G H As _ a ?_
  unfold Mi.sSeq at p
  cases e:m ρ with
  | none=>rw [e] at p; exact p
  | some r =>
    rw [e] at p
    cases r with
    | error x=>exact p
    | ok o =>
      cases o with
      | nx ρ'=>exact fun σ' G' H' As' a'=>B G0 H0 S0 σ' ρ' G' H' As' D a' p
      | rt d=>exact p
      | bk ρ'=>exact p
      | ct ρ'=>exact p
theorem zE0 {tc:TT} {c:TM} (C:DT mg E tc c) (A:DS mg E L t m) (B:DS mg E L u m'):DS mg E L (tIfS tc t u) (Mi.sIf c m m'):=by
  intro G0 H0 S0 σ ρ G H As D a p
  obtain ⟨J,x,s,w⟩:=a.full
  refine C.step (errS.from x) x.in' w p fun b H' _ sH p1=>?_
  cases b with
  | true=>exact A G0 H0 S0 σ ρ G H' As D (a.grow sH) p1
  | false=>exact B G0 H0 S0 σ ρ G H' As D (a.grow sH) p1
theorem whole {G0 H0 S0:Hp} {σ:St} {ρ:Ro} {G H J G1 H1:Hp} {As:Nat→Addr→Prop} {S:Addr→Prop} {d:Dt} {v:V} (a:Sat G0 H0 S0 σ ρ G H As) (s:Same G J) (fr:Fr J H G1 H1 S) (o:Own G1 H1 n S d v) (hn:n < 1000) (hd:d.dep≤n) (hk:d.dep≤k) :
    Own G H1 k S d v∧∀ b,S b→H b = none∧G b = none∧H1 b≠none :=
  ⟨o.at hd hk hn,fun b hb=>let ⟨n1,n2,n3⟩:=fr.new b hb; ⟨n1,a.ext.in'.free n1,n3⟩⟩
theorem zAI {i:Nat} (vs:List Nat) (A:DE mg E te e n) (hn:n < 1000:=by decide):DS mg E L (tAsg te (zJO i)) (Mi.sSet i n vs e):=by
  intro G0 H0 S0 σ ρ G H As D a p
  obtain ⟨J,x,s,w⟩:=a.full
  unfold Mi.sSet at p
  cases ee:e (full ρ) with
  | none=>rw [ee] at p; exact p.elim
  | some r =>
    cases r with
    | error y=>exact A.step (errS.from x) x.in' w p fun d v G1 H1 S e1 fr o p1=>by rw [ee] at e1; cases e1
    | ok d =>
      by_cases hd:d.dep≤n
      · refine A.step (errS.from x) x.in' w p fun d' v G1 H1 S e1 fr o p1=>?_
        rw [ee] at e1
        cases e1
        rw [if_pos hd] at p1
        obtain ⟨q1,q2⟩:=whole (k:=n) a s fr o hn hd hd
        exact p1 _ G H1 _ (a.set fr.ext.h q1 q2)
      · rw [ee] at p
        have p':zE1 mg E G0 H0 S0 L (zA3 (e (frz (frzAt vs ρ))) fun d'=>okR (.nx ((frzAt vs ρ).set i (some (d',n))))) D:=by
          have p2:zE1 mg E G0 H0 S0 L (if d.dep≤n then okR (.nx (ρ.set i (some (d,n)))) else zA3 (e (frz (frzAt vs ρ))) fun d'=>okR (.nx ((frzAt vs ρ).set i (some (d',n))))) D:=p
          rw [if_neg hd] at p2; exact p2
        obtain ⟨G1,As1,a1⟩:=Sat.frzAt vs a
        refine A.step (errS.from a1.ext) a1.ext.in' a1.frz p' fun d' v G2 H2 S _ fr o p1=>?_
        exact p1 _ G2 H2 _ ((a1.wider fr.ext).put o (fun b hb=>let ⟨n1,n2,n3⟩:=fr.new b hb; ⟨a1.ext.h.free n1,n2,n3⟩) fun j b _ h1 h2=>(a1.new j b h1).2.2 (fr.new b h2).1)
theorem zBJ (vs:List Nat) (A:DE mg E te e n) (hn:n < 1000:=by decide):DS mg E L (tRet te) (Mi.sRet L n vs e):=by
  intro G0 H0 S0 σ ρ G H As D a p
  obtain ⟨J,x,s,w⟩:=a.full
  unfold Mi.sRet at p
  cases ee:e (full ρ) with
  | none=>rw [ee] at p; exact p.elim
  | some r =>
    cases r with
    | error y=>exact A.step (errS.from x) x.in' w p fun d v G1 H1 S e1 fr o p1=>by rw [ee] at e1; cases e1
    | ok d =>
      by_cases hd:d.dep≤n∧d.dep≤L
      · refine A.step (errS.from x) x.in' w p fun d' v G1 H1 S e1 fr o p1=>?_
        rw [ee] at e1
        cases e1
        rw [if_pos hd] at p1
        exact p1 v G1 H1 S (Fr.from x fr) (o.at hd.1 hd.2 hn)
      · rw [ee] at p
        have p2:zE1 mg E G0 H0 S0 L (if d.dep≤n∧d.dep≤L then okR (.rt d) else if n = L then zA3 (e (frz (frzAt vs ρ))) fun d'=>okR (.rt d') else none) D:=p
        rw [if_neg hd] at p2
        by_cases hl:n = L
        · rw [if_pos hl] at p2
          subst hl
          obtain ⟨G1,As1,a1⟩:=Sat.frzAt vs a
          refine A.step (errS.from a1.ext) a1.ext.in' a1.frz p2 fun d' v G2 H2 S _ fr o p1=>?_
          exact p1 v G2 H2 S (Fr.from a1.ext fr) o
        · rw [if_neg hl] at p2; exact p2.elim
theorem zFA (i:Nat):DS mg E L (tRet (vM i)) (Mi.sRetV L i):=by
  intro G0 H0 S0 σ ρ G H As D a p
  unfold Mi.sRetV at p
  cases e1:ρ[i]? with
  | none=>rw [e1] at p; exact p.elim
  | some o =>
    rw [e1] at p
    cases o with
    | none=>exact p.elim
    | some sl =>
      obtain ⟨d,k⟩:=sl
      obtain ⟨v,h1,h2⟩:=a.at i d k e1
      show vM i σ H D.rt
      unfold vM
      rw [h1]
      dsimp only at p
      split at p
      · rename_i hz
        rcases hz with hz | hz | hz
        · subst hz; exact p v G H (As i) ⟨a.ext,fun b hb=>a.new i b hb⟩ h2
        · subst hz
          obtain ⟨s1,s2⟩:=zEC (S:=As i) a.ext.in'
          refine p v (over G H (As i)) H (fun _=>False) ⟨⟨a.ext.g.trans s1,a.ext.h,s2,fun b hb=>?_⟩,fun _ z=>z.elim⟩ (h2.rep s1 fun b o hb e=>by rw [zF8 hb]; exact e)
          have z:¬ As i b:=fun z=>hb (a.new i b z).1
          rw [zCN z]; exact a.ext.old b hb
        · exact p v G H (As i) ⟨a.ext,fun b hb=>a.new i b hb⟩ (h2.at hz.1 hz.2.1 hz.2.2)
      · exact p.elim
theorem Sat.puts {G0 H0 S0 G H:Hp} {bs:List (Nat × Dt)} {ws:List (Nat × V)} (h:BsRep G bs ws):∀ {σ:St} {ρ:Ro} {As:Nat→Addr→Prop},Sat G0 H0 S0 σ ρ G H As→∃ As',Sat G0 H0 S0 (zH4 σ ws) (zBB ρ bs) G H As':=by
  induction h with
  | nil=>exact fun a=>⟨_,a⟩
  | cons r _ ih=>exact fun a=>ih (a.put (n:=0) (S:=fun _=>False) r (fun _ z=>z.elim) fun _ _ _ _ z=>z.elim)
theorem zXF {g:TG} {is:List Nat} (vs:List Nat) (hT:TgOk g (.tup is)) (A:DE mg E te e n):DS mg E L (tAsg te g) (Mi.sUnp is vs e):=by
  intro G0 H0 S0 σ ρ G H As D a p
  obtain ⟨G1,As1,a1⟩:=Sat.frzAt vs a
  refine (zAS A).step (errS.from a1.ext) a1.ext.in' a1.frz p fun d v G2 H2 S _ fr o p1=>?_
  cases eb:zB3 (.tup is) d with
  | none=>rw [eb] at p1; exact p1.elim
  | some bs =>
    rw [eb] at p1
    refine hT G2 H2 σ d v bs _ fr.ext.in' o eb fun ws hw=>?_
    obtain ⟨As',a2⟩:=Sat.puts hw (a1.wider fr.ext)
    exact p1 _ G2 H2 As' a2
theorem zXH (i:Nat) (A:DE mg E te e n) (hn:n < 1000:=by decide):DS mg E L (zTJ (tML appM (vM i) (zI9 te tNil))) (Mi.sApp i n e):=by
  intro G0 H0 S0 σ ρ G H As D a p
  obtain ⟨J,x,s,w⟩:=a.full
  unfold Mi.sApp at p
  cases e1:ρ[i]? with
  | none=>rw [e1] at p; exact p.elim
  | some o =>
    rw [e1] at p
    match o,e1,p with
    | none,_,p=>exact p.elim
    | some (.lst ds,k + 1),e1,p =>
      obtain ⟨v,h1,q,xs,T,rfl,hq,kd⟩:=a.at i _ _ e1
      unfold zTJ tML vM
      rw [h1]
      refine ⟨xs,hq,?_⟩
      refine A.step (errS.from x) x.in' w p fun d y G1 H1 S _ fr o p1=>?_
      split at p1
      · rename_i hz
        obtain ⟨q1,q2⟩:=whole (k:=k) a s fr o hn hz.2.1 hz.2.2
        refine ⟨xs,fr.ext.h _ _ hq,by rw [kd.len]; exact L2.big (by omega),?_⟩
        have hp:=kd.top
        have a1:=a.grow fr.ext.h
        have nS:¬ S q:=fun z=>(a.new i q hp).2.2 (q2 q z).1
        have ap:∀ r b,T r b→S b→False:=fun r b h1 h2=>(a.new i b (kd.sub r b h1)).2.2 (q2 b h2).1
        refine p1 σ G _ _ (a1.store (S:=fun b=>As i b∨S b) hp h1 ⟨q,_,fun r b=>(r < ds.length∧T r b)∨(r = ds.length∧S b),rfl,zAP,⟨by simp [kd.len],fun r d' z g1 g2=>?_,.inl hp,fun r z=>?_,fun r r' b z1 z2=>?_,fun r b z=>?_⟩⟩ fun b z=>?_)
        · by_cases hr:r < ds.length
          · rw [List.getElem?_append_left hr] at g1
            rw [List.getElem?_append_left (by rw [kd.len]; exact hr)] at g2
            exact (((kd.own r d' z g1 g2).mono (Same.refl _) fr.ext.h).upd (kd.out r)).sub fun b z=>.inl ⟨hr,z⟩
          · rw [List.getElem?_append_right (by omega)] at g1
            rw [List.getElem?_append_right (by rw [kd.len]; omega),kd.len] at g2
            have hq0:r - ds.length = 0:=by
              have:=(List.getElem?_eq_some_iff.mp g1).1
              simp at this; omega
            rw [hq0] at g1 g2
            simp at g1 g2
            subst g1; subst g2
            exact (q1.upd nS).sub fun b z=>.inr ⟨by omega,z⟩
        · rcases z with ⟨_,z⟩ | ⟨_,z⟩
          · exact kd.out r z
          · exact nS z
        · rcases z1 with ⟨c1,t1⟩ | ⟨c1,t1⟩ <;> rcases z2 with ⟨c2,t2⟩ | ⟨c2,t2⟩
          · exact kd.dis r r' b t1 t2
          · exact (ap r b t1 t2).elim
          · exact (ap r' b t2 t1).elim
          · omega
        · rcases z with ⟨_,z⟩ | ⟨_,z⟩
          · exact .inl (kd.sub r b z)
          · exact .inr z
        · rcases z with z | z
          · exact .inl z
          · obtain ⟨n1,n2,n3⟩:=q2 b z
            exact .inr ⟨a.ext.h.free n1,n2,n3,fun j y=>(a.new j b y).2.2 n1⟩
      · exact p1.elim
    | some (.lst ds,0),_,p=>exact p.elim
    | some (.non,_),_,p=>exact p.elim
    | some (.bl _,_),_,p=>exact p.elim
    | some (.int _,_),_,p=>exact p.elim
    | some (.str _,_),_,p=>exact p.elim
    | some (.tup _,_),_,p=>exact p.elim
    | some (.scr _,_),_,p=>exact p.elim
    | some (.exc _ _ _,_),_,p=>exact p.elim
    | some (.ins _ _,_),_,p=>exact p.elim
    | some (.dct _,_),_,p=>exact p.elim
end
end L3

namespace L3
open PySem PySem.Spec
open L2 hiding Rep RepL
open Mi (Dt Xn R okR zA3 optR zA0 zAA zAG zAB zAE Rh Sl Ro EM TM AM FM IM SM Tg Out zB3 zB0 zBB full frz frz1 frzAt)
section
variable [Kc] {mg:Str→Option Value} {E:XK} {L n k l:Nat} {te ta tb:TE} {e ea eb:EM} {t u:TS} {m m':SM}
theorem Kids.set {G H:Hp} {S:Addr→Prop} {a p:Addr} {ds:List Dt} {xs:List V} {T:Nat→Addr→Prop} {S':Addr→Prop} {d:Dt} {v:V} {o:HO} (k:Kids (Own G H n) S a ds xs T) (q:Nat) (w:Own G (upd H p o) n S' d v) (hp:∀ r,r≠q→¬ T r p) (ha:¬ S' a)
    (hd:∀ r b,r≠q→T r b→S' b→False):Kids (Own G (upd H p o) n) (fun b=>S b∨S' b) a (ds.set q d) (xs.set q v) (fun r b=>if r = q then S' b else T r b):=by
  refine ⟨by simp [k.len],fun r d' x h1 h2=>?_,.inl k.top,fun r=>?_,fun r r' b z1 z2=>?_,fun r b z=>?_⟩
  · by_cases z:q = r
    · subst z
      have h:q < ds.length:=by
        have:=(List.getElem?_eq_some_iff.mp h1).1
        simpa using this
      rw [List.getElem?_set_self h] at h1
      rw [List.getElem?_set_self (by rw [k.len]; exact h)] at h2
      cases h1; cases h2
      exact w.sub fun b hb=>by rw [if_pos rfl]; exact hb
    · rw [List.getElem?_set_ne z] at h1 h2
      exact ((k.own r d' x h1 h2).upd (hp r fun y=>z y.symm)).sub fun b hb=>by rw [if_neg (fun y=>z y.symm)]; exact hb
  · try dsimp only
    split
    · exact ha
    · exact k.out _
  · try dsimp only at z1 z2
    by_cases h1:r = q <;> by_cases h2:r' = q
    · rw [h1,h2]
    · rw [if_pos h1] at z1; rw [if_neg h2] at z2; exact (hd r' b h2 z2 z1).elim
    · rw [if_neg h1] at z1; rw [if_pos h2] at z2; exact (hd r b h1 z1 z2).elim
    · rw [if_neg h1] at z1; rw [if_neg h2] at z2; exact k.dis _ _ b z1 z2
  · try dsimp only at z
    by_cases h1:r = q
    · rw [if_pos h1] at z; exact .inr z
    · rw [if_neg h1] at z; exact .inl (k.sub _ b z)
theorem zUW (i:Nat) {n1:Nat} {t1 t2:TE} {e1 e2:EM} (A:DE mg E t1 e1 n1) (B:DE mg E t2 e2 n) (hn:n < 1000:=by decide):DS mg E L (tAsg t2 (gSub (vM i) t1 setM)) (Mi.sItem i n e1 e2):=by
  intro G0 H0 S0 σ ρ G H As D a p
  obtain ⟨J,x,s,w⟩:=a.full
  refine B.step (errS.from x) x.in' w p fun d y G1 H1 S _ fr o p1=>?_
  cases er:ρ[i]? with
  | none=>rw [er] at p1; exact p1.elim
  | some sl =>
    rw [er] at p1
    match sl,er,p1 with
    | none,_,p=>exact p.elim
    | some (.lst ds,k + 1),er,p1 =>
      obtain ⟨v,h1,q,xs,T,rfl,hq,kd⟩:=a.at i _ _ er
      unfold gSub vM
      rw [h1]
      have x1:Ext J H J H1:=Ext.same x.in' fr.ext.h
      refine (zAS A).step (errS.from (x.trans x1)) x1.in' w p1 fun z u G2 H2 S2 _ fr2 o2 p2=>?_
      cases z with
      | int z =>
        cases (show u = .int z from o2)
        try dsimp only at p2
        cases ei:Mi.ixA ds.length z with
        | none=>rw [ei] at p2; exact p2.elim
        | some c =>
          rw [ei] at p2
          try dsimp only at p2
          split at p2
          · rename_i hz
            rw [zIO] at ei
            obtain ⟨q1,q2⟩:=whole (k:=k) a s fr o hn hz.1 hz.2
            have sH:=fr.ext.h.trans fr2.ext.h
            refine ⟨xs,c,sH _ _ hq,by rw [kd.len]; exact ei,?_⟩
            have a1:=a.grow sH
            have nS:¬ S q:=fun z=>(a.new i q kd.top).2.2 (q2 q z).1
            have kd1:Kids (Own G H2 k) (As i) q ds xs T:=kd.imp (fun _ _ _ _ w=>w.mono (Same.refl _) sH) fun _ z=>z
            refine p2 σ G _ _ (a1.store (S:=fun b=>As i b∨S b) kd.top h1 ⟨q,_,_,rfl,zAP,kd1.set c ((q1.mono (Same.refl _) fr2.ext.h).upd nS) (fun r _=>kd.out r) nS fun r b _ z1 z2=>(a.new i b (kd.sub r b z1)).2.2 (q2 b z2).1⟩ fun b z=>?_)
            rcases z with z | z
            · exact .inl z
            · obtain ⟨n1,n2,n3⟩:=q2 b z
              exact .inr ⟨a.ext.h.free n1,n2,fr2.ext.h.some n3,fun j y=>(a.new j b y).2.2 n1⟩
          · exact p2.elim
      | _=>exact p2.elim
    | some (.lst ds,0),_,p=>exact p.elim
    | some (.non,_),_,p=>exact p.elim
    | some (.bl _,_),_,p=>exact p.elim
    | some (.int _,_),_,p=>exact p.elim
    | some (.str _,_),_,p=>exact p.elim
    | some (.tup _,_),_,p=>exact p.elim
    | some (.scr _,_),_,p=>exact p.elim
    | some (.exc _ _ _,_),_,p=>exact p.elim
    | some (.ins _ _,_),_,p=>exact p.elim
    | some (.dct _,_),_,p=>exact p.elim
theorem zX9 {G0 H0 S0:Hp} {D:Ends} {g:TG} {tg:Tg} {J:It} {ds:List Dt} {GJ:Hp} (hT:TgOk g tg) (B:DS mg E L t m) (io:ItOk J GJ ds) {σ:St} {ρ:Ro} {G H:Hp} {As:Nat→Addr→Prop} (a:Sat G0 H0 S0 σ ρ G H As) (sJ:Same GJ G)
    (p:zE1 mg E G0 H0 S0 L (Mi.forGo tg m ds ρ) D):zQX g t D σ J H:=by
  refine ⟨fun i c σ H=>c = ds.length - i∧i≤ds.length∧∃ ρ G As,Sat G0 H0 S0 σ ρ G H As∧Same GJ G∧zE1 mg E G0 H0 S0 L (Mi.forGo tg m (ds.drop i) ρ) D,
    ⟨_,rfl,Nat.zero_le _,ρ,G,As,a,sJ,by rw [List.drop_zero]; exact p⟩,?_⟩
  rintro i c σ H ⟨rfl,hi,ρ,G,As,a,sJ,p⟩
  obtain ⟨j1,j2,j3⟩:=io i G H sJ a.ext.in'
  by_cases hlt:i < ds.length
  · refine .inr ⟨j1 hlt,fun σ' H'=>i + 1≤ds.length∧∃ ρ G As,Sat G0 H0 S0 σ' ρ G H' As∧Same GJ G∧zE1 mg E G0 H0 S0 L (Mi.forGo tg m (ds.drop (i + 1)) ρ) D,fun σ' H' q=>⟨ds.length - (i + 1),by omega,rfl,q⟩,fun x H2 hy=>?_⟩
    have hd:ds[i]? = some ds[i]:=List.getElem?_eq_getElem hlt
    obtain ⟨G2,x2,r2⟩:=j3 x H2 ds[i] hd hy
    rw [List.drop_eq_getElem_cons hlt,Mi.forGo] at p
    cases eb:zB3 tg ds[i] with
    | none=>rw [eb] at p; exact p.elim
    | some bs =>
      rw [eb] at p
      try dsimp only at p
      refine hT G2 H2 _ _ x bs _ x2.in' r2 eb fun ws hb=>?_
      obtain ⟨As2,a2⟩:=Sat.puts hb (a.wider x2)
      have a3:Sat G0 H0 GJ (zH4 σ ws) (zBB ρ bs) G2 H2 As2:=⟨a2.ext,sJ.trans x2.g,a2.len,a2.at,a2.dis,a2.new⟩
      have key:∀ (S1:Hp),Same S0 S1→Same GJ S1→Sat G0 H0 S1 (zH4 σ ws) (zBB ρ bs) G2 H2 As2→t { D with nx:=fun σ' H'=>i + 1≤ds.length∧∃ ρ G As,Sat G0 H0 S0 σ' ρ G H' As∧Same GJ G∧zE1 mg E G0 H0 S0 L (Mi.forGo tg m (ds.drop (i + 1)) ρ) D,ct:=fun σ' H'=>i + 1≤ds.length∧∃ ρ G As,Sat G0 H0 S0 σ' ρ G H' As∧Same GJ G∧zE1 mg E G0 H0 S0 L (Mi.forGo tg m (ds.drop (i + 1)) ρ) D,bk:=D.nx } (zH4 σ ws) H2:=by
        intro S1 s1 s2 a4
        refine B G0 H0 S1 _ _ G2 H2 As2 _ a4 ?_
        have back:∀ {σ':St} {ρ':Ro} {G' H':Hp} {As':Nat→Addr→Prop},Sat G0 H0 S1 σ' ρ' G' H' As'→Sat G0 H0 S0 σ' ρ' G' H' As'∧Same GJ G':=fun a5=>⟨⟨a5.ext,s1.trans a5.stb,a5.len,a5.at,a5.dis,a5.new⟩,s2.trans a5.stb⟩
        cases em:m (zBB ρ bs) with
        | none=>rw [em] at p; exact p
        | some r =>
          rw [em] at p
          cases r with
          | error y=>exact p
          | ok o =>
            cases o with
            | nx ρ'=>exact fun σ' G' H' As' a5=>⟨hlt,ρ',G',As',(back a5).1,(back a5).2,p⟩
            | ct ρ'=>exact fun σ' G' H' As' a5=>⟨hlt,ρ',G',As',(back a5).1,(back a5).2,p⟩
            | bk ρ'=>exact fun σ' G' H' As' a5=>p σ' G' H' As' (back a5).1
            | rt d=>exact p
      exact key G2 a2.stb (sJ.trans x2.g) ⟨a2.ext,Same.refl _,a2.len,a2.at,a2.dis,a2.new⟩
  · have e:i = ds.length:=by omega
    subst e
    rw [List.drop_length,Mi.forGo] at p
    exact .inl ⟨j2 (Nat.le_refl _),p σ G H As a⟩
theorem zEG {wi:TI} {it:IM} {i:Nat} (I:DI mg E wi it true) (B:DS mg E L t m):DS mg E L (fun D σ H=>wi σ H (zQX (zJO i) t D σ)) (Mi.sForR it i m):=by
  intro G0 H0 S0 σ ρ G H As D a p
  obtain ⟨J,x,s,w⟩:=a.full
  refine I.step (errS.from x) x.in' w p fun ds J G2 H2 _ x2 io p1=>?_
  exact zX9 (zAV i) B io (a.grow x2.h) (fun b o e=>by cases e) p1
theorem zY1 {G0 H0 S0:Hp} {D:Ends} {tc:TT} {c:TM} (C:DT mg E tc c) (B:DS mg E L t m) (N:Nat) {σ:St} {ρ:Ro} {G H:Hp} {As:Nat→Addr→Prop} (a:Sat G0 H0 S0 σ ρ G H As) (p:zE1 mg E G0 H0 S0 L (Mi.whGo c m N ρ) D):zOQ tc t D σ H:=by
  refine ⟨fun i σ H=>∃ ρ G As,Sat G0 H0 S0 σ ρ G H As∧zE1 mg E G0 H0 S0 L (Mi.whGo c m i ρ) D,⟨N,ρ,G,As,a,p⟩,?_⟩
  rintro i σ H ⟨ρ,G,As,a,p⟩
  cases i with
  | zero=>exact p.elim
  | succ i =>
    obtain ⟨J,x,s,w⟩:=a.full
    rw [Mi.whGo] at p
    refine C.step (errS.from x) x.in' w p fun b H' _ sH p1=>?_
    cases b with
    | false=>exact p1 σ G H' As (a.grow sH)
    | true =>
      rw [if_pos rfl]
      refine ⟨fun σ' H'=>∃ ρ G As,Sat G0 H0 S0 σ' ρ G H' As∧zE1 mg E G0 H0 S0 L (Mi.whGo c m i ρ) D,fun σ' H' q=>⟨i,Nat.lt_succ_self i,q⟩,?_⟩
      refine B G0 H0 S0 σ ρ G H' As _ (a.grow sH) ?_
      rw [if_pos rfl] at p1
      cases em:m ρ with
      | none=>rw [em] at p1; exact p1
      | some r =>
        rw [em] at p1
        cases r with
        | error y=>exact p1
        | ok o =>
          cases o with
          | nx ρ'=>exact fun σ' G' H' As' a5=>⟨ρ',G',As',a5,p1⟩
          | ct ρ'=>exact fun σ' G' H' As' a5=>⟨ρ',G',As',a5,p1⟩
          | bk ρ'=>exact fun σ' G' H' As' a5=>p1 σ' G' H' As' a5
          | rt d=>exact p1
theorem zN8 {tc:TT} {c:TM} (C:DT mg E tc c) (B:DS mg E L t m):DS mg E L (zOQ tc t) (Mi.sWhile c m):=fun G0 H0 S0 σ ρ G H As D a p=>zY1 C B _ a p
theorem dz (A:DE mg E te e 0):DE mg E te e 0:=A
theorem zB2 {P N:Nat} {vs:List V} {H:Hp} {Q:VK} {E:XK} (h:spM mg L (Mi.runF P N m) vs H Q E):vs.length = P:=by
  obtain ⟨G,ds,s,r,p⟩:=h
  rw [r.length]
  unfold Mi.runF at p
  split at p
  · rename_i h; exact h
  · exact p.elim
theorem zBF {P:Nat} {N:List Str} {vs:List V} {H:Hp} {Q:VK} (B:DS mg E L t m) (h:spM mg L (Mi.runF P N.length m) vs H Q E):t { nx:=fun _ H'=>Q .non H',rt:=Q } (L2.start N vs) H:=by
  obtain ⟨G,ds,s,r,p⟩:=h
  unfold Mi.runF at p
  split at p
  · refine B G H G _ (Mi.startO N.length ds) G H (fun _ _=>False) _ ⟨Ext.refl s,Same.refl _,?_,fun i d n e=>?_,fun _ _ _ z=>z.elim,fun _ _ z=>z.elim⟩ ?_
    · unfold Mi.startO L2.start
      simp [r.length]
    · unfold Mi.startO at e
      by_cases hi:i < ds.length
      · rw [List.getElem?_append_left (by simpa using hi),List.getElem?_map] at e
        cases e1:ds[i]? with
        | none=>rw [e1] at e; cases e
        | some d' =>
          rw [e1] at e
          cases e
          have hv:vs[i]? = some (vs[i]'(by rw [r.length]; exact hi)):=by simp
          refine ⟨vs[i]'(by rw [r.length]; exact hi),?_,zCL r e1 hv⟩
          unfold L2.start
          rw [List.getElem?_append_left (by simpa [r.length] using hi),List.getElem?_map,hv]
          rfl
      · rw [List.getElem?_append_right (by simpa using hi),List.getElem?_replicate] at e
        split at e <;> cases e
    · cases em:m (Mi.startO N.length ds) with
      | none=>rw [em] at p; exact p
      | some r =>
        rw [em] at p
        cases r with
        | error y=>exact p
        | ok o =>
          cases o with
          | nx ρ'=>exact fun σ' G' H' As' a=>PostE.val (d:=.non) p a.ext rfl rfl
          | rt d=>exact p
          | bk ρ'=>exact p.elim
          | ct ρ'=>exact p.elim
  · exact p.elim
end
end L3
namespace L3
open PySem PySem.Spec
open L2 hiding Rep RepL
open Mi (Dt FM okR)
def sp0 (K:PySem.W.Frag) (mg:Str→Option Value) (L:Nat) (f:FM):Sp:=fun vs H Q _=>@spM ⟨K⟩ mg L f vs H Q E0
end L3

namespace L3
open PySem PySem.Spec
open L2 hiding Rep RepL
open Mi (Dt Xn R okR zA3 optR zA0 zAA zAG zAB zAE Rh Sl Ro EM TM AM FM IM SM OM Tg Out zB3 zB0 zBB full frz frz1 frzAt)
section
variable [Kc] {mg:Str→Option Value} {E:XK} {L n k l:Nat} {te ta tb:TE} {e ea eb:EM} {t u:TS} {m m':SM}
theorem zXP {f:List Dt→Option Dt} {g:Int→Int→Int} {r:List V→Hp→VK→Prop} (hr:∀ i j H Q,Q (.int (g i j)) H→r [.int i,.int j] H Q) (hf:∀ i j,f [.int i,.int j] = some (.int (g i j))) (hn:∀ ds,(∀ i j,ds≠[.int i,.int j])→f ds = none):CBi r f n:=by
  intro mg E G H ds vs Q s h p
  by_cases hd:∃ i j,ds = [.int i,.int j]
  · obtain ⟨i,j,rfl⟩:=hd
    obtain ⟨x,y,rfl,hx,hy⟩:=zR9 h
    cases (show x = .int i from hx)
    cases (show y = .int j from hy)
    rw [hf] at p
    exact hr i j H Q (PostE.val p (Ext.refl s) rfl rfl)
  · rw [hn ds fun i j e=>hd ⟨i,j,e⟩] at p
    exact p.elim
theorem zQU {f:List Dt→Option Dt} (h1:f [] = none) (h2:∀ x,f [x] = none) (h3:∀ x y z r,f (x :: y :: z :: r) = none) (h4:∀ x y,(∀ i j,[x,y]≠[.int i,.int j])→f [x,y] = none):∀ ds,(∀ i j,ds≠[.int i,.int j])→f ds = none:=by
  intro ds h
  match ds,h with
  | [],_=>exact h1
  | [x],_=>exact h2 x
  | [x,y],h=>exact h4 x y h
  | x :: y :: z :: r,_=>exact h3 x y z r
theorem zXQ:CBi (fun xs H Q=>∃ i j,xs = [.int i,.int j]∧Q (.int (if j < i then j else i)) H) Mi.minD n :=
  zXP (g:=fun i j=>if j < i then j else i) (fun i j H Q q=>⟨i,j,rfl,q⟩) (fun _ _=>rfl) (zQU rfl (fun x=>by cases x <;> rfl) (fun x y z r=>by cases x <;> cases y <;> rfl) (fun x y h=>by cases x <;> cases y <;> first | rfl | exact absurd rfl (h _ _)))
theorem zM9 {G:Hp} {d:Dt} {v:V} (h:Rep G d v) (hd:d.dep = 0):zGA v = true:=(zEQ (by omega) h).flat (Nat.le_zero.mp (Nat.le_trans (zFV (by omega)) (Nat.le_of_eq hd)))
theorem zQ1 {G:Hp} {d e:Dt} {v u:V} (h:Rep G d v) (h':Rep G e u) (hd:d.dep = 0) (he:e.dep = 0):eqV v u = Dt.eq d e:=by
  rw [← zMD (by omega) (by omega)]
  exact (zEQ (by omega) h).flatEq (zEQ (by omega) h') (Nat.le_zero.mp (Nat.le_trans (zFV (by omega)) (Nat.le_of_eq hd))) (Nat.le_zero.mp (Nat.le_trans (zFV (by omega)) (Nat.le_of_eq he)))
theorem zUT {G:Hp} {d:Dt} {v:V} (h:Rep G d v) (hd:d.dep = 0):∀ {ds:List Dt} {vs:List V},RepL G ds vs→Dt.depL ds = 0→vs.all zGA = true∧inV v vs = ds.any fun y=>Dt.eq y d
  | [],vs,r,_=>by cases (show vs = [] from r); exact ⟨rfl,rfl⟩
  | e :: ds,vs,r,hz=>by
    obtain ⟨x,q,rfl,a,b⟩:=r
    rw [Dt.depL] at hz
    obtain ⟨h1,h2⟩:=zUT h hd b (by omega)
    have he:e.dep = 0:=by omega
    refine ⟨by simp [zM9 a he,h1],?_⟩
    unfold inV at h2 ⊢
    rw [List.any_cons,List.any_cons,h2,zQ1 a h he hd]
theorem zKF {ng:Bool}:ROp (rInU Kc.K ng) (Mi.inD ng) n:=by
  intro mg E G H d e x y Q s h1 h2 p
  cases e with
  | lst ys =>
    obtain ⟨a,vs,rfl,ha,r⟩:=h2
    unfold Mi.inD Mi.hasD at p
    dsimp only at p
    by_cases hz:d.dep = 0∧Dt.depL ys = 0
    · rw [if_pos hz] at p
      obtain ⟨g1,g2⟩:=zUT h1 hz.1 r hz.2
      refine ⟨vs,.inl (SqL.of (s _ _ ha)),zM9 h1 hz.1,g1,?_⟩
      rw [g2]
      exact PostE.val p (Ext.refl s) rfl rfl
    · rw [if_neg hz] at p; exact p.elim
  | tup ys =>
    obtain ⟨a,vs,rfl,ha,r⟩:=h2
    unfold Mi.inD Mi.hasD at p
    dsimp only at p
    by_cases hz:d.dep = 0∧Dt.depL ys = 0
    · rw [if_pos hz] at p
      obtain ⟨g1,g2⟩:=zUT h1 hz.1 r hz.2
      refine ⟨vs,.inr (SqT.of (s _ _ ha)),zM9 h1 hz.1,g1,?_⟩
      rw [g2]
      exact PostE.val p (Ext.refl s) rfl rfl
    · rw [if_neg hz] at p; exact p.elim
  | str z =>
    cases (show y = .str z from h2)
    cases d with
    | str w =>
      cases (show x = .str w from h1)
      obtain ⟨⟨wl⟩⟩:=w
      match wl,p with
      | [c],p =>
        have p':PostE mg E G H n (okR (.bl (if ng = true then !decide (c∈z.cps.toList) else decide (c∈z.cps.toList)))) Q:=p
        have q:=PostE.val (v:=.bl (if ng = true then !decide (c∈z.cps.toList) else decide (c∈z.cps.toList))) p' (Ext.refl s) rfl rfl
        rw [← StrLaws.found_one z c] at q
        exact q
      | [],p=>exact p.elim
      | _ :: _ :: _,p=>exact p.elim
    | _=>exact p.elim
  | _=>exact p.elim
def DO (mg:Str→Option Value) (E:XK) (t:TO) (m:OM):Prop:=∀ (G H:Hp) (σ:St) (ρ:Rh) (Q:Option Int→Hp→Prop),Same G H→View G σ ρ →
  (match m ρ with
    | none=>False
    | some (.error x)=>∀ c da G' H',Ext G H G' H'→XRep mg x c da G' H'→E c da H'
    | some (.ok o)=>∀ H',Same H H'→Q o H')→t σ H Q
theorem DO.step {β:Type} {t:TO} {m:OM} (D:DO mg E t m) {G H:Hp} {σ:St} {ρ:Rh} {Q:Option Int→Hp→Prop} {P:R β→Prop} {f:Option Int→R β} (hE:Err mg E G H P) (s:Same G H) (w:View G σ ρ) (p:P (zA3 (m ρ) f))
    (h:∀ b H',m ρ = okR b→Same H H'→P (f b)→Q b H'):t σ H Q:=by
  refine D G H σ ρ Q s w ?_
  cases e:m ρ with
  | none=>rw [e] at p; exact hE.no p
  | some r =>
    rw [e] at p
    cases r with
    | error x=>exact hE.er x p
    | ok b=>exact fun H' sH=>h b H' e sH p
theorem zUY:DO mg E zOR Mi.oNo:=fun G H σ ρ Q s w p=>p H (Same.refl _)
theorem do_e (A:DE mg E te e k):DO mg E (zVN te) (Mi.oE e):=by
  intro G H σ ρ Q s w p
  unfold Mi.oE at p
  refine (zAS A).step (P:=fun r=>match r with
    | none=>False
    | some (.error x)=>∀ c da G' H',Ext G H G' H'→XRep mg x c da G' H'→E c da H'
    | some (.ok o)=>∀ H',Same H H'→Q o H') ⟨fun h=>h,fun _ h=>h⟩ s w p fun d v G1 H1 S _ fr o p1=>?_
  cases d with
  | int i=>exact ⟨i,o,p1 H1 fr.ext.h⟩
  | _=>exact p1.elim
theorem zNE (n d:Nat) (o:Option Int):Mi.cutIx n d o = HT.sIx n d o:=by cases o <;> rfl
theorem zKH {G:Hp}:∀ {ds:List Dt} {xs:List V} (i:Nat),RepL G ds xs→RepL G (ds.drop i) (xs.drop i)
  | ds,xs,0,r=>by simpa using r
  | [],xs,i + 1,r=>by cases (show xs = [] from r); exact rfl
  | d :: ds,xs,i + 1,r=>by
    obtain ⟨x,q,rfl,a,b⟩:=r
    exact zKH i b
theorem zKG {G:Hp}:∀ {ds:List Dt} {xs:List V} (i:Nat),RepL G ds xs→RepL G (ds.take i) (xs.take i)
  | ds,xs,0,r=>by simp; exact rfl
  | [],xs,i + 1,r=>by cases (show xs = [] from r); exact rfl
  | d :: ds,xs,i + 1,r=>by
    obtain ⟨x,q,rfl,a,b⟩:=r
    exact ⟨x,_,rfl,a,zKG i b⟩
theorem zR8 {G:Hp} {ds:List Dt} {xs:List V} (r:RepL G ds xs) (lo hi:Option Int):RepL G (Mi.cutA ds lo hi) (cutV xs lo hi):=by
  unfold Mi.cutA cutV
  rw [zNE,zNE,r.length]
  exact zKG _ (zKH _ r)
def RSl (r:V→Option Int→Option Int→Hp→VK→Prop) (n:Nat):Prop:=∀ (mg:Str→Option Value) (E:XK) (G H:Hp) (d:Dt) (x:V) (lo hi:Option Int) (Q:VK),Same G H→Rep G d x→PostE mg E G H n (optR (Mi.slD d lo hi)) Q→r x lo hi H Q
theorem zXN {r:V→Option Int→Option Int→Hp→VK→Prop} {tl th:TO} {ml mh:OM} (hr:RSl r n) (A:DE mg E te e k) (B:DO mg E tl ml) (C:DO mg E th mh):DE mg E (tSl r te tl th) (Mi.eSl e ml mh) n:=by
  intro G H σ ρ Q s w p
  refine (zAS A).step errE s w p fun d v G1 H1 S _ fr o p1=>?_
  refine B.step (errE.from fr.ext) fr.ext.in' (w.mono fr.ext.g) p1 fun lo H2 _ s2 p2=>?_
  have x2:=fr.ext.trans (Ext.same fr.ext.in' s2)
  refine C.step (errE.from x2) x2.in' (w.mono fr.ext.g) p2 fun hi H3 _ s3 p3=>?_
  have x3:=x2.trans (Ext.same x2.in' s3)
  exact hr mg E G1 H3 d v lo hi Q x3.in' o (PostE.from p3 x3)
theorem zFR (i:Nat) {n0 n1:Nat} {t0 t1 t2:TE} {e0 e1 e2:EM} (Z:DE mg E t0 e0 n0) (A:DE mg E t1 e1 n1) (B:DE mg E t2 e2 n) (hn:n < 1000:=by decide):DS mg E L (tAsg t2 (gSub (tOp (rIxU Kc.K) (vM i) t0) t1 setM)) (Mi.sItem2 i n e0 e1 e2):=by
  intro G0 H0 S0 σ ρ G H As D a p
  obtain ⟨J,x,s,w⟩:=a.full
  refine B.step (errS.from x) x.in' w p fun d y G1 H1 S _ fr o p1=>?_
  cases er:ρ[i]? with
  | none=>rw [er] at p1; exact p1.elim
  | some sl =>
    rw [er] at p1
    match sl,er,p1 with
    | none,_,p=>exact p.elim
    | some (.lst rs,k + 2),er,p1 =>
      obtain ⟨v,h1,q,xs,T,rfl,hq,kd⟩:=a.at i _ _ er
      unfold gSub tOp vM
      rw [h1]
      have x1:Ext J H J H1:=Ext.same x.in' fr.ext.h
      refine (zAS Z).step (errS.from (x.trans x1)) x1.in' w p1 fun z0 u0 G2 H2 S2 _ fr2 o2 p2=>?_
      cases z0 with
      | int y0 =>
        cases (show u0 = .int y0 from o2)
        dsimp only at p2
        cases ei:Mi.ixA rs.length y0 with
        | none=>rw [ei] at p2; exact p2.elim
        | some c =>
          rw [ei] at p2
          dsimp only at p2
          cases erow:rs[c]? with
          | none=>rw [erow] at p2; exact p2.elim
          | some row =>
            rw [erow] at p2
            cases row with
            | lst ds =>
              have hc:c < xs.length:=by rw [kd.len]; exact (List.getElem?_eq_some_iff.mp erow).1
              have hxc:xs[c]? = some xs[c]:=List.getElem?_eq_getElem hc
              obtain ⟨qr,ys,U,er2,hqr,kr⟩:=kd.own c _ _ erow hxc
              have sH2:=fr.ext.h.trans fr2.ext.h
              refine ⟨xs,xs[c],.inl (SqL.of (sH2 _ _ hq)),?_,?_⟩
              · unfold atI
                rw [kd.len,← zIO,ei]
                exact hxc
              have x2:Ext J H J H2:=Ext.same x.in' sH2
              refine (zAS A).step (errS.from (x.trans x2)) x2.in' w p2 fun z u G3 H3 S3 _ fr3 o3 p3=>?_
              cases z with
              | int z =>
                cases (show u = .int z from o3)
                dsimp only at p3
                cases ez:Mi.ixA ds.length z with
                | none=>rw [ez] at p3; exact p3.elim
                | some c2 =>
                  rw [ez] at p3
                  dsimp only at p3
                  split at p3
                  · rename_i hz
                    rw [zIO] at ez
                    obtain ⟨q1,q2⟩:=whole (k:=k) a s fr o hn hz.1 hz.2
                    have sH:=sH2.trans fr3.ext.h
                    rw [er2]
                    refine ⟨ys,c2,sH _ _ hqr,by rw [kr.len]; exact ez,?_⟩
                    have a1:=a.grow sH
                    have tqr:T c qr:=kr.top
                    have iqr:As i qr:=kd.sub c qr tqr
                    have nS:¬ S qr:=fun z=>(a.new i qr iqr).2.2 (q2 qr z).1
                    have qne:q≠qr:=fun z=>kd.out c (z ▸ tqr)
                    have fresh:∀ b,As i b→S b→False:=fun b z1 z2=>(a.new i b z1).2.2 (q2 b z2).1
                    have kr1:Kids (Own G H3 k) (T c) qr ds ys U:=kr.imp (fun _ _ _ _ w=>w.mono (Same.refl _) sH) fun _ z=>z
                    have rowK:=kr1.set (p:=qr) (o:=.lst (ys.set c2 y)) c2 ((q1.mono (Same.refl _) (fr2.ext.h.trans fr3.ext.h)).upd nS) (fun r _=>kr.out r) nS (fun r b _ z1 z2=>fresh b (kd.sub c b (kr.sub r b z1)) z2)
                    refine p3 σ G _ _ (a1.store (S:=fun b=>As i b∨S b) (d:=.lst (rs.set c (.lst (ds.set c2 d)))) (n:=k + 2) (v:=.ref q) iqr h1 ⟨q,xs,fun r b=>if r = c then T c b∨S b else T r b,rfl,(zAO qne).trans (sH _ _ hq),⟨by simp [kd.len],fun r d' xr g1 g2=>?_,.inl kd.top,fun r=>?_,fun r r' b z1 z2=>?_,fun r b z=>?_⟩⟩ fun b z=>?_)
                    · by_cases hr:c = r
                      · subst hr
                        rw [List.getElem?_set_self (by rw [← kd.len]; exact hc)] at g1
                        cases g1
                        rw [hxc] at g2
                        cases g2
                        refine ⟨qr,_,_,er2,zAP,rowK.imp (fun _ _ _ _ w=>w) fun b z=>?_⟩
                        rw [if_pos rfl]; exact z
                      · rw [List.getElem?_set_ne hr] at g1
                        have nr:¬ T r qr:=fun z=>hr (kd.dis c r qr tqr z)
                        exact (((kd.own r d' xr g1 g2).mono (Same.refl _) sH).upd nr).sub fun b z=>by rw [if_neg (fun z=>hr z.symm)]; exact z
                    · try dsimp only
                      split
                      · exact fun z=>z.elim (kd.out c) fun z=>fresh q kd.top z
                      · exact kd.out r
                    · try dsimp only at z1 z2
                      by_cases g1:r = c <;> by_cases g2:r' = c
                      · rw [g1,g2]
                      · rw [if_pos g1] at z1; rw [if_neg g2] at z2
                        rcases z1 with z1 | z1
                        · rw [g1]; exact kd.dis c r' b z1 z2
                        · exact (fresh b (kd.sub r' b z2) z1).elim
                      · rw [if_neg g1] at z1; rw [if_pos g2] at z2
                        rcases z2 with z2 | z2
                        · rw [g2]; exact kd.dis r c b z1 z2
                        · exact (fresh b (kd.sub r b z1) z2).elim
                      · rw [if_neg g1] at z1; rw [if_neg g2] at z2; exact kd.dis r r' b z1 z2
                    · try dsimp only at z
                      by_cases g1:r = c
                      · rw [if_pos g1] at z
                        rcases z with z | z
                        · exact .inl (kd.sub c b z)
                        · exact .inr z
                      · rw [if_neg g1] at z; exact .inl (kd.sub r b z)
                    · rcases z with z | z
                      · exact .inl z
                      · obtain ⟨n1,n2,n3⟩:=q2 b z
                        exact .inr ⟨a.ext.h.free n1,n2,(fr2.ext.h.trans fr3.ext.h).some n3,fun j y=>(a.new j b y).2.2 n1⟩
                  · exact p3.elim
              | _=>exact p3.elim
            | _=>exact p2.elim
      | _=>exact p2.elim
    | some (.lst ds,0),_,p=>exact p.elim
    | some (.lst ds,1),_,p=>exact p.elim
    | some (.non,_),_,p=>exact p.elim
    | some (.bl _,_),_,p=>exact p.elim
    | some (.int _,_),_,p=>exact p.elim
    | some (.str _,_),_,p=>exact p.elim
    | some (.tup _,_),_,p=>exact p.elim
    | some (.scr _,_),_,p=>exact p.elim
    | some (.exc _ _ _,_),_,p=>exact p.elim
    | some (.ins _ _,_),_,p=>exact p.elim
    | some (.dct _,_),_,p=>exact p.elim
end
end L3

namespace L3
open PySem PySem.Spec
open L2 hiding Rep RepL
open Mi (Dt Xn R okR zA3 optR zA0 zAA zAG zAB zAE Rh Sl Ro EM TM AM FM IM SM OM Tg Out zB3 zB0 zBB full frz frz1 frzAt)
section
variable [Kc] {mg:Str→Option Value} {E:XK} {L n k l:Nat} {te ta tb:TE} {e ea eb ma:EM} {t:TA} {m:AM}
theorem rs_u:RSl (rSlU Kc.K) 1:=by
  intro mg E G H d x lo hi Q s h p
  cases d with
  | lst ds =>
    obtain ⟨a,xs,rfl,ha,r⟩:=h
    exact ⟨xs,SqL.of (s _ _ ha),fun q hq=>PostE.lst p (Ext.refl s) (zR8 r lo hi) hq⟩
  | str z =>
    cases (show x = .str z from h)
    rw [Mi.slD] at p
    by_cases hz:z.length≤100000
    · rw [if_pos hz] at p; exact ⟨big' hz,PostE.val p (Ext.refl s) rfl rfl⟩
    · rw [if_neg hz] at p; exact p.elim
  | _=>exact p.elim
theorem zV3 {tl th:TO} {ml mh:OM} (A:DE mg E te e k) (B:DO mg E tl ml) (C:DO mg E th mh):DE mg E (tSl (rSlU Kc.K) te tl th) (Mi.eSl e ml mh) 1:=zXN rs_u A B C
theorem zX3 {G:Hp} (z:Str):ItOk (Its z) G (Mi.signsD z):=by
  intro i G1 H1 s1 s2
  have hl:(Mi.signsD z).length = z.cps.size:=by simp [Mi.signsD]
  refine ⟨fun hi=>by rw [hl] at hi; exact hi,fun hi=>by rw [hl] at hi; exact hi,fun x H2 d hd hy=>?_⟩
  obtain ⟨rfl,c,hc,rfl⟩:=hy
  refine ⟨G1,Ext.refl s2,?_⟩
  unfold Mi.signsD at hd
  rw [List.getElem?_map] at hd
  have hc':z.cps.toList[i]? = some c:=by simpa using hc
  rw [hc'] at hd
  cases hd
  rfl
theorem zCY (A:DE mg E ta ma k):DI mg E (iAny Kc.K ta) (Mi.iSq ma) false:=by
  intro G H σ ρ Q s w p
  refine (zAS A).step errI s w p fun d v G1 H1 S _ fr o p1=>?_
  cases d with
  | lst ds =>
    obtain ⟨a,xs,rfl,ha,r⟩:=o
    exact .inl ⟨⟨xs,SqL.of (fr.ext.in' _ _ ha)⟩,p1 _ G1 H1 fr.ext (zT1 (SqL.of ha) r)⟩
  | tup ds =>
    obtain ⟨a,xs,rfl,ha,r⟩:=o
    exact .inr ⟨⟨xs,SqT.of (fr.ext.in' _ _ ha)⟩,p1 _ G1 H1 fr.ext (zSZ (SqT.of ha) r)⟩
  | scr ns =>
    obtain ⟨a,rfl,ha⟩:=o
    rcases ha with ha | ha
    · exact .inl ⟨⟨_,fr.ext.in'.seq ha⟩,p1 _ G1 H1 fr.ext (zT1 ha (zCH ns))⟩
    · exact .inr ⟨⟨_,zH5 fr.ext.in' ha⟩,p1 _ G1 H1 fr.ext (zSZ ha (zCH ns))⟩
  | str z =>
    cases (show v = .str z from o)
    exact p1 _ G1 H1 fr.ext (zX3 z)
  | _=>exact p1.elim
theorem zMM:∀ (xs ys:List Dt),(Mi.zipD xs ys).length = min xs.length ys.length
  | [],ys=>by simp [Mi.zipD]
  | _ :: _,[]=>by simp [Mi.zipD]
  | x :: r,y :: q=>by rw [Mi.zipD,List.length_cons,zMM r q,List.length_cons,List.length_cons]; omega
theorem zMN:∀ (xs ys:List Dt) (i:Nat) (d:Dt),(Mi.zipD xs ys)[i]? = some d→∃ x y,xs[i]? = some x∧ys[i]? = some y∧d = .tup [x,y]
  | [],ys,_,_,h=>by simp [Mi.zipD] at h
  | _ :: _,[],_,_,h=>by simp [Mi.zipD] at h
  | x :: r,y :: q,0,d,h=>by simp [Mi.zipD] at h; exact ⟨x,y,by simp,by simp,h.symm⟩
  | x :: r,y :: q,i + 1,d,h=>by
    rw [Mi.zipD] at h
    obtain ⟨a,b,h1,h2,h3⟩:=zMN r q i d (by simpa using h)
    exact ⟨a,b,by simpa using h1,by simpa using h2,h3⟩
theorem zX2 {K:PySem.W.Frag} {G:Hp} {a b:Addr} {xs ys:List V} {ds es:List Dt} (ha:G a = some (.lst xs)) (r:RepL G ds xs) (hb:G b = some (.lst ys)) (r':RepL G es ys):ItOk (Itz K a b) G (Mi.zipD ds es):=by
  intro i G1 H1 s1 s2
  have hS:SqL K H1 a xs:=SqL.of (s2 _ _ (s1 _ _ ha))
  have hS':SqL K H1 b ys:=SqL.of (s2 _ _ (s1 _ _ hb))
  have l1:=r.length
  have l2:=r'.length
  rw [zMM]
  refine ⟨fun hi=>⟨xs,ys,xs[i]'(by omega),ys[i]'(by omega),hS,hS',by simp,by simp⟩,fun hi=>⟨xs,ys,hS,hS',by omega⟩,fun x H2 d hd hy=>?_⟩
  obtain ⟨T,u,v,rfl,hT,rfl,h1,h2⟩:=hy
  obtain ⟨p,q,g1,g2,rfl⟩:=zMN ds es i d hd
  have x1:=Ext.new s2 hT (.tup [u,v])
  exact ⟨_,x1,T,_,rfl,zAP,_,_,rfl,Rep.mono (s1.trans x1.g) (zCL r g1 (h1 xs hS)),_,_,rfl,Rep.mono (s1.trans x1.g) (zCL r' g2 (h2 ys hS')),rfl⟩
theorem zXJ (A:DA mg E t m 0):DI mg E (iZip Kc.K t) (Mi.iZi m) false:=by
  intro G H σ ρ Q s w p
  refine A.step errI s w p fun ds vs G1 H1 S T _ fr o p1=>?_
  have r:=o.repL
  cases ds with
  | nil=>exact p1.elim
  | cons a0 r0 =>
    cases a0 with
    | lst xs =>
      cases r0 with
      | nil=>exact p1.elim
      | cons b0 r1 =>
        cases r1 with
        | cons _ _=>cases b0 <;> exact p1.elim
        | nil =>
          cases b0 with
          | lst ys =>
            obtain ⟨x,y,rfl,⟨a,us,rfl,ha,ra⟩,⟨b,ws,rfl,hb,rb⟩⟩:=zR9 r
            exact ⟨⟨us,SqL.of (fr.ext.in' _ _ ha)⟩,⟨ws,SqL.of (fr.ext.in' _ _ hb)⟩,p1 _ G1 H1 fr.ext (zX2 ha ra hb rb)⟩
          | _=>exact p1.elim
    | _=>rcases r0 with _ | ⟨_,_ | _⟩ <;> exact p1.elim
end
end L3

namespace Mi
open PySem
noncomputable section
def noE {α:Type} (r:R α):R α:=match r with
  | some (.ok a)=>okR a
  | _=>none
def eCallN (f:FM) (am:AM):EM:=fun ρ=>zA3 (am ρ) fun ds=>noE (f ds)
def eMkX (c f:Str) (am:AM):EM:=fun ρ=>zA3 (am ρ) fun ds=>match ds with
  | [d]=>okR (.exc c f d)
  | _=>none
def eMkX0 (c:Str) (am:AM):EM:=fun ρ=>zA3 (am ρ) fun ds=>@ite _ (ds.length≤1000) (Classical.propDecidable _) (okR (.exc c "" .non)) none
def zVS (c f:Str) (am:AM):SM:=fun r=>zA3 (am (full r)) fun ds=>match ds with
  | [d]=>some (.error ⟨c,f,d⟩)
  | _=>none
def sRaise0 (c:Str) (am:AM):SM:=fun r=>zA3 (am (full r)) fun ds=>@ite _ (ds.length≤1000) (Classical.propDecidable _) (some (.error ⟨c,"",.non⟩)) none
def eAtX (hs:List Str) (f:Str) (a:EM):EM:=fun ρ=>zA3 (a ρ) fun d=>match d with
  | .exc c g x=>if c∈hs∧g = f then okR x else none
  | _=>none
def eIsX (ys ns:List Str) (a:EM):EM:=fun ρ=>zA3 (a ρ) fun d=>match d with
  | .exc c _ _=>if c∈ys then okR (.bl true) else if c∈ns then okR (.bl false) else none
  | _=>none
noncomputable def goneO (i:Nat):Out→Out
  | .nx r=>.nx (r.set i none)
  | .rt d=>.rt d
  | .bk r=>.bk (r.set i none)
  | .ct r=>.ct (r.set i none)
def sTry (vs:List Nat) (j:Option Nat) (e:EM) (hs:List Str) (i:Nat) (s:SM):SM:=fun r=>match e (frz (frzAt vs r)) with
  | none=>none
  | some (.ok d)=>okR (.nx (match j with | none=>frzAt vs r | some j=>(frzAt vs r).set j (some (d,0))))
  | some (.error x)=>if x.cls∈hs then zA3 (s ((frzAt vs r).set i (some (.exc x.cls x.f x.d,0)))) fun o=>okR (goneO i o) else none
end
end Mi

namespace L3
open PySem PySem.Spec
open L2 hiding Rep RepL
open Mi (Dt Xn R okR zA3 optR zA0 zAA zAG zAB zAE Rh Sl Ro EM TM AM FM IM SM OM Tg Out zB3 zB0 zBB full frz frz1 frzAt)
section
variable [Kc] {mg:Str→Option Value} {E:XK} {L n k l:Nat} {te ta tb:TE} {e ea eb ma:EM} {t:TA} {m:AM}
theorem zSA {f:FM} (A:DA mg E t m 0):DE mg E (zJ5 (spM mg n f) [] E0 t) (Mi.eCallN f m) n:=by
  intro G H σ ρ Q s w p
  refine A.step errE s w p fun ds vs G1 H1 S T _ fr o p1=>?_
  refine ⟨G1,ds,fr.ext.in',by rw [List.append_nil]; exact o.repL,?_⟩
  have p2:=PostE.from p1 fr.ext
  cases e:f ds with
  | none=>rw [e] at p2; exact p2
  | some r =>
    rw [e] at p2
    cases r with
    | error x=>exact p2.elim
    | ok d=>exact p2
def zVP (K:PySem.W.Frag) (f:Str):Sp:=fun vs H Q _=>∃ e C y,vs = [.ref e,y]∧H e = some (xn e (.ref C) none)∧PySem.W.xcIn K C = true∧XSet K C f∧∀ d,H d = none→d≠e→Q .non (upd (upd H d (.xd [(f,y)])) e (xn e (.ref C) (some d)))
theorem Sat.del {G0 H0 S0:Hp} {σ:St} {ρ:Ro} {G H:Hp} {As:Nat→Addr→Prop} (a:Sat G0 H0 S0 σ ρ G H As) (i:Nat):Sat G0 H0 S0 (σ.set i none) (ρ.set i none) G H As:=by
  refine ⟨a.ext,a.stb,by simp [a.len],fun j d n e=>?_,a.dis,a.new⟩
  by_cases z:i = j
  · subst z
    have hj:i < ρ.length:=by
      have:=(List.getElem?_eq_some_iff.mp e).1
      simpa using this
    rw [List.getElem?_set_self hj] at e
    cases e
  · rw [List.getElem?_set_ne z] at e
    rw [List.getElem?_set_ne z]
    exact a.at j d n e
theorem zQ0 {G0 H0 S0:Hp} {i:Nat} {r:R Out} {D:Ends} (p:zE1 mg E G0 H0 S0 L (zA3 r fun o=>okR (Mi.goneO i o)) D):zE1 mg E G0 H0 S0 L r (zS0 i D):=by
  cases r with
  | none=>exact p
  | some r =>
    cases r with
    | error x=>exact p
    | ok o =>
      cases o with
      | nx ρ=>exact fun σ G H As a=>p _ G H As (a.del i)
      | rt d=>exact p
      | bk ρ=>exact fun σ G H As a=>p _ G H As (a.del i)
      | ct ρ=>exact fun σ G H As a=>p _ G H As (a.del i)
theorem zXG {te:XK→TE} {hs:List Str} {c:Value} {i:Nat} {ts:TS} {sm:SM} (j:Option Nat) (vs:List Nat) (hh:∀ c'∈hs,∃ C,clK Kc.K c' = some C∧PySem.W.exmOne Kc.K (.ref C) c = some true) (A:∀ E',DE mg E' (te E') e 0) (B:DS mg E L ts sm) :
    DS mg E L (zSR Kc.K c i (fun D E' σ H=>te (E' σ) σ H (fun v H1=>match j with | none=>D.nx σ H1 | some j=>D.nx (σ.set j (some v)) H1)) ts) (Mi.sTry vs j e hs i sm):=by
  intro G0 H0 S0 σ ρ G H As D a p
  obtain ⟨G1,As1,a1⟩:=Sat.frzAt vs a
  unfold Mi.sTry at p
  refine (A _) G1 H σ (frz (frzAt vs ρ)) _ a1.ext.in' a1.frz ?_
  cases ee:e (frz (frzAt vs ρ)) with
  | none=>rw [ee] at p; exact p
  | some r =>
    rw [ee] at p
    cases r with
    | ok d =>
      intro v G2 H2 S fr o
      cases j with
      | none=>exact p σ G1 H2 As1 (a1.grow fr.ext.h)
      | some j=>exact p _ G2 H2 _ ((a1.wider fr.ext).put (i:=j) (S:=fun _=>False) (n:=0) (d:=d) (v:=v) o (fun _ z=>z.elim) (fun _ _ _ _ z=>z.elim))
    | error x =>
      by_cases hm:x.cls∈hs
      · have p':zE1 mg E G0 H0 S0 L (zA3 (sm ((frzAt vs ρ).set i (some (.exc x.cls x.f x.d,0)))) fun o=>okR (Mi.goneO i o)) D:=by
          have p2:zE1 mg E G0 H0 S0 L (if x.cls∈hs then zA3 (sm ((frzAt vs ρ).set i (some (.exc x.cls x.f x.d,0)))) fun o=>okR (Mi.goneO i o) else none) D:=p
          rw [if_pos hm] at p2; exact p2
        intro c' da G2 H2 x2 hX
        obtain ⟨e',C,rfl,h1,h2,h3⟩:=hX
        obtain ⟨C',hc1,hc2⟩:=hh _ hm
        rw [h2] at hc1
        cases hc1
        refine ⟨e',.ref C,rfl,x2.in' _ _ h1,hc2,?_⟩
        exact B G0 H0 S0 _ _ G2 H2 _ (zS0 i D) ((a1.wider x2).put (i:=i) (S:=fun _=>False) (n:=0) (d:=.exc x.cls x.f x.d) (v:=.ref e') ⟨e',C,da,rfl,.inr h1,h2,h3⟩ (fun _ z=>z.elim) (fun _ _ _ _ z=>z.elim)) (zQ0 p')
      · have p2:zE1 mg E G0 H0 S0 L (if x.cls∈hs then zA3 (sm ((frzAt vs ρ).set i (some (.exc x.cls x.f x.d,0)))) fun o=>okR (Mi.goneO i o) else none) D:=p
        rw [if_neg hm] at p2
        exact p2.elim
noncomputable def kitV (K:PySem.W.Frag) (C:Addr):V→Option Bool
  | .ref c=>PySem.W.kitOne K (.ref C) (.ref c)
  | .ty n=>PySem.W.kitOne K (.ref C) (.type n)
  | _=>none
theorem zX5 {ys ns:List Str} {ρ:Rh} {P:V→Hp→(V→Hp→Prop)→Prop} {b0:Addr→Bool→Prop} {G H:Hp} {σ:St} {Q:VK} (hy:∀ c∈ys,∃ C,clK Kc.K c = some C∧Xc.XIs Kc.K C∧b0 C true) (hn:∀ c∈ns,∃ C,clK Kc.K c = some C∧Xc.XIs Kc.K C∧b0 C false) (A:DE mg E ta ma k) (s:Same G H) (w:View G σ ρ)
    (p:PostE mg E G H 0 (Mi.eIsX ys ns ma ρ) Q) (h:∀ e C d G1 H1 b,Ext G H G1 H1→isX H1 e C d→(∀ a,d = some a→∃ fs,H1 a = some (.xd fs))→Xc.XIs Kc.K C→b0 C b→(∀ G2 H2,Ext G1 H1 G2 H2→Q (.bl b) H2)→P (.ref e) H1 Q):ta σ H fun x H1=>P x H1 Q:=by
  refine (zAS A).step errE s w p fun d v G1 H1 S _ fr o p1=>?_
  cases d with
  | exc c g x =>
    obtain ⟨e,C,da,rfl,hx,hc,r⟩:=o
    have hx':isX H1 e C da:=hx.imp (fun z=>fr.ext.in' _ _ z) fun z=>fr.ext.in' _ _ z
    have hd:∀ a,da = some a→∃ fs,H1 a = some (.xd fs):=fun a ea=>by
      rcases r with ⟨z,_⟩ | ⟨a',gs,y,z,h1,_⟩
      · rw [z] at ea; cases ea
      · rw [z] at ea; cases ea; exact ⟨gs,fr.ext.in' _ _ h1⟩
    dsimp only at p1
    split at p1
    · rename_i hm
      obtain ⟨C',hc',c1,c2⟩:=hy c hm
      rw [hc] at hc'
      cases hc'
      exact h e C da G1 H1 true fr.ext hx' hd c1 c2 fun G2 H2 x2=>PostE.val p1 (fr.ext.trans x2) rfl rfl
    · split at p1
      · rename_i hm
        obtain ⟨C',hc',c1,c2⟩:=hn c hm
        rw [hc] at hc'
        cases hc'
        exact h e C da G1 H1 false fr.ext hx' hd c1 c2 fun G2 H2 x2=>PostE.val p1 (fr.ext.trans x2) rfl rfl
      · exact p1.elim
  | _=>exact p1.elim
theorem zNA {ys ns:List Str} {y:V} (hy:∀ c∈ys,∃ C,clK Kc.K c = some C∧Xc.XIs Kc.K C∧kitV Kc.K C y = some true) (hn:∀ c∈ns,∃ C,clK Kc.K c = some C∧Xc.XIs Kc.K C∧kitV Kc.K C y = some false) (A:DE mg E ta ma k) :
    DE mg E (tCB (zU0 Kc.K) (zI9 ta (zI9 (tC y) tNil))) (Mi.eIsX ys ns ma) 0:=by
  intro G H σ ρ Q s w p
  refine zX5 (P:=fun x H1 Q=>zU0 Kc.K [x,y] H1 Q) (b0:=fun C b=>kitV Kc.K C y = some b) hy hn A s w p fun e C d G1 H1 b x1 hx hd c1 c2 q=>?_
  refine ⟨e,C,d,y,b,rfl,hx,hd,c1,q G1 H1 (Ext.refl x1.in'),?_⟩
  cases y with
  | ref c=>exact .inl ⟨c,rfl,c2⟩
  | ty n=>exact .inr (.inl ⟨n,rfl,c2⟩)
  | _=>cases c2
end
end L3

namespace L3
open PySem PySem.Spec
open L2 hiding Rep RepL
open Mi (Dt Xn R okR zA3 optR zA0 zAA zAG zAB zAE Rh Sl Ro EM TM AM FM IM SM OM Tg Out zB3 zB0 zBB full frz frz1 frzAt)
section
variable {K:PySem.W.Frag} {C D:Addr} {dd:Option Addr} {cd:ClassData} {sl:Array (Option Value)} {b:Bool}
def xcD (C:Addr) (cd:ClassData) (sl:Array (Option Value)):Bool:=match cd.mro,sl.toList with
  | .ref C' :: bm,[_,_,_,_,some (.builtin n),_]=>C' == C && !cd.hasDel && PySem.W.excTail bm && n == "ValueError.__new__" && cd.hasDict
  | _,_=>false
theorem zIZ (h:K.lookup C = some ⟨.type "type",dd,.cls cd,sl⟩) (h':xcD C cd sl = true):PySem.W.xcIn K C = true:=by
  unfold PySem.W.xcIn
  rw [h]
  exact h'
theorem zHM (h1:PySem.W.clsIn K D = some cd) (h2:PySem.W.typeIn K (.ref D) = some (.type "type")) (h3:PySem.W.subIn K (.ref C) (.ref D) = some b):PySem.W.kitCls K (.ref C) (.ref D) = some b:=by
  show (if ((PySem.W.clsIn K D).isSome && PySem.W.typeIn K (.ref D) == some (.type "type")) = true then PySem.W.subIn K (.ref C) (.ref D) else none) = some b
  rw [h1,h2,if_pos (by rw [Option.isSome_some,Bool.true_and]; exact beq_self_eq_true _)]
  exact h3
theorem zJM (h1:PySem.W.clsIn K D = some cd) (h2:PySem.W.typeIn K (.ref D) = some (.type "type")) (h3:PySem.W.subIn K (.ref C) (.ref D) = some true):PySem.W.kitOne K (.ref C) (.ref D) = some true:=by
  unfold PySem.W.kitOne
  split
  · rfl
  · exact zHM h1 h2 h3
theorem zCQ (h1:PySem.W.clsIn K D = some cd) (h2:PySem.W.typeIn K (.ref D) = some (.type "type")) (h3:PySem.W.subIn K (.ref C) (.ref D) = some false) (ne:(C == D) = false):PySem.W.kitOne K (.ref C) (.ref D) = some false:=by
  unfold PySem.W.kitOne
  split
  · rename_i z
    have:C = D:=Value.ref.inj (beq_iff_eq.mp z)
    rw [this,beq_self_eq_true] at ne
    cases ne
  · exact zHM h1 h2 h3
theorem zFL (h3:PySem.W.subIn K (.ref C) (.type "ValueError") = some true):PySem.W.kitOne K (.ref C) (.type "ValueError") = some true:=by
  unfold PySem.W.kitOne
  split
  · rfl
  · show (if PySem.W.kitMeta "ValueError" = true then PySem.W.subIn K (.ref C) (.type "ValueError") else none) = some true
    rw [if_pos (by decide +kernel)]
    exact h3
theorem zFO (h0:PySem.W.subIn K (.ref D) (.type "BaseException") = some true) (h1:PySem.W.clsIn K D = some cd) (h2:PySem.W.typeIn K (.ref D) = some (.type "type")) (h3:PySem.W.subIn K (.ref C) (.ref D) = some true):PySem.W.exmOne K (.ref C) (.ref D) = some true:=by
  unfold PySem.W.exmOne
  rw [h0,if_pos (beq_self_eq_true _)]
  exact zHM h1 h2 h3
end
structure XCls (K:PySem.W.Frag) (mg:Str→Option Value) (c:Str) (C:Addr):Prop where
  cl:clK K c = some C
  gm:mg c = some (.ref C)
  is:Xc.XIs K C
structure XIni (P:Program) (w:World) (K:PySem.W.Frag) (mg:Str→Option Value) (base:Heap) (c f:Str) (C:Addr):Prop extends XCls K mg c C where
  kp:PySem.W.keepIn K (.ref C) = true
  st:XSet K C f
  fa:PySem.W.findIn K (.ref C) f = some none
  ini:∃ fI fd ps,PySem.W.findIn K (.ref C) "__init__" = some (some (.ref fI))∧PySem.W.isFn K (.ref fI) = true∧FnOk P w K mg base (CXe P w) 1 fI fd ps (zVP K f)∧Binds K fd ps []
theorem zCS {K:PySem.W.Frag} {c:Str} {C:Addr} (h:PySem.W.nsIn K mainGlobals c = some (some (.ref C))):clK K c = some C:=by unfold clK; rw [h]
theorem zI1:bootBuiltins "ValueError" = some (.type "ValueError"):=by decide +kernel
def spE (K:PySem.W.Frag) (mg:Str→Option Value) (L:Nat) (f:Mi.FM):Sp:=fun vs H Q E=>@spM ⟨K⟩ mg L f vs H Q E
section
variable [Kc] {mg:Str→Option Value} {E:XK} {L n k l:Nat} {te ta tb:TE} {e ea eb ma:EM} {t:TA} {m:AM}
theorem zFU {f:FM} {E':XK} (A:DA mg E t m 0):DE mg E (zJ5 (sp0 Kc.K mg n f) [] E' t) (Mi.eCallN f m) n:=zSA A
theorem zSB {f:FM} (A:DA mg E t m 0):DE mg E (zJ5 (spE Kc.K mg n f) [] E t) (Mi.eCall f m) n:=zAQ A
end
noncomputable def zK9 (K:PySem.W.Frag):Sp:=fun vs H Q _=>∃ (a:Addr) (ns:List Int),vs = [.ref a]∧SqL K H a (ns.map V.int)∧ns.length≤63∧(∀ i∈ns,i.natAbs.log2 < 2 ^ 20)∧∀ H',Q (.bl true) H'
theorem zRR {K:PySem.W.Frag} {mg:Str→Option Value} {L:Nat} {f:FM} (hf:∀ ns:List Int,ns.length≤63→(∀ i∈ns,i.natAbs.log2 < 2 ^ 20)→f [.scr ns] = okR (.bl true)):∀ vs H Q E,zK9 K vs H Q E→sp0 K mg L f vs H Q E:=by
  letI:Kc:=⟨K⟩
  rintro vs H Q E ⟨a,ns,rfl,hS,hl,hw,q⟩
  refine ⟨H,[.scr ns],Same.refl _,⟨_,_,rfl,⟨a,rfl,.inl hS⟩,rfl⟩,?_⟩
  rw [hf ns hl hw]
  intro v G' H' S fr o
  cases (show v = .bl true by cases L <;> exact o)
  exact q H'
end L3

namespace Mi
open PySem
section
variable (ρ:Rh) (r:Ro) (a b c:EM) (s t:SM) (q q':TM) (am:AM)
@[simp] theorem x_eC (d:Dt):eC d ρ = okR d:=rfl
@[simp] theorem x_eV (i:Nat):eV i ρ = match ρ[i]? with | some (some d)=>okR d | _=>none:=rfl
@[simp] theorem x_eB (f:Dt→Dt→Option Dt):eB f a b ρ = zA3 (a ρ) fun x=>zA3 (b ρ) fun y=>optR (f x y):=rfl
@[simp] theorem x_eU (f:Dt→Option Dt):eU f a ρ = zA3 (a ρ) fun x=>optR (f x):=rfl
@[simp] theorem zGY:aNil ρ = okR []:=rfl
@[simp] theorem zF1:aCons a am ρ = zA3 (a ρ) fun x=>zA3 (am ρ) fun xs=>okR (x :: xs):=rfl
@[simp] theorem zGX (f:FM):eCall f am ρ = zA3 (am ρ) f:=rfl
@[simp] theorem zVH (f:List Dt→Option Dt):eBi f am ρ = zA3 (am ρ) fun xs=>optR (f xs):=rfl
@[simp] theorem x_eLst:eLst am ρ = zA3 (am ρ) fun xs=>@ite _ (xs.length≤100000) (Classical.propDecidable _) (okR (.lst xs)) none:=rfl
@[simp] theorem x_eTup:eTup am ρ = zA3 (am ρ) fun xs=>@ite _ (xs.length≤100000) (Classical.propDecidable _) (okR (.tup xs)) none:=rfl
@[simp] theorem x_eIsi (n:String):eIsi n a ρ = zA3 (a ρ) fun x=>optR (isiD n x):=rfl
@[simp] theorem x_eAnd:eAnd a b ρ = zA3 (a ρ) fun x=>match x with | .bl k=>if k = true then b ρ else okR (.bl false) | _=>none:=rfl
@[simp] theorem x_eOr:eOr a b ρ = zA3 (a ρ) fun x=>match x with | .bl k=>if k = true then okR (.bl true) else b ρ | _=>none:=rfl
@[simp] theorem x_eNot:eNot a ρ = zA3 (a ρ) fun x=>match x with | .bl k=>okR (.bl (!k)) | _=>none:=rfl
@[simp] theorem x_eChain (f g:Dt→Dt→Option Dt):zXE f g a b c ρ = zA3 (a ρ) fun x=>zA3 (b ρ) fun y=>zA3 (optR (f x y)) fun z=>match z with | .bl k=>if k = true then zA3 (c ρ) fun w=>optR (g y w) else okR (.bl false) | _=>none:=rfl
@[simp] theorem x_eIf:eIf q a b ρ = zA3 (q ρ) fun k=>if k = true then a ρ else b ρ:=rfl
@[simp] theorem x_tB:tB a ρ = zA3 (a ρ) fun x=>match x with | .bl k=>okR k | _=>none:=rfl
@[simp] theorem x_tM:tM a ρ = zA3 (a ρ) fun x=>match x with | .bl k=>okR k | .int i=>okR (i != 0) | .non=>okR false | _=>none:=rfl
@[simp] theorem zVF:tAn q q' ρ = zA3 (q ρ) fun k=>if k = true then q' ρ else okR false:=rfl
@[simp] theorem zVE:tOr q q' ρ = zA3 (q ρ) fun k=>if k = true then okR true else q' ρ:=rfl
@[simp] theorem zXX:tNo q ρ = zA3 (q ρ) fun k=>okR (!k):=rfl
@[simp] theorem zVD:tYes ρ = okR true:=rfl
@[simp] theorem zVG:sNil r = okR (.nx r):=rfl
@[simp] theorem zIH:sSeq s t r = zA3 (s r) fun o=>match o with | .nx ρ'=>t ρ' | o=>okR o:=rfl
@[simp] theorem zET:sIf q s t r = zA3 (q (full r)) fun k=>if k = true then s r else t r:=rfl
@[simp] theorem x_sDrop:zY9 a r = zA3 (a (full r)) fun _=>okR (.nx r):=rfl
@[simp] theorem x_sBreak:zVU r = okR (.bk r):=rfl
@[simp] theorem x_sCont:zYA r = okR (.ct r):=rfl
@[simp] theorem x_sNever:zVT r = none:=rfl
@[simp] theorem x_sRetN:zY8 r = okR (.rt .non):=rfl
@[simp] theorem zFD (i n:Nat) (vs:List Nat):sSet i n vs a r = zA3 (a (full r)) fun d=>if d.dep≤n then okR (.nx (r.set i (some (d,n)))) else zA3 (a (frz (frzAt vs r))) fun d'=>okR (.nx ((frzAt vs r).set i (some (d',n)))):=rfl
@[simp] theorem zSO (L n:Nat) (vs:List Nat):sRet L n vs a r = zA3 (a (full r)) fun d=>if d.dep≤n∧d.dep≤L then okR (.rt d) else if n = L then zA3 (a (frz (frzAt vs r))) fun d'=>okR (.rt d') else none:=rfl
@[simp] theorem x_sRetV (L i:Nat):sRetV L i r = match r[i]? with | some (some (d,k))=>if k = L∨L = 0∨(d.dep≤k∧d.dep≤L∧k < 1000) then okR (.rt d) else none | _=>none:=rfl
@[simp] theorem zFY:full [] = []:=rfl
@[simp] theorem zF0 (o:Option Sl) (r:Ro):full (o :: r) = o.map Prod.fst :: full r:=rfl
@[simp] theorem x_frz_nil:frz [] = []:=rfl
@[simp] theorem x_frz_none (r:Ro):frz (none :: r) = none :: frz r:=rfl
@[simp] theorem x_frz_some (d:Dt) (n:Nat) (r:Ro):frz (some (d,n) :: r) = (if n = 0∨d.dep = 0 then some d else none) :: frz r:=rfl
@[simp] theorem x_frzAt_nil (r:Ro):frzAt [] r = r:=rfl
@[simp] theorem x_frzAt_cons (i:Nat) (v:List Nat) (r:Ro):frzAt (i :: v) r = frzAt v (frz1 i r):=rfl
@[simp] theorem x_frz1 (i:Nat) (r:Ro):frz1 i r = match r[i]? with | some (some (d,_))=>r.set i (some (d,0)) | _=>r:=rfl
@[simp] theorem x_startO (n:Nat) (ds:List Dt):startO n ds = ds.map (fun d=>some (d,0)) ++ List.replicate (n - ds.length) none:=rfl
@[simp] theorem x_runF (P n:Nat) (ds:List Dt):runF P n s ds = if ds.length = P then zA3 (s (startO n ds)) endF else none:=rfl
@[simp] theorem x_end1 (r:Ro):endF (.nx r) = okR .non:=rfl
@[simp] theorem x_end2 (d:Dt):endF (.rt d) = okR d:=rfl
end
@[simp] theorem zY3 (i j:Int):addD (.int i) (.int j) = some (.int (i + j)):=rfl
@[simp] theorem v_addS (i j:Str):addD (.str i) (.str j) = @ite _ (i.length + j.length≤100000) (Classical.propDecidable _) (some (.str (i ++ j))) none:=rfl
@[simp] theorem zSP (i j:List Dt):addD (.lst i) (.lst j) = @ite _ (i.length + j.length≤100000) (Classical.propDecidable _) (some (.lst (i ++ j))) none:=rfl
@[simp] theorem zTH (i j:Int):subD (.int i) (.int j) = some (.int (i - j)):=rfl
@[simp] theorem zTI (i j:Int):mulD (.int i) (.int j) = @ite _ (((-18446744073709551616 < i∧i < 18446744073709551616)∨(-18446744073709551616 < j∧j < 18446744073709551616))∨i.natAbs.log2 + j.natAbs.log2≤67108864) (Classical.propDecidable _) (some (.int (i * j))) none:=rfl
@[simp] theorem v_div (i j:Int):divD (.int i) (.int j) = @ite _ (0 < j∧j < 1000000000000000000000000) (Classical.propDecidable _) (some (.int (i / j))) none:=rfl
@[simp] theorem v_mod (i j:Int):modD (.int i) (.int j) = if 0 < j then some (.int (i % j)) else none:=rfl
@[simp] theorem v_pow (i j:Int):powD (.int i) (.int j) = @ite _ (0≤j∧j≤1000000∧i.natAbs < 18446744073709551616) (Classical.propDecidable _) (some (.int (i ^ j.toNat))) none:=rfl
@[simp] theorem zY2 (i:Int):negD (.int i) = some (.int (-i)):=rfl
@[simp] theorem v_cmp (p:Int→Int→Bool) (i j:Int):cmpD p (.int i) (.int j) = some (.bl (p i j)):=rfl
@[simp] theorem v_eq (x y:Dt):eqD x y = if x.dep≤40∧y.dep≤40 then some (.bl (Dt.eq x y)) else none:=rfl
@[simp] theorem v_ne (x y:Dt):neD x y = if x.dep≤40∧y.dep≤40 then some (.bl (!Dt.eq x y)) else none:=rfl
@[simp] theorem v_is (x:Dt):isD x .non = some (.bl (isNonD x)):=rfl
@[simp] theorem v_isnt (x:Dt):isntD x .non = some (.bl (!isNonD x)):=rfl
@[simp] theorem v_isN1:isNonD .non = true:=rfl
@[simp] theorem v_isN2 (i:Int):isNonD (.int i) = false:=rfl
@[simp] theorem v_isN3 (i:List Dt):isNonD (.lst i) = false:=rfl
@[simp] theorem v_isN4 (i:List Dt):isNonD (.tup i) = false:=rfl
@[simp] theorem v_isN5 (i:Str):isNonD (.str i) = false:=rfl
@[simp] theorem v_isN6 (i:Bool):isNonD (.bl i) = false:=rfl
@[simp] theorem v_ixL (xs:List Dt) (i:Int):ixD (.lst xs) (.int i) = itA xs i:=rfl
@[simp] theorem v_ixT (xs:List Dt) (i:Int):ixD (.tup xs) (.int i) = itA xs i:=rfl
@[simp] theorem v_ixS (ns:List Int) (i:Int):ixD (.scr ns) (.int i) = (itA ns i).map .int:=rfl
@[simp] theorem v_lenL (xs:List Dt):lenD [.lst xs] = some (.int xs.length):=rfl
@[simp] theorem v_lenT (xs:List Dt):lenD [.tup xs] = some (.int xs.length):=rfl
@[simp] theorem v_lenS (ns:List Int):lenD [.scr ns] = some (.int ns.length):=rfl
@[simp] theorem v_listL (xs:List Dt):listD [.lst xs] = some (.lst xs):=rfl
@[simp] theorem v_listT (xs:List Dt):listD [.tup xs] = some (.lst xs):=rfl
@[simp] theorem v_listS (ns:List Int):listD [.scr ns] = some (.lst (ns.map .int)):=rfl
@[simp] theorem v_dn:Dt.non.dep = 0:=rfl
@[simp] theorem v_db (b:Bool):(Dt.bl b).dep = 0:=rfl
@[simp] theorem v_di (b:Int):(Dt.int b).dep = 0:=rfl
@[simp] theorem v_ds (b:Str):(Dt.str b).dep = 0:=rfl
@[simp] theorem v_dS (b:List Int):(Dt.scr b).dep = 1000:=by rw [Dt.dep]
@[simp] theorem v_dl (xs:List Dt):(Dt.lst xs).dep = Dt.depL xs + 1:=by rw [Dt.dep]
@[simp] theorem v_dt (xs:List Dt):(Dt.tup xs).dep = Dt.depL xs + 1:=by rw [Dt.dep]
@[simp] theorem v_dnil:Dt.depL [] = 0:=by rw [Dt.depL]
@[simp] theorem zH0 (x:Dt) (r:List Dt):Dt.depL (x :: r) = max x.dep (Dt.depL r):=by rw [Dt.depL]
@[simp] theorem v_e1 (i j:Int):Dt.eq (.int i) (.int j) = decide (i = j):=by rw [Dt.eq]; by_cases h:i = j <;> simp [h]
@[simp] theorem v_e2 (i j:Str):Dt.eq (.str i) (.str j) = decide (i = j):=by rw [Dt.eq]; by_cases h:i = j <;> simp [h]
@[simp] theorem v_e3 (i j:Bool):Dt.eq (.bl i) (.bl j) = decide (i = j):=by rw [Dt.eq]; by_cases h:i = j <;> simp [h]
@[simp] theorem v_e4 (i j:List Dt):Dt.eq (.lst i) (.lst j) = Dt.eqL i j:=by rw [Dt.eq]
@[simp] theorem v_e5 (i j:List Dt):Dt.eq (.tup i) (.tup j) = Dt.eqL i j:=by rw [Dt.eq]
@[simp] theorem v_e6:Dt.eq .non .non = true:=by rw [Dt.eq]
@[simp] theorem zFT:∀ (ns:List Int),Dt.depL (ns.map Dt.int) = 0
  | []=>by simp
  | n :: r=>by rw [List.map_cons,zH0,zFT r]; rfl
@[simp] theorem zS8:∀ (xs ys:List Dt),Dt.depL (xs ++ ys) = max (Dt.depL xs) (Dt.depL ys)
  | [],ys=>by simp
  | x :: r,ys=>by rw [List.cons_append,zH0,zH0,zS8 r ys]; omega
@[simp] theorem zFQ:∀ (ns ms:List Int),Dt.eqL (ns.map Dt.int) (ms.map Dt.int) = decide (ns = ms)
  | [],[]=>by simp [Dt.eqL]
  | [],_ :: _=>by simp [Dt.eqL]
  | _ :: _,[]=>by simp [Dt.eqL]
  | n :: r,m :: q=>by rw [List.map_cons,List.map_cons,Dt.eqL,zFQ r q,v_e1]; simp
theorem zEE {α:Type} {xs:List α} {i:Int} {j:Nat} {v:α} (e:i = (j:Int)) (h:xs[j]? = some v):itA xs i = some v:=by
  have hj:j < xs.length:=(List.getElem?_eq_some_iff.mp h).1
  subst e
  unfold itA ixA
  rw [if_pos (by omega),if_pos (by omega)]
  simpa using h
theorem zIN {n:Nat} {i:Int} (h0:0≤i) (h1:i < n):ixA n i = some i.toNat:=by
  unfold ixA; rw [if_pos h0,if_pos h1]
theorem zRW {ns:List Int} {i:Int} (h0:0≤i) (h1:i < ns.length):itA (ns.map Dt.int) i = some (.int (ns.getD i.toNat 0)):=by
  refine zEE (j:=i.toNat) (by omega) ?_
  rw [List.getElem?_map,List.getD_eq_getElem?_getD,List.getElem?_eq_getElem (by omega)]
  rfl
theorem zUQ {ns:List Int} {i:Int} (h0:0≤i) (h1:i < ns.length):itA ns i = some (ns.getD i.toNat 0):=by
  refine zEE (j:=i.toNat) (by omega) ?_
  rw [List.getD_eq_getElem?_getD,List.getElem?_eq_getElem (by omega)]
  rfl
@[simp] theorem set_int (ns:List Int) (i:Nat) (x:Int):(ns.map Dt.int).set i (.int x) = (ns.set i x).map Dt.int:=by rw [List.map_set]
theorem zNG {ρ:Rh} {k:Nat} {tg:Tg} {c:TM} {e:EM} (f:Dt→Dt):∀ (ds acc:List Dt),(∀ d∈ds,∃ bs,zB3 tg d = some bs∧c (zB0 (ρ ++ List.replicate k none) bs) = okR true∧e (zB0 (ρ ++ List.replicate k none) bs) = okR (f d))→compGo ρ k tg c e ds acc = okR (acc ++ ds.map f)
  | [],acc,_=>by simp [compGo]
  | d :: ds,acc,h=>by
    obtain ⟨bs,h1,h2,h3⟩:=h d (by simp)
    rw [compGo,h1]
    simp only
    rw [h2,zA0,if_pos rfl,h3,zA0,zNG f ds (acc ++ [f d]) fun d hd=>h d (by simp [hd])]
    simp
theorem zBA {ρ:Rh} {k:Nat} {tg:Tg} {c:TM} {e:EM} (p:Dt→Bool) (f:Dt→Dt):∀ (ds acc:List Dt),(∀ d∈ds,∃ bs,zB3 tg d = some bs∧c (zB0 (ρ ++ List.replicate k none) bs) = okR (p d)∧(p d = true→e (zB0 (ρ ++ List.replicate k none) bs) = okR (f d)))→compGo ρ k tg c e ds acc = okR (acc ++ (ds.filter p).map f)
  | [],acc,_=>by simp [compGo]
  | d :: ds,acc,h=>by
    obtain ⟨bs,h1,h2,h3⟩:=h d (by simp)
    rw [compGo,h1]
    simp only
    rw [h2,zA0]
    cases hp:p d with
    | true =>
      rw [if_pos rfl,h3 hp,zA0,zBA p f ds (acc ++ [f d]) fun d hd=>h d (by simp [hd])]
      simp [hp]
    | false =>
      rw [if_neg (by decide),zBA p f ds acc fun d hd=>h d (by simp [hd])]
      simp [hp]
theorem zM8 {tg:Tg} {b:SM} (Pv:Nat→Ro→Prop):∀ (ds:List Dt) (i:Nat) (r:Ro),Pv i r→(∀ (j:Nat) (d:Dt) (r:Ro),ds[j]? = some d→Pv (i + j) r→∃ bs r',zB3 tg d = some bs∧b (zBB r bs) = okR (.nx r')∧Pv (i + j + 1) r') →
    ∃ r',forGo tg b ds r = okR (.nx r')∧Pv (i + ds.length) r'
  | [],i,r,h,_=>⟨r,by simp [forGo],by simpa using h⟩
  | d :: ds,i,r,h,hs=>by
    obtain ⟨bs,r1,h1,h2,h3⟩:=hs 0 d r (by simp) (by simpa using h)
    obtain ⟨r2,h4,h5⟩:=zM8 Pv ds (i + 1) r1 (by simpa using h3) fun j e r he hp=>by
      have:=hs (j + 1) e r (by simpa using he) (by rw [show i + (j + 1) = i + 1 + j by omega]; exact hp)
      rw [show i + 1 + j + 1 = i + (j + 1) + 1 by omega]
      exact this
    refine ⟨r2,?_,by rw [List.length_cons,show i + (ds.length + 1) = i + 1 + ds.length by omega]; exact h5⟩
    rw [forGo,h1]
    simp only
    rw [h2,zA0]
    exact h4
theorem zK1 {c:TM} {b:SM} (Pv:Ro→Prop) (μ:Ro→Nat) (Rv:Ro→Prop) (hc:∀ r,Pv r→(c (full r) = okR false∧Rv r)∨(c (full r) = okR true∧∃ r',b r = okR (.nx r')∧Pv r'∧μ r' < μ r)) :
    ∀ (m:Nat) (r:Ro),Pv r→μ r < m→∃ r',whGo c b m r = okR (.nx r')∧Rv r'
  | 0,r,_,h=>by omega
  | m + 1,r,h,hm=>by
    rw [whGo]
    rcases hc r h with ⟨h1,h2⟩ | ⟨h1,r1,h2,h3,h4⟩
    · rw [h1,zA0,if_neg (by decide)]; exact ⟨r,rfl,h2⟩
    · rw [h1,zA0,if_pos rfl,h2,zA0]
      exact zK1 Pv μ Rv hc m r1 h3 (by omega)
theorem zNR {c:TM} {b:SM} (Pv:Ro→Prop) (μ:Ro→Nat) (Rv:Ro→Prop) {r:Ro} (h0:Pv r) (hm:μ r < 1000000) (hc:∀ r,Pv r→(c (full r) = okR false∧Rv r)∨(c (full r) = okR true∧∃ r',b r = okR (.nx r')∧Pv r'∧μ r' < μ r)):∃ r',sWhile c b r = okR (.nx r')∧Rv r' :=
  zK1 Pv μ Rv hc WN r h0 (by rw [zYT]; exact hm)
end Mi

namespace Mi
open PySem
section
variable (ρ:Rh) (r:Ro) (a:EM) (am:AM) (s:SM)
@[simp] theorem x_noE_ok {α:Type} (x:α):noE (okR x) = okR x:=rfl
@[simp] theorem x_noE_none {α:Type}:noE (none:R α) = none:=rfl
@[simp] theorem x_noE_err {α:Type} (e:Xn):noE (some (.error e):R α) = none:=rfl
@[simp] theorem x_eCallN (f:FM):eCallN f am ρ = zA3 (am ρ) fun ds=>noE (f ds):=rfl
@[simp] theorem x_eMkX (c f:Str):eMkX c f am ρ = zA3 (am ρ) fun ds=>match ds with | [d]=>okR (.exc c f d) | _=>none:=rfl
@[simp] theorem x_sRaise (c f:Str):zVS c f am r = zA3 (am (full r)) fun ds=>match ds with | [d]=>some (.error ⟨c,f,d⟩) | _=>none:=rfl
@[simp] theorem x_eAtX (hs:List Str) (f:Str):eAtX hs f a ρ = zA3 (a ρ) fun d=>match d with | .exc c g x=>if c∈hs∧g = f then okR x else none | _=>none:=rfl
@[simp] theorem x_eIsX (ys ns:List Str):eIsX ys ns a ρ = zA3 (a ρ) fun d=>match d with | .exc c _ _=>if c∈ys then okR (.bl true) else if c∈ns then okR (.bl false) else none | _=>none:=rfl
@[simp] theorem x_gone_nx (i:Nat):goneO i (.nx r) = .nx (r.set i none):=rfl
@[simp] theorem x_gone_rt (i:Nat) (d:Dt):goneO i (.rt d) = .rt d:=rfl
theorem zTT {vs:List Nat} {j:Option Nat} {hs:List Str} {i:Nat} {d:Dt} (h:a (frz (frzAt vs r)) = okR d):sTry vs j a hs i s r = okR (.nx (match j with | none=>frzAt vs r | some j=>(frzAt vs r).set j (some (d,0)))):=by
  unfold sTry
  rw [h]
  rfl
theorem zTU {vs:List Nat} {j:Option Nat} {hs:List Str} {i:Nat} {x:Xn} (h:a (frz (frzAt vs r)) = some (.error x)) (hm:x.cls∈hs):sTry vs j a hs i s r = zA3 (s ((frzAt vs r).set i (some (.exc x.cls x.f x.d,0)))) fun o=>okR (goneO i o):=by
  unfold sTry
  rw [h]
  exact if_pos hm
end
example (d:Dt):True:=trivial
end Mi

namespace L2
open PySem PySem.Spec PyProof.Rows
section
variable {X:Cx}
noncomputable def zVZ:R2:=fun x y H Q=>match x,y with
  | .int i,.int j=>Q (.int (Builtin.bitXor i j)) H
  | _,_=>False
theorem zY4:OpR X (binaryOp .BitXor) zVZ:=by
  intro pins s σ H x y v u Q I rx ry h
  cases x <;> cases y <;> first
    | exact zWH pins s σ H _ _ v u Q I rx ry ⟨_,_,rfl,rfl,h⟩
    | exact False.elim h
noncomputable def bL (K:PySem.W.Frag) (t:TE):TT:=fun σ H Q=>t σ H fun x H'=>match x with
  | .bl k=>Q k H'
  | .int i=>Q (i != 0) H'
  | .non=>Q false H'
  | .ref p=>∃ xs,(SqL K H' p xs∨SqT K H' p xs)∧Q (!xs.isEmpty) H'
  | _=>False
theorem pt_l {K:PySem.W.Frag} {a:Expr} {ta:TE} (ha:PE X a ta) (he:∀ whole,isTrue a X.env whole = (do let v ← whole; standAt a.pos; holding [v] (truthy v)):=by intro _; rfl) (hK:X.K = K:=by rfl):PT X a (bL K ta):=by
  subst hK
  intro pins s σ H Q I h
  refine isTrue_plain (thn (ha pins s σ H _ I h) fun v s1 ⟨x,H1,I1,r1,q1⟩=>?_) (he _)
  refine thn (zSQ pins s1 σ H1 x v Q I1 r1 ?_) fun _ _ q=>q
  cases x with
  | bl k=>exact ⟨k,rfl,q1⟩
  | int i=>exact ⟨_,rfl,q1⟩
  | non=>exact ⟨_,rfl,q1⟩
  | ref p =>
    obtain ⟨xs,h1 | h1,h2⟩:=q1
    · exact ⟨_,.inl ⟨xs,h1,rfl⟩,h2⟩
    · exact ⟨_,.inr (.inl ⟨xs,h1,rfl⟩),h2⟩
  | _=>exact False.elim q1
end
section
variable {X:Cx} {K:PySem.W.Frag}
end
end L2

namespace Mi
open PySem
noncomputable section
noncomputable def xorD:Dt→Dt→Option Dt
  | .int i,.int j=>some (.int (Builtin.bitXor i j))
  | _,_=>none
noncomputable def repD:Dt→Dt→Option Dt
  | .lst xs,.int k=>@ite _ ((-4611686018427387904≤k∧k < 4611686018427387904)∧xs.length * k.toNat≤100000) (Classical.propDecidable _) (some (.lst (List.replicate k.toNat xs).flatten)) none
  | _,_=>none
def tL (a:EM):TM:=fun ρ=>zA3 (a ρ) fun x=>match x with
  | .bl k=>okR k
  | .int i=>okR (i != 0)
  | .non=>okR false
  | .lst xs=>okR (!xs.isEmpty)
  | .tup xs=>okR (!xs.isEmpty)
  | _=>none
def iRv (e:AM):IM:=fun ρ=>zA3 (e ρ) fun vs=>match vs with
  | [.lst xs]=>okR xs.reverse
  | _=>none
noncomputable def intsD:List Dt→Option (List Int)
  | []=>some []
  | .int i :: r=>(intsD r).map (i :: ·)
  | _ :: _=>none
def eMl (f:List Dt→List Dt→Option Dt) (a:EM) (am:AM):EM:=fun ρ=>zA3 (a ρ) fun x=>match x with
  | .lst xs=>zA3 (am ρ) fun ds=>optR (f xs ds)
  | _=>none
def sExt (i n:Nat) (e:EM):SM:=fun ρ=>match ρ[i]? with
  | some (some (.lst ds,k + 1))=>zA3 (e (full ρ)) fun d=>match d with
    | .lst es=>@ite _ (ds.length + es.length≤100000∧Dt.depL es≤n∧Dt.depL es≤k) (Classical.propDecidable _) (okR (.nx (ρ.set i (some (.lst (ds ++ es),k + 1))))) none
    | _=>none
  | _=>none
noncomputable def low (i:Nat) (ρ:Ro):Ro:=match ρ[i]? with
  | some (some (.lst ds,_ + 1))=>ρ.set i (some (.lst ds,1))
  | _=>ρ
def sAppF (i:Nat) (vs:List Nat) (e:EM):SM:=fun ρ=>match (frzAt vs (low i ρ))[i]? with
  | some (some (.lst ds,1))=>zA3 (e (frz (frzAt vs (low i ρ)))) fun d=>@ite _ (ds.length≤100000) (Classical.propDecidable _) (okR (.nx ((frzAt vs (low i ρ)).set i (some (.lst (ds ++ [d]),1))))) none
  | _=>none
def sItemF (i:Nat) (vs:List Nat) (e1 e2:EM):SM:=fun ρ=>zA3 (e2 (frz (frzAt vs (low i ρ)))) fun d=>match (frzAt vs (low i ρ))[i]? with
  | some (some (.lst ds,1))=>zA3 (e1 (full (frzAt vs (low i ρ)))) fun z=>match z with
    | .int z=>match ixA ds.length z with
      | some q=>okR (.nx ((frzAt vs (low i ρ)).set i (some (.lst (ds.set q d),1))))
      | none=>none
    | _=>none
  | _=>none
def sItemS (i:Nat) (e1 e2:EM):SM:=fun ρ=>match (low i ρ)[i]? with
  | some (some (.lst ds,1))=>zA3 (e2 (full (low i ρ))) fun y=>match y with
    | .int y=>match itA ds y with
      | some d=>zA3 (e1 (full (low i ρ))) fun z=>match z with
        | .int z=>match ixA ds.length z with
          | some q=>okR (.nx ((low i ρ).set i (some (.lst (ds.set q d),1))))
          | none=>none
        | _=>none
      | none=>none
    | _=>none
  | _=>none
end
end Mi

namespace L3
open PySem PySem.Spec
open L2 hiding Rep RepL
open Mi (Dt Xn R okR zA3 optR zA0 zAA zAG zAB zAE Rh Sl Ro EM TM AM FM IM SM Tg Out zB3 zB0 zBB full frz frz1 frzAt)
section
variable [Kc] {mg:Str→Option Value} {E:XK} {L n k l:Nat} {te ta tb:TE} {e ea eb ma:EM} {t:TA} {m:AM}
theorem zVX:ROp zVZ Mi.xorD n:=by
  intro mg E G H d e x y Q s h1 h2 p
  cases d with
  | int i =>
    cases e with
    | int j=>cases (show x = .int i from h1); cases (show y = .int j from h2); exact zP3 s p rfl rfl rfl
    | _=>exact p.elim
  | _=>exact p.elim
theorem zHN {G:Hp} {ds:List Dt} {xs:List V} (r:RepL G ds xs):(!xs.isEmpty) = !ds.isEmpty:=by
  have:=r.length
  cases xs <;> cases ds <;> simp_all
theorem dt_l (A:DE mg E ta ma k):DT mg E (bL Kc.K ta) (Mi.tL ma):=by
  intro G H σ ρ Q s w p
  refine (zAS A).step errT s w p fun d v G1 H1 S _ fr o p1=>?_
  cases d with
  | bl b=>cases (show v = .bl b from o); exact p1 H1 fr.ext.h
  | int b=>cases (show v = .int b from o); exact p1 H1 fr.ext.h
  | non=>cases (show v = .non from o); exact p1 H1 fr.ext.h
  | lst ds =>
    obtain ⟨a,xs,rfl,ha,r⟩:=o
    refine ⟨xs,.inl (SqL.of (fr.ext.in' _ _ ha)),?_⟩
    rw [zHN r]
    exact p1 H1 fr.ext.h
  | tup ds =>
    obtain ⟨a,xs,rfl,ha,r⟩:=o
    refine ⟨xs,.inr (SqT.of (fr.ext.in' _ _ ha)),?_⟩
    rw [zHN r]
    exact p1 H1 fr.ext.h
  | _=>exact p1.elim
theorem zKV {G:Hp}:∀ {ds:List Dt} {ns:List Int} {xs:List V},Mi.intsD ds = some ns→RepL G ds xs→xs = ns.map V.int
  | [],ns,xs,h,r=>by cases h; exact r
  | d :: q,ns,xs,h,r=>by
    cases d with
    | int i =>
      rw [Mi.intsD] at h
      cases e:Mi.intsD q with
      | none=>rw [e] at h; cases h
      | some ms =>
        rw [e] at h
        cases h
        obtain ⟨x,t,rfl,a,b⟩:=r
        cases (show x = .int i from a)
        rw [zKV e b]
        rfl
    | _=>cases h
end
end L3

namespace L3
open PySem PySem.Spec
open L2 hiding Rep RepL
open Mi (Dt Xn R okR zA3 optR zA0 zAA zAG zAB zAE Rh Sl Ro EM TM AM FM IM SM Tg Out zB3 zB0 zBB full frz frz1 frzAt)
section
variable [Kc] {G0 H0 S0:Hp} {σ:St} {ρ:Ro} {G H:Hp} {As:Nat→Addr→Prop}
theorem Sat.low (a:Sat G0 H0 S0 σ ρ G H As) (i:Nat):∃ G1 As1,Sat G0 H0 S0 σ (Mi.low i ρ) G1 H As1:=by
  unfold Mi.low
  split
  · rename_i ds k e1
    obtain ⟨v,h1,q,xs,T,rfl,hq,kd⟩:=a.at i _ _ e1
    obtain ⟨s1,s2⟩:=zEC (S:=fun b=>∃ r,T r b) a.ext.in'
    have ui:∀ b,(∃ r,T r b)→As i b:=fun b ⟨r,z⟩=>kd.sub r b z
    have x:Ext G0 H0 (over G H fun b=>∃ r,T r b) H:=⟨a.ext.g.trans s1,a.ext.h,s2,fun b hb=>by
      have z:¬ ∃ r,T r b:=fun z=>hb (a.new i b (ui b z)).1
      rw [zCN z]; exact a.ext.old b hb⟩
    refine ⟨over G H fun b=>∃ r,T r b,fun j b=>As j b∧¬ ∃ r,T r b,x,a.stb.trans s1,by simp [a.len],fun j e n h=>?_,fun j l b p q=>a.dis j l b p.1 q.1,fun j b p=>?_⟩
    · have hj:j < ρ.length:=by
        have:=(List.getElem?_eq_some_iff.mp h).1
        simpa using this
      by_cases z:i = j
      · subst z
        rw [List.getElem?_set_self hj] at h
        cases h
        exact ⟨.ref q,h1,q,xs,fun _ _=>False,rfl,hq,⟨kd.len,fun r d x g1 g2=>(kd.own r d x g1 g2).rep s1 fun b o hb e=>by rw [zF8 ⟨r,hb⟩]; exact e,⟨kd.top,fun ⟨r,z⟩=>kd.out r z⟩,fun _ z=>z,fun _ _ _ z=>z.elim,fun _ _ z=>z.elim⟩⟩
      · rw [List.getElem?_set_ne z] at h
        obtain ⟨u,q1,q2⟩:=a.at j e n h
        exact ⟨u,q1,(q2.mono s1 (Same.refl _)).sub fun b hb=>⟨hb,fun w=>z (a.dis i j b (ui b w) hb)⟩⟩
    · obtain ⟨n1,n2,n3⟩:=a.new j b p.1
      exact ⟨n1,by rw [zCN p.2]; exact n2,n3⟩
  · exact ⟨G,As,a⟩
end
section
variable [Kc] {mg:Str→Option Value} {E:XK} {L n k l:Nat} {te ta tb:TE} {e ea eb ma:EM} {t:TA} {m:AM}
theorem zS6 (i:Nat) (vs:List Nat) {n1:Nat} {t1 t2:TE} {e1 e2:EM} (A:DE mg E t1 e1 n1) (B:DE mg E t2 e2 n):DS mg E L (tAsg t2 (gSub (vM i) t1 setM)) (Mi.sItemF i vs e1 e2):=by
  intro G0 H0 S0 σ ρ G H As D a p
  obtain ⟨G1,As1,a1⟩:=a.low i
  obtain ⟨G2,As2,a2⟩:=Sat.frzAt vs a1
  unfold Mi.sItemF at p
  generalize hρ:frzAt vs (Mi.low i ρ) = ρ2 at p a2
  refine (zAS B).step (errS.from a2.ext) a2.ext.in' a2.frz p fun d y G3 H3 S _ fr o p1=>?_
  have a3:=a2.wider fr.ext
  split at p1
  · rename_i ds er
    obtain ⟨v,h1,q,xs,T,rfl,hq,kd⟩:=a3.at i _ _ er
    unfold gSub vM
    rw [h1]
    obtain ⟨J,x,s,w⟩:=a3.full
    refine (zAS A).step (errS.from x) x.in' w p1 fun z u G4 H4 S2 ee fr2 o2 p2=>?_
    split at p2
    · rename_i z
      cases (show u = .int z from o2)
      split at p2
      · rename_i c ei
        rw [zIO] at ei
        refine ⟨xs,c,fr2.ext.h _ _ hq,by rw [kd.len]; exact ei,?_⟩
        have a4:=a3.grow fr2.ext.h
        refine p2 σ G3 _ _ (a4.store (S:=As2 i) kd.top h1 ⟨q,_,fun _ _=>False,rfl,zAP,⟨by simp [kd.len],fun r d' z' g1 g2=>?_,kd.top,fun _ z=>z,fun _ _ _ z=>z.elim,fun _ _ z=>z.elim⟩⟩ fun b z=>.inl z)
        by_cases hr:c = r
        · subst hr
          have hc:c < ds.length:=by
            have:=(List.getElem?_eq_some_iff.mp g1).1
            simpa using this
          rw [List.getElem?_set_self hc] at g1
          rw [List.getElem?_set_self (by rw [kd.len]; exact hc)] at g2
          cases g1; cases g2
          exact o
        · rw [List.getElem?_set_ne hr] at g1 g2
          exact kd.own r d' z' g1 g2
      · exact p2.elim
    · exact p2.elim
  · exact p1.elim
theorem zS5 (i:Nat) {n1 n2:Nat} {t1 t2:TE} {e1 e2:EM} (A:DE mg E t1 e1 n1) (B:DE mg E t2 e2 n2):DS mg E L (tAsg (tOp (rIxU Kc.K) (vM i) t2) (gSub (vM i) t1 setM)) (Mi.sItemS i e1 e2):=by
  intro G0 H0 S0 σ ρ G H As D a p
  obtain ⟨G1,As1,a2⟩:=a.low i
  unfold Mi.sItemS at p
  generalize hρ:Mi.low i ρ = ρ2 at p a2
  split at p
  · rename_i ds er
    obtain ⟨v,h1,q,xs,T,rfl,hq,kd⟩:=a2.at i _ _ er
    unfold tAsg tOp vM
    rw [h1]
    obtain ⟨J,x,s,w⟩:=a2.full
    refine (zAS B).step (errS.from x) x.in' w p fun z u G4 H4 S2 ee fr2 o2 p2=>?_
    split at p2
    · rename_i y
      cases (show u = .int y from o2)
      split at p2
      · rename_i d ed
        have ed':=ed
        unfold Mi.itA at ed
        cases ej:Mi.ixA ds.length y with
        | none=>rw [ej] at ed; cases ed
        | some j =>
          rw [ej] at ed
          have edj:ds[j]? = some d:=ed
          have hj:j < xs.length:=by rw [kd.len]; exact (List.getElem?_eq_some_iff.mp edj).1
          refine ⟨xs,xs[j],.inl (SqL.of (fr2.ext.h _ _ hq)),?_,?_⟩
          · rw [← zPT]; unfold Mi.itA; rw [kd.len,ej]; exact List.getElem?_eq_getElem hj
          have a3:=a2.grow fr2.ext.h
          obtain ⟨J3,x3,s3,w3⟩:=a3.full
          unfold gSub
          dsimp only
          rw [h1]
          refine (zAS A).step (errS.from x3) x3.in' w3 p2 fun z u G5 H5 S3 ee3 fr3 o3 p3=>?_
          split at p3
          · rename_i z
            cases (show u = .int z from o3)
            split at p3
            · rename_i c ei
              rw [zIO] at ei
              refine ⟨xs,c,fr3.ext.h _ _ (fr2.ext.h _ _ hq),by rw [kd.len]; exact ei,?_⟩
              have a4:=a3.grow fr3.ext.h
              refine p3 σ G1 _ _ (a4.store (S:=As1 i) kd.top h1 ⟨q,_,fun _ _=>False,rfl,zAP,⟨by simp [kd.len],fun r d' z' g1 g2=>?_,kd.top,fun _ z=>z,fun _ _ _ z=>z.elim,fun _ _ z=>z.elim⟩⟩ fun b z=>.inl z)
              by_cases hr:c = r
              · subst hr
                have hc:c < ds.length:=by
                  have:=(List.getElem?_eq_some_iff.mp g1).1
                  simpa using this
                rw [List.getElem?_set_self hc] at g1
                rw [List.getElem?_set_self (by rw [kd.len]; exact hc)] at g2
                cases g1; cases g2
                exact kd.own j d _ edj (List.getElem?_eq_getElem hj)
              · rw [List.getElem?_set_ne hr] at g1 g2
                exact kd.own r d' z' g1 g2
            · exact p3.elim
          · exact p3.elim
      · exact p2.elim
    · exact p2.elim
  · exact p.elim
end
end L3

namespace L3
open PySem PySem.Spec
open L2 hiding Rep RepL
open Mi (Dt Xn R okR zA3 optR zA0 zAA zAG zAB zAE Rh Sl Ro EM TM AM FM IM SM Tg Out zB3 zB0 zBB full frz frz1 frzAt)
structure XNo (K:PySem.W.Frag) (mg:Str→Option Value) (c:Str) (C:Addr):Prop extends XCls K mg c C where
  kp:PySem.W.keepIn K (.ref C) = true
  ini:PySem.W.findIn K (.ref C) "__init__" = some (some (.builtin "ValueError.__init__"))
theorem zSX {X:Cx} {c:Str} {C:Addr} {e:Expr} {es:List Expr} {t:TA} {p pos:Pos} (h:XNo X.K X.mg c C) (hg:Gl X c) (ha:PA X (e :: es) t) (hdb:(c == ("__debug__":Str)) = false:=by decide)
    (he:starEach (e :: es) X.env = (false,eval e X.env) :: starEach es X.env:=by rfl) (hpl:(backTo pos (starEach es X.env)).any (·.1) = false:=by rfl):PE X (.Call (.Name c p) (e :: es) [] pos) (zJ4 C t) :=
  zPE h.is.xc h.ini hg h.gm h.kp ha hdb he hpl
section
variable [Kc] {mg:Str→Option Value} {E:XK} {L n k l:Nat} {te ta tb:TE} {e ea eb ma:EM} {t:TA} {m:AM}
theorem de_mk0 {c:Str} {C:Addr} (h:XNo Kc.K mg c C) (A:DA mg E t m 0):DE mg E (zJ4 C t) (Mi.eMkX0 c m) 0:=by
  intro G H σ ρ Q s w p
  refine A.step errE s w p fun ds vs G1 H1 S T _ fr o p1=>?_
  split at p1
  · rename_i hz
    refine ⟨by rw [o.len]; exact big' (by omega),fun e he=>?_⟩
    exact PostE.kept p1 (fr.ext.trans (Ext.new fr.ext.in' he _)) ⟨e,C,none,rfl,.inl zAP,h.cl,.inl ⟨rfl,rfl⟩⟩
  · exact p1.elim
theorem zL0 {c:Str} {C:Addr} (h:XNo Kc.K mg c C) (A:DA mg E t m 0):DS mg E L (zSS Kc.K E (zJ4 C t)) (Mi.sRaise0 c m):=by
  intro G0 H0 S0 σ ρ G H As D a p
  obtain ⟨J,x,s,w⟩:=a.full
  refine A.step (errS.from x) x.in' w p fun ds vs G1 H1 S T _ fr o p1=>?_
  split at p1
  · rename_i hz
    refine ⟨by rw [o.len]; exact big' (by omega),fun e he=>⟨e,C,none,rfl,zAP,h.is.xc,?_⟩⟩
    have hu:upd (upd H1 e (xn e (.ref C) none)) e (xo e (.ref C) none) = upd H1 e (xo e (.ref C) none):=by
      funext z
      by_cases h1:z = e
      · rw [h1,zAP,zAP]
      · rw [zAO h1,zAO h1,zAO h1]
    rw [hu]
    exact p1 (.ref e) none _ _ ((x.trans fr.ext).trans (Ext.new fr.ext.in' he _)) ⟨e,C,rfl,zAP,h.cl,.inl ⟨rfl,rfl⟩⟩
  · exact p1.elim
end
end L3

namespace L2
open PySem PySem.Spec PyProof.Rows
section
variable {X:Cx}
noncomputable def zVQ (z:Str):List V:=z.cps.toList.map fun c=>.str ⟨#[c]⟩
def rListX (K:PySem.W.Frag):List V→Hp→VK→Prop:=fun vs H Q=>match vs with
  | [.str z]=>z.length≤sizeLine∧∀ l,H l = none→Q (.ref l) (upd H l (.lst (zVQ z)))
  | _=>zIK K vs H Q
def rSumU:List V→Hp→VK→Prop:=fun vs H Q=>match vs with
  | [.ref a]=>∃ ns:List Int,H a = some (.lst (ns.map V.int))∧ns.length≤100000∧(∀ n∈ns,-1000000≤n∧n≤1000000)∧Q (.int ns.sum) H
  | _=>False
def zSU:List V→Hp→VK→Prop:=fun vs H Q=>match vs with
  | [.ref a]=>(∃ ns:List Int,H a = some (.lst (ns.map V.int))∧ns.length < 64∧∀ ms:List Int,ms.Perm ns→ms.Pairwise (·≤·)→∀ l,H l = none→Q (.ref l) (upd H l (.lst (ms.map V.int)))) ∨
      ∃ zs:List Str,H a = some (.lst (zs.map V.str))∧zs.length < 64∧∀ ys:List Str,ys.Perm zs→sortedS ys = true→∀ l,H l = none→Q (.ref l) (upd H l (.lst (ys.map V.str)))
  | _=>False
theorem zKU:∀ {ns:List Int} {vs:List Value},IntsAre vs ns→Vals (ns.map V.int) vs
  | _,_,.nil=>.nil
  | _,_,.cons n t h=>.cons ⟨t,rfl⟩ (zKU h)
theorem zK7:∀ {ns:List Str} {vs:List Value},StrsAre vs ns→Vals (ns.map V.str) vs
  | _,_,.nil=>.nil
  | _,_,.cons n t h=>.cons ⟨t,rfl⟩ (zK7 h)
theorem zRU:zD3 X (.builtin "sorted") zSU:=by
  intro pins s σ H vs us Q I r h
  match vs,r,h with
  | [.ref a],r,h =>
    obtain ⟨u,rfl,rx⟩:=zI8 r
    cases rx
    rcases h with ⟨ns,ha,hz,q⟩ | ⟨zs,ha,hz,q⟩
    · obtain ⟨its,rv,hl⟩:=zB1 I.hok ha
      have hlen:=rv.length
      rw [List.length_map] at hlen
      refine sorted_ints hl (zHO rv) (by omega) fun out ms h1 h2 h3=>?_
      obtain ⟨e,he⟩:=sortedAll_at s.heap its out
      have hz':ms.length≤sizeLine:=by rw [h2.length_eq,sizeLine_eq]; omega
      exact ⟨.ref _,_,I.laid (t':=s.toks) (o:=.lst (ms.map V.int)) (fun b o q=>sortedAll_old q) (Nat.le_succ _) ⟨by rw [List.length_map]; exact hz',out.toList,e,zKU h1,by simpa [seqObj] using he⟩,rfl,q ms h2 h3 _ (I.hok.fresh (Nat.le_succ _))⟩
    · obtain ⟨its,rv,hl⟩:=zB1 I.hok ha
      have hlen:=rv.length
      rw [List.length_map] at hlen
      refine sorted_strs hl (zK6 rv) (by omega) fun out ms h1 h2 h3=>?_
      obtain ⟨e,he⟩:=sortedAll_at s.heap its out
      have hz':ms.length≤sizeLine:=by rw [h2.length_eq,sizeLine_eq]; omega
      exact ⟨.ref _,_,I.laid (t':=s.toks) (o:=.lst (ms.map V.str)) (fun b o q=>sortedAll_old q) (Nat.le_succ _) ⟨by rw [List.length_map]; exact hz',out.toList,e,zK7 h1,by simpa [seqObj] using he⟩,rfl,q ms h2 h3 _ (I.hok.fresh (Nat.le_succ _))⟩
end
section
variable {X:Cx} {K:PySem.W.Frag}
end
end L2

namespace Mi
open PySem
noncomputable section
def listXD (ds:List Dt):Option Dt:=match ds with
  | [.str z]=>@ite _ (z.length≤100000) (Classical.propDecidable _) (some (.lst (signsD z))) none
  | ds=>listD ds
def sumD:List Dt→Option Dt
  | [.lst ds]=>match intsD ds with
    | some ns=>@ite _ (ns.length≤100000∧∀ n∈ns,-1000000≤n∧n≤1000000) (Classical.propDecidable _) (some (.int ns.sum)) none
    | none=>none
  | _=>none
noncomputable def sortI (ns:List Int):List Int:=ns.mergeSort fun a b=>decide (a≤b)
def sortD:List Dt→Option Dt
  | [.lst ds]=>match intsD ds with
    | some ns=>@ite _ (ns.length < 64) (Classical.propDecidable _) (some (.lst ((sortI ns).map .int))) none
    | none=>none
  | _=>none
end
end Mi

namespace L3
open PySem PySem.Spec
open L2 hiding Rep RepL
open Mi (Dt Xn R okR zA3 optR zA0 zAA zAG zAB zAE Rh Sl Ro EM TM AM FM IM SM Tg Out zB3 zB0 zBB full frz frz1 frzAt)
section
variable [Kc] {mg:Str→Option Value} {E:XK} {L n k l:Nat} {te ta tb:TE} {e ea eb ma:EM} {t:TA} {m:AM}
theorem zRL {r:List V→Hp→VK→Prop} {f:List Dt→Option Dt} (h0:∀ ds,(∀ es,ds≠[.lst es])→f ds = none) (h1:∀ es,Mi.intsD es = none→f [.lst es] = none)
    (h2:∀ (mg:Str→Option Value) (E:XK) (G H:Hp) (a:Addr) (es:List Dt) (ns:List Int) (Q:VK),Same G H→Mi.intsD es = some ns→H a = some (.lst (ns.map V.int))→PostE mg E G H n (optR (f [.lst es])) Q→r [.ref a] H Q):CBi r f n:=by
  intro mg E G H ds vs Q s h p
  by_cases hd:∃ es,ds = [.lst es]
  · obtain ⟨es,rfl⟩:=hd
    obtain ⟨x,rfl,a,xs,rfl,ha,ra⟩:=zG6 h
    cases ei:Mi.intsD es with
    | none=>rw [h1 es ei] at p; exact p.elim
    | some ns=>exact h2 mg E G H a es ns Q s ei (by rw [s _ _ ha,zKV ei ra]) p
  · rw [h0 ds fun es z=>hd ⟨es,z⟩] at p; exact p.elim
theorem zUD {f:List Dt→Option Dt} (h1:f [] = none) (h2:∀ d,(∀ es,d≠.lst es)→f [d] = none) (h3:∀ a b r,f (a :: b :: r) = none):∀ ds,(∀ es,ds≠[.lst es])→f ds = none:=by
  intro ds h
  match ds,h with
  | [],_=>exact h1
  | [d],h=>exact h2 d fun es z=>h es (by rw [z])
  | a :: b :: r,_=>exact h3 a b r
theorem zNQ (ns:List Int):(Mi.sortI ns).Perm ns:=List.mergeSort_perm ns _
theorem zOU (ns:List Int):(Mi.sortI ns).Pairwise (·≤·):=by
  have:=List.pairwise_mergeSort (le:=fun a b:Int=>decide (a≤b)) (fun a b c h1 h2=>by simp at h1 h2 ⊢; omega) (fun a b=>by simp; omega) ns
  exact this.imp fun h=>by simpa using h
theorem zV6:CBi zSU Mi.sortD 1:=by
  refine zRL (zUD rfl (fun d h=>by cases d <;> first | rfl | exact absurd rfl (h _)) fun a b r=>by cases a <;> rfl) (fun es h=>by rw [Mi.sortD,h]) fun mg E G H a es ns Q s ei ha p=>?_
  rw [Mi.sortD,ei] at p
  dsimp only at p
  split at p
  · rename_i hz
    refine .inl ⟨ns,ha,hz,fun ms h1 h2 l hl=>?_⟩
    have:ms = Mi.sortI ns:=PySem.W.lks_uniq (h1.trans (zNQ ns).symm) h2 (zOU ns)
    subst this
    exact PostE.lst p (Ext.refl s) (zCH _) hl
  · exact p.elim
end
end L3

namespace L3
open PySem PySem.Spec
open L2 hiding Rep RepL
open Mi (Dt Xn R okR zA3 optR zA0 zAA zAG zAB zAE Rh Sl Ro EM TM AM FM IM SM Tg Out zB3 zB0 zBB full frz frz1 frzAt)
section
variable [Kc] {G0 H0 S0:Hp} {σ:St} {ρ:Ro} {G H:Hp} {As:Nat→Addr→Prop}
theorem Sat.forget (a:Sat G0 H0 S0 σ ρ G H As) (r:Nat) (v:V):Sat G0 H0 S0 (σ.set r (some v)) (ρ.set r none) G H As:=by
  refine ⟨a.ext,a.stb,by simp [a.len],fun j e k h=>?_,a.dis,a.new⟩
  by_cases z:r = j
  · subst z
    have hj:r < ρ.length:=by
      have:=(List.getElem?_eq_some_iff.mp h).1
      simpa using this
    rw [List.getElem?_set_self hj] at h
    cases h
  · rw [List.getElem?_set_ne z] at h
    obtain ⟨u,h1,h2⟩:=a.at j e k h
    exact ⟨u,by rw [List.getElem?_set_ne z]; exact h1,h2⟩
theorem Sat.row (a:Sat G0 H0 S0 σ ρ G H As) {i k c:Nat} {rs ds:List Dt} {q:Addr} (er:ρ[i]? = some (some (.lst rs,k + 2))) (hv:σ[i]? = some (some (.ref q))) (ec:rs[c]? = some (.lst ds)) :
    ∃ (xs:List V) (qr:Addr) (ys:List V),H q = some (.lst xs)∧xs.length = rs.length∧xs[c]? = some (.ref qr)∧H qr = some (.lst ys)∧ys.length = ds.length ∧
      ∀ (ds':List Dt) (ys':List V),ys'.length = ds'.length→(∀ (r:Nat) (d:Dt) (z:V),ds'[r]? = some d→ys'[r]? = some z→(ds[r]? = some d∧ys[r]? = some z)∨(d.dep = 0∧Rep G d z)) →
        Sat G0 H0 S0 σ (ρ.set i (some (.lst (rs.set c (.lst ds')),k + 2))) G (upd H qr (.lst ys')) As:=by
  obtain ⟨v,h1,q',xs,T,rfl,hq,kd⟩:=a.at i _ _ er
  rw [hv] at h1
  cases h1
  have hc:c < xs.length:=by rw [kd.len]; exact (List.getElem?_eq_some_iff.mp ec).1
  have hxc:xs[c]? = some xs[c]:=List.getElem?_eq_getElem hc
  obtain ⟨qr,ys,U,er2,hqr,kr⟩:=kd.own c _ _ ec hxc
  refine ⟨xs,qr,ys,hq,kd.len,by rw [hxc,er2],hqr,kr.len,fun ds' ys' hl hs=>?_⟩
  have tqr:T c qr:=kr.top
  have iqr:As i qr:=kd.sub c qr tqr
  have qne:q≠qr:=fun z=>kd.out c (z ▸ tqr)
  have b:=a.store (S:=As i) (p:=qr) (o:=.lst ys') (d:=.lst (rs.set c (.lst ds'))) (n:=k + 2) (v:=.ref q) iqr hv ⟨q,xs,T,rfl,(zAO qne).trans hq,⟨by simp [kd.len],fun r d' xr g1 g2=>?_,kd.top,kd.out,kd.dis,kd.sub⟩⟩ fun b z=>.inl z
  · refine ⟨b.ext,b.stb,b.len,fun j d n h=>?_,a.dis,fun j b' h=>?_⟩
    · obtain ⟨v,g1,g2⟩:=b.at j d n h
      refine ⟨v,g1,?_⟩
      by_cases z:j = i
      · subst z; rw [if_pos rfl] at g2; exact g2
      · rw [if_neg z] at g2; exact g2
    · have:=b.new j b' (by
        by_cases z:j = i
        · subst z; rw [if_pos rfl]; exact h
        · rw [if_neg z]; exact h)
      exact this
  · by_cases hr:c = r
    · subst hr
      rw [List.getElem?_set_self (by rw [← kd.len]; exact hc)] at g1
      cases g1
      rw [hxc] at g2
      cases g2
      refine ⟨qr,ys',U,er2,zAP,⟨hl,fun r d z e1 e2=>?_,tqr,kr.out,kr.dis,kr.sub⟩⟩
      rcases hs r d z e1 e2 with ⟨g3,g4⟩ | ⟨g3,g4⟩
      · exact (kr.own r d z g3 g4).upd (kr.out r)
      · exact zSY g4 g3
    · rw [List.getElem?_set_ne hr] at g1
      exact (kd.own r d' xr g1 g2).upd fun z=>hr (kd.dis c r qr tqr z)
end
section
variable [Kc] {mg:Str→Option Value} {E:XK} {L n k l:Nat} {te ta tb:TE} {e ea eb ma:EM} {t:TA} {m:AM}
end
end L3

namespace L2
open PySem PySem.Spec PyProof.Rows
section
variable {X:Cx}
end
end L2

namespace Mi
open PySem
noncomputable section
end
end Mi

namespace L3
open PySem PySem.Spec
open L2 hiding Rep RepL
open Mi (Dt Xn R okR zA3 optR zA0 zAA zAG zAB zAE Rh Sl Ro EM TM AM FM IM SM Tg Out zB3 zB0 zBB full frz frz1 frzAt)
section
variable [Kc] {mg:Str→Option Value} {E:XK} {L n k l:Nat} {te ta tb:TE} {e ea eb ma:EM} {t:TA} {m:AM}
end
end L3

namespace L2
open PySem PySem.Spec PyProof.Rows
structure RoomH (k:Nat) (A:Around):Prop where
  dp:A.depth + 3 * k + 5 < recursionLimit
  un:A.units + 16 * k + 200 < cLine
structure FnOkH (P:Program) (w:World) (K:PySem.W.Frag) (mg:Str→Option Value) (base:Heap) (k:Nat) (f:Addr) (fd:FuncData) (ps:List Str) (sp:Sp):Prop where
  len:∀ vs H Q E,sp vs H Q E→vs.length = ps.length
  run:∀ (A:Around) (outer:List Env) (s:Shared) (H:Hp) (args:Args) (us:List Value) (vs:List V) (Q:VK) (E:XK),RoomH k A→Env0 P w K mg base A outer s H→BindsTo s fd args (ps.zip us)→Vals vs us→sp vs H Q E →
    codeAny (model P w) A (.call (.ref f) args) (CR CX0 outer P w H s Q E) s
section
variable {X:Cx} {x:Str} {j k:Nat} {ps:List Str} {sp:Sp} {e:Expr} {es:List Expr} {t:TA} {p pos:Pos}
end
end L2
namespace L2
open PySem PySem.Spec PyProof.Rows
end L2

namespace Mi
def rowSet (ρ:Rh) (r:Nat) (e1 e2:EM):Dt→Option Dt
  | .lst ds=>match e2 (ρ.set r (some (.lst ds))) with
    | some (.ok (.int v))=>match e1 (ρ.set r (some (.lst ds))) with
      | some (.ok (.int z))=>match ixA ds.length z with
        | some p=>some (.lst (ds.set p (.int v)))
        | none=>none
      | _=>none
    | _=>none
  | _=>none
def rowsSet (ρ:Rh) (r:Nat) (e1 e2:EM):List Dt→Option (List Dt)
  | []=>some []
  | d :: t=>match rowSet ρ r e1 e2 d with
    | some d'=>(rowsSet ρ r e1 e2 t).map (d' :: ·)
    | none=>none
def sForSet (i r:Nat) (e1 e2:EM):SM:=fun ρ=>match ρ[i]? with
  | some (some (.lst rs,k + 2))=>match rowsSet ((full ρ).set i none) r e1 e2 rs with
    | some rs'=>if i≠r∧r < ρ.length then okR (.nx ((ρ.set i (some (.lst rs',k + 2))).set r none)) else none
    | none=>none
  | _=>none
end Mi

namespace L3
open PySem PySem.Spec
open L2 hiding Rep RepL
open Mi (Dt Xn R okR zA3 optR zA0 zAA zAG zAB zAE Rh Sl Ro EM TM AM FM IM SM Tg Out zB3 zB0 zBB full frz frz1 frzAt)
section
variable [Kc] {mg:Str→Option Value} {E:XK} {L n n1:Nat} {t1 t2:TE} {e1 e2:EM}
theorem rowsSet_len {ρ:Rh} {r:Nat}:∀ {rs rs':List Dt},Mi.rowsSet ρ r e1 e2 rs = some rs'→rs'.length = rs.length
  | [],rs',h=>by cases h; rfl
  | d :: t,rs',h=>by
    rw [Mi.rowsSet] at h
    split at h
    · cases e:Mi.rowsSet ρ r e1 e2 t with
      | none=>rw [e] at h; cases h
      | some q=>rw [e] at h; cases h; simp [rowsSet_len e]
    · cases h
theorem zP1 {ρ:Rh} {r:Nat} {d d':Dt} (h:Mi.rowSet ρ r e1 e2 d = some d'):∃ ds v z p,d = .lst ds∧e2 (ρ.set r (some (.lst ds))) = okR (.int v)∧e1 (ρ.set r (some (.lst ds))) = okR (.int z)∧Mi.ixA ds.length z = some p∧d' = .lst (ds.set p (.int v)):=by
  cases d with
  | lst ds =>
    unfold Mi.rowSet at h
    dsimp only at h
    split at h
    · rename_i v h2
      split at h
      · rename_i z h1
        split at h
        · rename_i p hp
          exact ⟨ds,v,z,p,rfl,h2,h1,hp,(Option.some.inj h).symm⟩
        · cases h
      · cases h
    · cases h
  | _=>cases h
theorem zIJ {ρ:Rh} {r:Nat}:∀ {rs rs':List Dt} {p:Nat},Mi.rowsSet ρ r e1 e2 rs = some rs'→p < rs.length→∃ d d',rs[p]? = some d∧rs'[p]? = some d'∧Mi.rowSet ρ r e1 e2 d = some d'
  | [],rs',p,h,hp=>by simp at hp
  | d :: t,rs',p,h,hp=>by
    rw [Mi.rowsSet] at h
    split at h
    · rename_i d' hd
      cases e:Mi.rowsSet ρ r e1 e2 t with
      | none=>rw [e] at h; cases h
      | some q =>
        rw [e] at h
        cases h
        cases p with
        | zero=>exact ⟨d,d',rfl,rfl,hd⟩
        | succ p=>exact zIJ (p:=p) e (by simpa using hp)
    · cases h
theorem zQ5 (i r:Nat) (A:DE mg E t1 e1 n1) (B:DE mg E t2 e2 n):DS mg E L (fun D σ H=>iAny Kc.K (vM i) σ H (zQX (zJO r) (tAsg t2 (gSub (vM r) t1 setM)) D σ)) (Mi.sForSet i r e1 e2):=by
  intro G0 H0 S0 σ ρ G H As D a p
  unfold Mi.sForSet at p
  split at p
  · rename_i rs k e1'
    split at p
    · rename_i rs' ea
      split at p
      · rename_i hir
        obtain ⟨v,h1,q,xs0,T0,rfl,hq0,kd0⟩:=a.at i _ _ e1'
        unfold iAny vM
        rw [h1]
        refine .inl ⟨⟨xs0,SqL.of hq0⟩,?_⟩
        have hil:i < ρ.length:=(List.getElem?_eq_some_iff.mp e1').1
        have hal:=rowsSet_len ea
        refine ⟨fun j cc σ H=>cc = rs.length - j∧j≤rs.length∧σ[i]? = some (some (.ref q))∧(j = 0→σ.length = ρ.length)∧∃ As,Sat G0 H0 S0 σ (if j = 0 then ρ else (ρ.set i (some (.lst (rs'.take j ++ rs.drop j),k + 2))).set r none) G H As,
          ⟨_,rfl,Nat.zero_le _,h1,fun _=>a.len.symm,As,by rw [if_pos rfl]; exact a⟩,?_⟩
        rintro j cc σ H ⟨rfl,hj,hv,hsl,As,a⟩
        generalize hρ:(if j = 0 then ρ else (ρ.set i (some (.lst (rs'.take j ++ rs.drop j),k + 2))).set r none) = ρj at a
        have er:ρj[i]? = some (some (.lst (rs'.take j ++ rs.drop j),k + 2)):=by
          rw [← hρ]
          by_cases z:j = 0
          · subst z; rw [if_pos rfl]; simpa using e1'
          · rw [if_neg z,List.getElem?_set_ne (fun y=>hir.1 y.symm),List.getElem?_set_self hil]
        have hfe:∀ d,((full ρj).set i none).set r (some d) = ((full ρ).set i none).set r (some d):=fun d=>by
          rw [← hρ]
          by_cases z:j = 0
          · rw [if_pos z]
          · rw [if_neg z]
            unfold Mi.full
            rw [List.map_set,List.map_set,List.set_comm _ _ (fun y:r = i=>hir.1 y.symm),List.set_set,List.set_set]
        obtain ⟨v,h2,q',xs,T,e',hq,kd⟩:=a.at i _ _ er
        rw [hv] at h2
        cases h2
        cases e'
        have hlen:(rs'.take j ++ rs.drop j).length = rs.length:=by simp [hal]; omega
        by_cases hlt:j < rs.length
        · obtain ⟨d0,d1,g1,g2,g3⟩:=zIJ ea hlt
          obtain ⟨ds,vv,zz,pp,rfl,k2,k1,kp,rfl⟩:=zP1 g3
          have ec:(rs'.take j ++ rs.drop j)[j]? = some (.lst ds):=by
            rw [List.getElem?_append_right (by simp; omega)]
            simp [hal,Nat.min_eq_left (Nat.le_of_lt hlt),g1]
          refine .inr ⟨⟨xs,xs[j]'(by rw [kd.len,hlen]; exact hlt),SqL.of hq,by simp⟩,fun σ' H'=>j + 1≤rs.length∧σ'[i]? = some (some (.ref q))∧(j + 1 = 0→σ'.length = ρ.length)∧∃ As,Sat G0 H0 S0 σ' (if j + 1 = 0 then ρ else (ρ.set i (some (.lst (rs'.take (j + 1) ++ rs.drop (j + 1)),k + 2))).set r none) G H' As,fun σ' H' y=>⟨rs.length - (j + 1),by omega,rfl,y⟩,fun x H2 hy=>?_⟩
          obtain ⟨rfl,hy⟩:=hy
          obtain ⟨xs2,qr,ys,w1,w2,w3,w4,w5,_⟩:=a.row er hv ec
          have hx:=hy xs2 (SqL.of w1)
          rw [w3] at hx
          cases hx
          have hrl:r < σ.length:=by rw [← a.len,← hρ]; by_cases z:j = 0 <;> simp [z,hir.2]
          obtain ⟨J,xj,sj,wj⟩:=a.full
          have rj:Rep J (.lst ds) (.ref qr):=by
            obtain ⟨u,u1,u2⟩:=wj.at i (.lst (rs'.take j ++ rs.drop j)) (by unfold Mi.full; rw [List.getElem?_map,er]; rfl)
            rw [hv] at u1
            cases u1
            obtain ⟨b,zs,z1,z2,z3⟩:=u2
            cases z1
            have z4:=xj.in' _ _ z2
            rw [w1] at z4
            cases z4
            exact zCL z3 ec w3
          have wv:View J (σ.set r (some (.ref qr))) (((full ρ).set i none).set r (some (.lst ds))):=by
            rw [← hfe]
            refine View.set ⟨by simp [wj.len],fun u d hu=>?_⟩ rj
            by_cases z:i = u
            · subst z
              rw [List.getElem?_set_self (by rw [wj.len]; exact (List.getElem?_eq_some_iff.mp hv).1)] at hu
              cases hu
            · rw [List.getElem?_set_ne z] at hu
              exact wj.at u d hu
          show tAsg t2 (gSub (vM r) t1 setM) _ (σ.set r (some (.ref qr))) _
          refine zAS B J H2 _ _ _ xj.in' wv ?_
          rw [k2]
          intro v2 G1 H1 S1 fr2 o2
          cases (show v2 = .int vv from o2)
          unfold gSub vM
          rw [List.getElem?_set_self hrl]
          have x1:Ext J H2 J H1:=Ext.same xj.in' fr2.ext.h
          refine zAS A J H1 _ _ _ x1.in' wv ?_
          rw [k1]
          intro v3 G3 H3 S3 fr3 o3
          cases (show v3 = .int zz from o3)
          have sH:=fr2.ext.h.trans fr3.ext.h
          obtain ⟨xs3,qr3,ys3,y1,y2,y3,y4,y5,y6⟩:=(a.grow sH).row er hv ec
          have y7:=sH _ _ w1
          rw [y1] at y7
          cases y7
          rw [w3] at y3
          cases y3
          have y8:=sH _ _ w4
          rw [y4] at y8
          cases y8
          refine ⟨ys,pp,y4,by rw [y5,← zIO]; exact kp,?_⟩
          have a2:=(y6 (ds.set pp (.int vv)) (ys.set pp (.int vv)) (by simp [y5]) fun u d z e3 e4=>by
            by_cases hu:pp = u
            · subst hu
              have h3:=(List.getElem?_eq_some_iff.mp e3).1
              have h4:=(List.getElem?_eq_some_iff.mp e4).1
              rw [List.getElem?_set_self (by simpa using h3)] at e3
              rw [List.getElem?_set_self (by simpa using h4)] at e4
              cases e3; cases e4
              exact .inr ⟨rfl,rfl⟩
            · rw [List.getElem?_set_ne hu] at e3 e4
              exact .inl ⟨e3,e4⟩).forget r (.ref qr)
          refine ⟨hlt,by rw [List.getElem?_set_ne (fun y=>hir.1 y.symm)]; exact hv,fun z=>by omega,As,?_⟩
          rw [if_neg (by omega)]
          have eset:(rs'.take j ++ rs.drop j).set j (.lst (ds.set pp (.int vv))) = rs'.take (j + 1) ++ rs.drop (j + 1):=by
            have hj2:j < rs'.length:=by omega
            have gj:rs'[j] = .lst (ds.set pp (.int vv)):=by
              have:=List.getElem?_eq_getElem hj2
              rw [g2] at this
              exact (Option.some.inj this).symm
            rw [List.set_append_right _ _ (by simp; omega),List.take_succ_eq_append_getElem hj2,gj]
            simp only [List.length_take,Nat.min_eq_left (Nat.le_of_lt hj2),Nat.sub_self]
            rw [List.append_assoc]
            congr 1
            rw [List.drop_eq_getElem_cons hlt]
            rfl
          rw [eset] at a2
          by_cases z:j = 0
          · subst z
            rw [if_pos rfl] at hρ
            subst hρ
            exact a2
          · rw [if_neg z] at hρ
            subst hρ
            have e5:(((ρ.set i (some (.lst (rs'.take j ++ rs.drop j),k + 2))).set r none).set i (some (.lst (rs'.take (j + 1) ++ rs.drop (j + 1)),k + 2))).set r none = (ρ.set i (some (.lst (rs'.take (j + 1) ++ rs.drop (j + 1)),k + 2))).set r none:=by
              rw [List.set_comm _ _ (fun y:r = i=>hir.1 y.symm),List.set_set,List.set_set]
            rw [e5] at a2
            exact a2
        · have ej:j = rs.length:=by omega
          subst ej
          refine .inl ⟨⟨xs,SqL.of hq,by rw [kd.len,hlen]; exact Nat.le_refl _⟩,?_⟩
          have e6:rs'.take rs.length ++ rs.drop rs.length = rs':=by rw [← hal,List.take_length,hal,List.drop_length,List.append_nil]
          by_cases z:rs.length = 0
          · rw [if_pos z] at hρ
            subst hρ
            have hrs:rs = []:=List.eq_nil_of_length_eq_zero z
            subst hrs
            have:rs' = []:=List.eq_nil_of_length_eq_zero hal
            subst this
            have e7:ρ.set i (some (.lst [],k + 2)) = ρ:=by
              have:=(List.getElem?_eq_some_iff.mp e1').2
              rw [← this,List.set_getElem_self]
            rw [e7] at p
            refine p σ G H As ⟨a.ext,a.stb,by simp [a.len],fun j d n h=>?_,a.dis,a.new⟩
            by_cases y:r = j
            · subst y
              rw [List.getElem?_set_self hir.2] at h
              cases h
            · rw [List.getElem?_set_ne y] at h
              exact a.at j d n h
          · rw [if_neg z,e6] at hρ
            subst hρ
            exact p σ G H As a
      · exact p.elim
    · exact p.elim
  · exact p.elim
end
end L3

namespace Mi
end Mi

namespace L3
open PySem PySem.Spec
open L2 hiding Rep RepL
open Mi (Dt Xn R okR zA3 optR zA0 zAA zAG zAB zAE Rh Sl Ro EM TM AM FM IM SM Tg Out zB3 zB0 zBB full frz frz1 frzAt)
section
variable [Kc] {mg:Str→Option Value} {E:XK} {L n:Nat} {te:TE} {e:EM}
end
end L3

namespace L2
open PySem PySem.Spec PyProof.Rows
section
variable {X:Cx} {e m1:Expr} {te ts:TE} {pos p2:Pos}
end
end L2

namespace Mi
open PySem
noncomputable section
end
end Mi

namespace L3
open PySem PySem.Spec
open PyProof.Rows (risingS sortedS ltCps_eq)
open L2 hiding Rep RepL
open Mi (Dt Xn R okR zA3 optR zA0 zAA zAG zAB zAE Rh Sl Ro EM TM AM FM IM SM OM Tg Out zB3 zB0 zBB full frz frz1 frzAt)
section
variable [Kc] {mg:Str→Option Value} {E:XK} {L n k l:Nat} {te ta tb:TE} {e ea eb ma:EM} {t:TA} {m:AM}
end
end L3

namespace L2
open PySem PySem.Spec PyProof.Rows
section
variable {X:Cx} {x:Str} {C:Addr} {p pos:Pos}
end
def zY7 (K:PySem.W.Frag) (fl:List Str):Sp:=fun vs H Q _=>∃ (x C dx:Addr) (ys:List V),vs = .ref x :: ys∧ys.length = fl.length∧H x = some (.ins C dx [])∧Cls K C∧(∀ f∈fl,zTC K C f)∧Q .non (upd H x (.ins C dx (fl.zip ys)))
section
variable {X:Cx} {m:Str} {k:Nat} {E:XK} {o e:Expr} {es:List Expr} {ta:TE} {t:TA} {apos pos:Pos} {tb:List (Addr × Sp)}
end
structure OIs (K:PySem.W.Frag) (C:Addr):Prop where
  cl:Cls K C
  ha:PySem.W.findIn K (.ref C) "__class__" = some (some (.builtin "object.__class__"))
  hn:PySem.W.specialIn K (.builtin "object.__class__") "__get__" = some (some (.builtin "getset_descriptor.__get__"))
  htk:PySem.W.takesIn K (.builtin "object.__class__") = some true
  hm:PySem.W.mroIn K C (.type "object") = some true
end L2

namespace Mi
open PySem
noncomputable section
end
end Mi

namespace L3
open PySem PySem.Spec
open L2 hiding Rep RepL
open Mi (Dt Xn R okR zA3 optR zA0 zAA zAG zAB zAE Rh Sl Ro EM TM AM FM IM SM OM Tg Out zB3 zB0 zBB full frz frz1 frzAt)
structure OCls (K:PySem.W.Frag) (mg:Str→Option Value) (c:Str) (C:Addr):Prop where
  cl:clK K c = some C
  gm:mg c = some (.ref C)
  is:OIs K C
structure ONew (K:PySem.W.Frag) (mg:Str→Option Value) (c:Str) (C:Addr):Prop extends OCls K mg c C where
  mks:PySem.W.makesIn K C = true
  ini:PySem.W.findIn K (.ref C) "__init__" = some (some (.builtin "object.__init__"))
  kp:PySem.W.keepIn K (.ref C) = true
structure OIni (P:Program) (w:World) (K:PySem.W.Frag) (mg:Str→Option Value) (base:Heap) (c:Str) (fl:List Str) (C:Addr):Prop extends OCls K mg c C where
  na:∀ f∈fl,zTC K C f
  ini:∃ fI fd ps,Mk K C fI∧FnOk P w K mg base (CXe P w) 1 fI fd ps (zY7 K fl)∧Binds K fd ps []
section
variable {X:Cx} {c:Str} {fl:List Str} {C:Addr} {k:Nat} {E:XK} {e:Expr} {es:List Expr} {t:TA} {p pos:Pos}
end
section
variable [Kc] {mg:Str→Option Value} {E:XK} {L n k l:Nat} {te ta tb:TE} {e ea eb ma:EM} {t:TA} {m:AM}
end
end L3

namespace Mi
open PySem
noncomputable section
end
end Mi

namespace L2
open PySem PySem.Spec PyProof.Rows
section
variable {X:Cx} {m:Str} {k:Nat} {o e:Expr} {es:List Expr} {ta:TE} {t:TA} {apos pos:Pos} {tb:List (Addr × Sp)}
end
section
variable {prog:Program} {w:World} {A:Around} {E:Value→Shared→Prop} {s:Shared}
end
section
variable {X:Cx} {pos:Pos}
end
end L2
namespace L3
open PySem PySem.Spec
open L2 hiding Rep RepL
open Mi (Dt Xn R okR zA3 optR zA0 zAA zAG zAB zAE Rh Sl Ro EM TM AM FM IM SM OM Tg Out zB3 zB0 zBB full frz frz1 frzAt)
section
variable [Kc] {mg:Str→Option Value} {E:XK} {L n k l:Nat} {te ta tb:TE} {e ea eb ma:EM} {t:TA} {m:AM}
end
end L3

namespace L2
open PySem PySem.Spec PyProof.Rows
theorem zJ0 {M:Model} {A:Around} {E:Value→Shared→Prop} {s:Shared} {src:Source} {n:Nat} {Q:Nat→Shared→Prop} (hn:n≠0) (h:∀ i d,i < n→Q i { s with drawn:=d }):wpAny M A (choose src n) Q E s :=
  fun Γ p hΓ=>⟨hn,h _ _ (Nat.mod_lt _ (Nat.pos_of_ne_zero hn))⟩
theorem zO4 (t:SetTable) (es:Array (Int × Value)) (h:Int) (x:Value):(layNew t es h x).2.1.led = t.led:=by
  unfold layNew
  split
  · dsimp only
    unfold SetTable.orStandIn
    split <;> rfl
  · rfl
theorem zKI {t t':SetTable} {hs:Array Int} {w:Nat} {o:Array Nat} (h:t.relaid hs w = some (t',o)):t'.led = t.led∧t'.plain = t.plain:=by
  unfold SetTable.relaid SetTable.laid at h
  cases e:SetTable.layClean (SetTable.sizeAbove w - 1) hs with
  | none=>rw [e] at h; cases h
  | some ow =>
    rw [e] at h
    have h':=Option.some.inj h
    have:=congrArg Prod.fst h'
    dsimp only at this
    rw [← this]
    exact ⟨rfl,rfl⟩
theorem zIB (t:SetTable) (es:Array (Int × Value)) (wanted:Nat):(relayAll t es wanted).2.1.led = t.led∧(t.plain = false→(relayAll t es wanted).2.1.plain = false):=by
  unfold relayAll
  split
  · rename_i t' order e
    obtain ⟨h1,h2⟩:=zKI e
    dsimp only
    split
    · exact ⟨h1,fun h=>h2.trans h⟩
    · exact ⟨rfl,fun _=>rfl⟩
  · exact ⟨rfl,fun _=>rfl⟩
section
variable {prog:Program} {w:World} {A:Around} {E:Value→Shared→Prop} {s:Shared}
end
end L2

namespace L2
open PySem PySem.Spec PyProof.Rows
section
variable {prog:Program} {w:World} {A:Around} {R:Result→Shared→Prop} {I:Addr} {fp wr:List Addr} {G:Array GenState→Array GenState→Prop} {n:Nat} {St:Nat→Shared→Prop} {led:Bool} {z:Str}
end
end L2
namespace PySem
open PyProof.Rows
theorem zJ7 {prog:Program} {w:World} {A:Around} {E:Value→Shared→Prop} {s:Shared} (a:Value) {Q₁:Value→Shared→Prop}
    (h:Q₁ (.ref s.heap.objs.size) { s with heap:=s.heap.push { cls:=.type "set",dict:=none,data:=.set #[] 0 (.fresh 0 0 (!w.params.followText "set-order")) } }) :
    codeAny (model prog w) A (.call (.builtin "set.__new__") ⟨[.type "set",a],[]⟩) (wants Q₁ E) s:=by
  refine codeAny_of_tree ?_
  show wpAny _ A.in1 (do checkBuiltinCall "set.__new__" ⟨[.type "set",a],[]⟩; again (.builtin "set.__new__" ⟨[.type "set",a],[]⟩)) _ _ s
  refine wpAny_bind (wpAny_of_eq (F.newCall_set_1 a) (wpAny_pure ⟨plainId_quiet F.plain_set_new _,codeAny_builtin F.entry_set_new ?_⟩))
  rw [Around.under_plainId F.plain_set_new _]
  unfold Builtin.«set.__new__» Builtin.Frozenset.newClass
  have hsub:=sub_set_self
  obtain ⟨hp,g,d,tk,os⟩:=s
  dsimp only
  wp_walk
  refine wpAny_askSetting (wpAny_pure ?_)
  dsimp only
  simp only [newObj]
  refine wpAny_bind (wpAny_alloc (wpAny_pure ?_))
  exact wpAny_pure h
end PySem

namespace L2
open PySem PySem.Spec PyProof.Rows
theorem slot_si_next:Slot "set_iterator" "__next__" "set_iterator.__next__" :=
  .of (owner:="set_iterator") (n:="__next__") (by rw [typeLookup_type,builtinLookup_eq_fast]; kernel_rfl) (by decide +kernel) (by decide +kernel) (by decide +kernel)
    (by first | exact .inl (by decide +kernel) | exact .inr (by decide +kernel)) (by rw [isSubtype_type]; kernel_rfl)
theorem zGH:Slot "set_iterator" "__iter__" "set_iterator.__iter__" :=
  .of (owner:="set_iterator") (n:="__iter__") (by rw [typeLookup_type,builtinLookup_eq_fast]; kernel_rfl) (by decide +kernel) (by decide +kernel) (by decide +kernel)
    (by first | exact .inl (by decide +kernel) | exact .inr (by decide +kernel)) (by rw [isSubtype_type]; kernel_rfl)
theorem zCR:entryFor table "set_iterator.__next__" = some Builtin.«set_iterator.__next__»:=entryFor_of_fast (by kernel_rfl)
theorem zJQ:entryFor table "set_iterator.__iter__" = some Builtin.«dict_keyiterator.__iter__»:=entryFor_alias (id':="dict_keyiterator.__iter__") (by kernel_rfl) rfl (by decide +kernel) (by kernel_rfl)
theorem zHQ:entryFor table "set.__iter__" = some Builtin.«frozenset.__iter__»:=entryFor_alias (id':="frozenset.__iter__") (by kernel_rfl) rfl (by decide +kernel) (by kernel_rfl)
theorem zD9 (a:Value):argsOk "set_iterator.__next__" ⟨[a],[]⟩:=by unfold argsOk; kernel_rfl
theorem zLG (a:Value):argsOk "set_iterator.__iter__" ⟨[a],[]⟩:=by unfold argsOk; kernel_rfl
def IsSI (h:Heap) (it:Addr) (vs:Array Value):Prop:=∃ o,h.get? it = some o∧o.cls = .type "set_iterator"∧o.data = .fields vs
section
variable {prog:Program} {w:World} {A:Around} {E:Value→Shared→Prop} {s:Shared}
theorem zOW {it:Addr} {vs:Array Value} {Q:Value→Shared→Prop} (hit:IsSI s.heap it vs) (h:Q (.ref it) s):wpAny (model prog w) A (pyIter (.ref it)) Q E s:=by
  obtain ⟨o,ho,hc,hd⟩:=hit
  have hT:s.TypeIs (.ref it) "set_iterator":=⟨o,ho,hc⟩
  refine wpAny_pyIter_slot hT zGH (wpAny_call_entry zGH hT zJQ ?_ (zLG _))
  show wpAny _ _ (ret (.ref it)) _ _ s
  exact wpAny_pure ⟨_,rfl,"set_iterator",_,hT,slot_si_next.lookup,h⟩
theorem zOV {P:Fin→Shared→Prop} {E':Value→Shared→Prop} (hh:A.handled = none) (h:∀ x h',Heap.ExtBut s.heap.objs.size s.heap h'→(∀ b o,s.heap.get? b = some o→h'.get? b = some o)→(∃ ox,h'.get? x = some ox∧ox.cls = .type "StopIteration")→E' (.ref x) { s with heap:=h' }) :
    wpAny (model prog w) A (newExc (.type "StopIteration") [] >>= fun x=>(raiseNew x:Sem Fin)) P E' s:=by
  refine wpAny_bind ?_
  simp only [newExc,newTuple]
  refine wpAny_bind (wpAny_newObj_type ?_ (by size_fits))
  refine wpAny_bind (m:=firstArgMember _ _) (wpAny_of_eq (a:=Value.none) (by first | rfl | (simp only [firstArgMember]; rfl)) ?_)
  refine wpAny_newObj_type ?_ (by size_fits)
  simp only [raiseNew]
  refine wpAny_bind (wpAny_handled ?_)
  rw [hh]
  refine wpAny_bind (wpAny_pure (wpAny_throw ?_))
  exact h _ _ (fun b o hb e=>Heap.get?_push_of_some _ (Heap.get?_push_of_some _ e)) (fun b o e=>Heap.get?_push_of_some _ (Heap.get?_push_of_some _ e)) ⟨_,Heap.get?_push_size _ rfl,rfl⟩
theorem zKC {it a:Addr} {es:Array (Int × Value)} {ep:Nat} {tb:SetTable} {os:Obj} {sl i nx:Nat} {x:Value} {Q:Option Value→Shared→Prop} (hne:a≠it)
    (hit:IsSI s.heap it #[.int sl 0,.int i 0,.ref a,.int es.size 0,.int ep 0]) (ho:s.heap.get? a = some os) (hd:os.data = .set es ep tb) (hf:tb.fits es.size = true)
    (hN:∀ (s:Shared) (Q:Option (Value × Nat)→Shared→Prop) (A:Around) (E:Value→Shared→Prop),s.heap.get? a = some os→Q (some (x,nx)) s→wpAny (model prog w) A (setNext a sl i ep) Q E s)
    (hQ:∀ h',IsSI h' it #[.int nx 0,.int (i + 1:Nat) 0,.ref a,.int es.size 0,.int ep 0]→Heap.SameBut it s.heap h'→Q (some x) { s with heap:=h' }) :
    wpAny (model prog w) A (pyNext (.ref it)) Q E s:=by
  obtain ⟨o,hoi,hc,hdi⟩:=hit
  have hT:s.TypeIs (.ref it) "set_iterator":=⟨o,hoi,hc⟩
  unfold pyNext
  refine wpAny_bind (wpAny_attempt (wpAny_callSpecial?_slot (name:=Str.ofString "__next__") hT slot_si_next (wpAny_call_entry slot_si_next hT zCR ?_ (zD9 _))))
  unfold Builtin.«set_iterator.__next__»
  refine wpAny_bind (m:=slotArgs "__next__" 0 _) (wpAny_pure ?_)
  refine wpAny_bind (wpAny_fieldsOf hoi hdi ?_)
  dsimp only
  refine wpAny_bind (wpAny_setEntries_of ho hd hf ?_)
  rw [if_neg (by simp)]
  refine wpAny_bind (hN _ _ _ _ ho ?_)
  dsimp only
  refine wpAny_bind (wpAny_setField hoi hdi (by simp) ?_)
  have e1:=Heap.get?_update_self (Obj.mapFields (·.setIfInBounds 0 (rawInt (nx:Nat)))) hoi (Obj.isFreed_of_fields (Obj.data_mapFields hdi _))
  refine wpAny_bind (wpAny_setField e1 (Obj.data_mapFields hdi _) (by simp) ?_)
  have e2:=Heap.get?_update_self (Obj.mapFields (·.setIfInBounds 1 (rawInt ((i:Int) + 1)))) e1 (Obj.isFreed_of_fields (Obj.data_mapFields (Obj.data_mapFields hdi _) _))
  refine wpAny_pure ⟨x,rfl,wpAny_pure (hQ _ ⟨_,e2,?_,?_⟩ ((Heap.SameBut.update ..).trans (Heap.SameBut.update ..)))⟩
  · rw [Obj.cls_mapFields,Obj.cls_mapFields,hc]
  · rw [Obj.data_mapFields (Obj.data_mapFields hdi _)]
    simp [rawInt]
theorem zLN {it a:Addr} {es:Array (Int × Value)} {ep:Nat} {tb:SetTable} {os:Obj} {sl i:Nat} {Q:Option Value→Shared→Prop} (hh:A.handled = none) (hne:a≠it)
    (hit:IsSI s.heap it #[.int sl 0,.int i 0,.ref a,.int es.size 0,.int ep 0]) (ho:s.heap.get? a = some os) (hd:os.data = .set es ep tb) (hf:tb.fits es.size = true)
    (hN:∀ (s:Shared) (Q:Option (Value × Nat)→Shared→Prop) (A:Around) (E:Value→Shared→Prop),s.heap.get? a = some os→Q none s→wpAny (model prog w) A (setNext a sl i ep) Q E s)
    (hQ:∀ h',Heap.ExtBut it s.heap h'→Q none { s with heap:=h' }) :
    wpAny (model prog w) A (pyNext (.ref it)) Q E s:=by
  obtain ⟨o,hoi,hc,hdi⟩:=hit
  have hT:s.TypeIs (.ref it) "set_iterator":=⟨o,hoi,hc⟩
  unfold pyNext
  refine wpAny_bind (wpAny_attempt (wpAny_callSpecial?_slot (name:=Str.ofString "__next__") hT slot_si_next (wpAny_call_entry slot_si_next hT zCR ?_ (zD9 _))))
  unfold Builtin.«set_iterator.__next__»
  refine wpAny_bind (m:=slotArgs "__next__" 0 _) (wpAny_pure ?_)
  refine wpAny_bind (wpAny_fieldsOf hoi hdi ?_)
  dsimp only
  refine wpAny_bind (wpAny_setEntries_of ho hd hf ?_)
  rw [if_neg (by simp)]
  refine wpAny_bind (hN _ _ _ _ ho ?_)
  dsimp only
  refine wpAny_bind (wpAny_setField hoi hdi (by simp) ?_)
  refine zOV hh fun x h' _ hk hx=>?_
  obtain ⟨ox,hox,hcx⟩:=hx
  refine wpAny_bind (wpAny_isInstance (T:="StopIteration") (b:=true) ⟨ox,hox,hcx⟩ isSubtype_stop ?_)
  exact wpAny_pure (hQ _ fun b o' hb e=>hk b o' ((Heap.get?_update_other _ _ (Ne.symm hb)).trans e))
theorem zKD {it a T:Addr} {es:Array (Int × Value)} {ep:Nat} {tb:SetTable} {os:Obj} {i p:Nat} {t0:Tok} {h0:Int} {x:Value} {ps:Array Value} {Q:Option Value→Shared→Prop} (hne:a≠it)
    (hit:IsSI s.heap it #[.ref T,.int i 0,.ref a,.int es.size 0,.int ep 0]) (ho:s.heap.get? a = some os) (hd:os.data = .set es ep tb) (hf:tb.fits es.size = true)
    (hT0:∃ oT n,s.heap.get? T = some oT∧oT.data = .seq ps n) (hp:ps[i]? = some (.int p t0)) (hx:es[p]? = some (h0,x))
    (hQ:∀ h',IsSI h' it #[.ref T,.int (i + 1:Nat) 0,.ref a,.int es.size 0,.int ep 0]→Heap.SameBut it s.heap h'→Q (some x) { s with heap:=h' }) :
    wpAny (model prog w) A (pyNext (.ref it)) Q E s:=by
  obtain ⟨o,hoi,hc,hdi⟩:=hit
  obtain ⟨oT,nT,hoT,hdT⟩:=hT0
  have hT:s.TypeIs (.ref it) "set_iterator":=⟨o,hoi,hc⟩
  unfold pyNext
  refine wpAny_bind (wpAny_attempt (wpAny_callSpecial?_slot (name:=Str.ofString "__next__") hT slot_si_next (wpAny_call_entry slot_si_next hT zCR ?_ (zD9 _))))
  unfold Builtin.«set_iterator.__next__»
  refine wpAny_bind (m:=slotArgs "__next__" 0 _) (wpAny_pure ?_)
  refine wpAny_bind (wpAny_fieldsOf hoi hdi ?_)
  dsimp only
  refine wpAny_bind (wpAny_setEntries_of ho hd hf ?_)
  rw [if_neg (by simp)]
  refine wpAny_bind (wpAny_seqItems hoT hdT ?_)
  dsimp only
  simp only [Int.toNat_natCast,hp]
  refine wpAny_bind ?_
  unfold setNextDrawn
  refine wpAny_bind (wpAny_setState_of ho hd hf ?_)
  dsimp only
  rw [if_neg (by simp)]
  simp only [Int.toNat_natCast,hx]
  refine wpAny_pure ?_
  refine wpAny_bind (wpAny_setField hoi hdi (by simp) ?_)
  have e1:=Heap.get?_update_self (Obj.mapFields (·.setIfInBounds 1 (rawInt ((i:Int) + 1)))) hoi (Obj.isFreed_of_fields (Obj.data_mapFields hdi _))
  refine wpAny_pure ⟨x,rfl,wpAny_pure (hQ _ ⟨_,e1,?_,?_⟩ (Heap.SameBut.update ..))⟩
  · rw [Obj.cls_mapFields,hc]
  · rw [Obj.data_mapFields hdi]
    simp [rawInt]
theorem zLO {it a T:Addr} {es:Array (Int × Value)} {ep:Nat} {tb:SetTable} {os:Obj} {i:Nat} {ps:Array Value} {Q:Option Value→Shared→Prop} (hh:A.handled = none) (hne:a≠it)
    (hit:IsSI s.heap it #[.ref T,.int i 0,.ref a,.int es.size 0,.int ep 0]) (ho:s.heap.get? a = some os) (hd:os.data = .set es ep tb) (hf:tb.fits es.size = true)
    (hT0:∃ oT n,s.heap.get? T = some oT∧oT.data = .seq ps n) (hp:ps[i]? = none)
    (hQ:∀ h',Heap.ExtBut it s.heap h'→Q none { s with heap:=h' }) :
    wpAny (model prog w) A (pyNext (.ref it)) Q E s:=by
  obtain ⟨o,hoi,hc,hdi⟩:=hit
  obtain ⟨oT,nT,hoT,hdT⟩:=hT0
  have hT:s.TypeIs (.ref it) "set_iterator":=⟨o,hoi,hc⟩
  unfold pyNext
  refine wpAny_bind (wpAny_attempt (wpAny_callSpecial?_slot (name:=Str.ofString "__next__") hT slot_si_next (wpAny_call_entry slot_si_next hT zCR ?_ (zD9 _))))
  unfold Builtin.«set_iterator.__next__»
  refine wpAny_bind (m:=slotArgs "__next__" 0 _) (wpAny_pure ?_)
  refine wpAny_bind (wpAny_fieldsOf hoi hdi ?_)
  dsimp only
  refine wpAny_bind (wpAny_setEntries_of ho hd hf ?_)
  rw [if_neg (by simp)]
  refine wpAny_bind (wpAny_seqItems hoT hdT ?_)
  dsimp only
  simp only [Int.toNat_natCast,hp]
  refine wpAny_bind (wpAny_setField hoi hdi (by simp) ?_)
  have e1:=Heap.get?_update_self (Obj.mapFields (·.setIfInBounds 0 (rawInt 0))) hoi (Obj.isFreed_of_fields (Obj.data_mapFields hdi _))
  refine wpAny_bind (wpAny_setField e1 (Obj.data_mapFields hdi _) (by simp) ?_)
  refine zOV hh fun x h' _ hk hx=>?_
  obtain ⟨ox,hox,hcx⟩:=hx
  refine wpAny_bind (wpAny_isInstance (T:="StopIteration") (b:=true) ⟨ox,hox,hcx⟩ isSubtype_stop ?_)
  exact wpAny_pure (hQ _ fun b o' hb e=>hk b o' ((Heap.get?_update_other _ _ (Ne.symm hb)).trans ((Heap.get?_update_other _ _ (Ne.symm hb)).trans e)))
end
end L2

namespace L2
open PySem PySem.Spec PyProof.Rows
section
variable {prog:Program} {w:World} {A:Around} {E:Value→Shared→Prop} {s:Shared}
theorem zK2 (hh:A.handled = none) {it a:Addr} (hne:a≠it) {es:Array (Int × Value)} {ep:Nat} {tb:SetTable} {os:Obj} (hd:os.data = .set es ep tb) (hf:tb.fits es.size = true) (vs:Nat→Value) (sl:Nat→Nat)
    (hN:∀ i,i < es.size→∀ (s:Shared) (Q:Option (Value × Nat)→Shared→Prop) (A:Around) (E:Value→Shared→Prop),s.heap.get? a = some os→Q (some (vs i,sl (i + 1))) s→wpAny (model prog w) A (setNext a (sl i) i ep) Q E s)
    (hE:∀ (s:Shared) (Q:Option (Value × Nat)→Shared→Prop) (A:Around) (E:Value→Shared→Prop),s.heap.get? a = some os→Q none s→wpAny (model prog w) A (setNext a (sl es.size) es.size ep) Q E s) :
    Walks prog w A it [it,a] [it] es.size (fun i v=>v = vs i) (fun i h=>IsSI h it #[.int (sl i) 0,.int i 0,.ref a,.int es.size 0,.int ep 0]∧h.get? a = some os) where
  sub:=fun b hb=>by simp at hb; simp [hb]
  frame:=fun i h h' st hk=>⟨let ⟨o,ho,r⟩:=st.1; ⟨o,hk it (by simp) o ho,r⟩,hk a (by simp) _ st.2⟩
  item:=fun i s Q E hi st hQ=>by
    have hs:s = { s with toks:=s.toks }:=by cases s; rfl
    refine zKC hne st.1 st.2 hd hf (hN i hi) fun h' hit' hs'=>?_
    exact hQ _ h' s.toks rfl ⟨hit',(hs'.2 a hne).trans st.2⟩ fun b o hb e=>(hs'.2 b fun z=>hb (by simp [z])).trans e
  done:=fun s Q E st hQ=>by
    refine zLN hh hne st.1 st.2 hd hf hE fun h' he'=>?_
    exact hQ h' s.toks fun b o hb e=>he' b o (fun z=>hb (by simp [z])) e
  self:=fun i s Q E st hQ=>zOW st.1 hQ
theorem zOJ (hh:A.handled = none) {it a T:Addr} (hne:a≠it) (hTi:T≠it) {es:Array (Int × Value)} {ep:Nat} {tb:SetTable} {os oT:Obj} {nT:Nat} (hd:os.data = .set es ep tb) (hf:tb.fits es.size = true) (ps:List Nat) (hps:ps.length = es.size) (hlt:∀ p∈ps,p < es.size) (hdT:oT.data = .seq (ps.map fun p:Nat=>rawInt (p:Int)).toArray nT) :
    Walks prog w A it [it,a,T] [it] es.size (fun i v=>∃ p h0,ps[i]? = some p∧es[p]? = some (h0,v)) (fun i h=>IsSI h it #[.ref T,.int i 0,.ref a,.int es.size 0,.int ep 0]∧h.get? a = some os∧h.get? T = some oT) where
  sub:=fun b hb=>by simp at hb; simp [hb]
  frame:=fun i h h' st hk=>⟨let ⟨o,ho,r⟩:=st.1; ⟨o,hk it (by simp) o ho,r⟩,hk a (by simp) _ st.2.1,hk T (by simp) _ st.2.2⟩
  item:=fun i s Q E hi st hQ=>by
    have hpi:ps[i]? = some ps[i]:=List.getElem?_eq_getElem (by omega)
    have hpl:ps[i] < es.size:=hlt _ (List.getElem_mem _)
    have hx:es[ps[i]]? = some (es[ps[i]].1,es[ps[i]].2):=by simp [hpl]
    refine zKD (p:=ps[i]) (t0:=0) hne st.1 st.2.1 hd hf ⟨oT,nT,st.2.2,hdT⟩ (by rw [List.getElem?_toArray,List.getElem?_map,hpi]; rfl) hx fun h' hit' hs'=>?_
    exact hQ _ h' s.toks ⟨_,_,hpi,hx⟩ ⟨hit',(hs'.2 a hne).trans st.2.1,(hs'.2 T hTi).trans st.2.2⟩ fun b o hb e=>(hs'.2 b fun z=>hb (by simp [z])).trans e
  done:=fun s Q E st hQ=>by
    refine zLO hh hne st.1 st.2.1 hd hf ⟨oT,nT,st.2.2,hdT⟩ (by simp [hps]) fun h' he'=>?_
    exact hQ h' s.toks fun b o hb e=>he' b o (fun z=>hb (by simp [z])) e
  self:=fun i s Q E st hQ=>zOW st.1 hQ
theorem zGB {α:Type}:∀ (l:List α) {i:Nat} (h:i < l.length),(l[i] :: l.eraseIdx i).Perm l
  | a :: r,0,h=>by simp
  | a :: r,i + 1,h=>by
    have:=zGB r (i:=i) (by simpa using h)
    simp only [List.getElem_cons_succ,List.eraseIdx_cons_succ]
    exact (List.Perm.swap _ _ _).trans (this.cons a)
theorem zIS {α:Type}:∀ (n:Nat) (xs:List α) (s:Shared) (Q:List α→Shared→Prop),xs.length = n→(∀ ys d,ys.Perm xs→Q ys { s with drawn:=d })→wpAny (model prog w) A (drawOrder n xs) Q E s
  | 0,xs,s,Q,hl,h=>by
    have e:xs = []:=List.length_eq_zero_iff.mp hl
    subst e
    unfold drawOrder
    have:=h [] s.drawn (List.Perm.refl _)
    exact wpAny_pure this
  | n + 1,[],s,Q,hl,h=>by simp at hl
  | n + 1,x :: xs,s,Q,hl,h=>by
    unfold drawOrder
    refine wpAny_bind (zJ0 (by simp) fun i d hi=>?_)
    have hget:(x :: xs)[i]? = some ((x :: xs)[i]'hi):=List.getElem?_eq_getElem hi
    rw [hget]
    dsimp only
    refine wpAny_bind (zIS n _ _ _ (by rw [List.length_eraseIdx_of_lt hi]; simp at hl ⊢; omega) fun ys d' hp=>wpAny_pure ?_)
    exact h _ d' ((hp.cons _).trans (zGB _ hi))
theorem zPC {α:Type} (next:Nat→Nat):∀ (fuel k:Nat) (left:List α) (out:Array α),left.length = fuel→(pickOrder.go next fuel k left out).toList.Perm (out.toList ++ left)
  | 0,k,left,out,hl=>by
    have e:left = []:=List.length_eq_zero_iff.mp hl
    subst e
    simp [pickOrder.go]
  | fuel + 1,k,left,out,hl=>by
    unfold pickOrder.go
    have hi:next k % left.length < left.length:=Nat.mod_lt _ (by omega)
    have hget:left[next k % left.length]? = some (left[next k % left.length]'hi):=List.getElem?_eq_getElem hi
    rw [hget]
    dsimp only
    refine (zPC next fuel (k + 1) _ _ (by rw [List.length_eraseIdx_of_lt hi]; omega)).trans ?_
    rw [Array.toList_push,List.append_assoc]
    exact List.Perm.append_left _ (zGB left hi)
theorem zPB (next:Nat→Nat) {α:Type} (xs:Array α):(pickOrder next xs).toList.Perm xs.toList:=by
  have:=zPC next xs.size 0 xs.toList #[] (by simp)
  unfold pickOrder
  simpa using this
end
end L2
namespace L2
open PySem PySem.Spec PyProof.Rows
section
variable {prog:Program} {w:World} {A:Around} {E:Value→Shared→Prop} {s:Shared}
end
end L2

namespace L2
open PySem PySem.Spec PyProof.Rows
theorem zTS:typeLookup (.type "set") "__len__" = pure (some (.builtin "set.__len__")):=by rw [typeLookup_type,builtinLookup_eq_fast]; kernel_rfl
section
variable {prog:Program} {w:World} {A:Around} {E:Value→Shared→Prop} {s:Shared}
end
end L2

namespace Mi
open PySem
noncomputable section
end
end Mi

namespace L2
open PySem PySem.Spec PyProof.Rows
section
variable {X:Cx} {pins:List (Addr × Obj)} {σ:List (Option V)} {H:Hp} {s:Shared}
theorem Inv.drawn (I:Inv X pins σ H s) (d:Drawn):Inv X pins σ H { s with drawn:=d }:=⟨I.ok,I.os,I.bare,I.base,I.loc,I.cell,I.free,I.freeC,I.pin,I.hok,I.len⟩
end
theorem zQG:bootBuiltins "set" = some (.type "set"):=by decide +kernel
end L2
namespace L3
open PySem PySem.Spec
open PyProof.Rows (risingS sortedS ltCps_eq)
open L2 hiding Rep RepL
open Mi (Dt Xn R okR zA3 optR zA0 zAA zAG zAB zAE Rh Sl Ro EM TM AM FM IM SM OM Tg Out zB3 zB0 zBB full frz frz1 frzAt)
section
variable [Kc] {mg:Str→Option Value} {E:XK} {L n k l:Nat} {te ta tb:TE} {e ea eb ma:EM} {t:TA} {m:AM}
end
end L3

namespace Mi
open PySem
noncomputable section
end
end Mi

namespace PySem
open Builtin Builtin.Str PySem.Spec
end PySem
namespace L2
open PySem PySem.Spec PyProof.Rows
section
variable {X:Cx} {pins:List (Addr × Obj)} {σ:List (Option V)} {H:Hp} {s:Shared}
end
end L2

namespace L3
open PySem PySem.Spec
open PyProof.Rows (risingS sortedS ltCps_eq)
open L2 hiding Rep RepL
open Mi (Dt Xn R okR zA3 optR zA0 zAA zAG zAB zAE Rh Sl Ro EM TM AM FM IM SM OM Tg Out zB3 zB0 zBB full frz frz1 frzAt)
section
variable [Kc] {mg:Str→Option Value} {E:XK} {L n k l:Nat} {te ta tb:TE} {e ea eb ma:EM} {t:TA} {m:AM}
end
end L3

namespace Mi
open PySem
noncomputable section
end
end Mi

namespace L2
open PySem PySem.Spec PyProof.Rows
section
variable {prog:Program} {w:World} {A:Around} {E:Value→Shared→Prop} {s:Shared}
end
section
variable {X:Cx} {pins:List (Addr × Obj)} {σ:List (Option V)} {H:Hp} {s:Shared}
end
end L2
namespace L3
open PySem PySem.Spec
open L2 hiding Rep RepL
open Mi (Dt Xn R okR zA3 optR zA0 zAA zAG zAB zAE Rh Sl Ro EM TM AM FM IM SM OM Tg Out zB3 zB0 zBB full frz frz1 frzAt)
section
variable [Kc] {mg:Str→Option Value} {E:XK} {L n k l:Nat} {te ta tb:TE} {e ea eb ma:EM} {t:TA} {m:AM}
end
end L3

namespace L2
open PySem PySem.Spec
structure Dr (p:Prop):Prop where
  h:p
section
variable {X:Cx}
end
end L2

namespace Mi
open PySem
noncomputable section
end
end Mi

namespace L2
open PySem PySem.Spec PyProof.Rows
structure Walk1 (prog:Program) (w:World) (A:Around) (I:Addr) (fp:List Addr) (n:Nat) (P:Nat→Value→Prop) (St:Nat→Heap→Prop):Prop where
  me:I∈fp
  frame:∀ i h h',St i h→(∀ b∈fp,∀ o,h.get? b = some o→h'.get? b = some o)→St i h'
  item:∀ i (s:Shared) (Q:Option Value→Shared→Prop) (E:Value→Shared→Prop),i < n→St i s.heap →
    (∀ v h' tk,P i v→St (i + 1) h'→(∀ b o,b≠I→s.heap.get? b = some o→h'.get? b = some o)→Q (some v) { s with heap:=h',toks:=tk })→wpAny (model prog w) A (pyNext (.ref I)) Q E s
  done:∀ (s:Shared) (Q:Option Value→Shared→Prop) (E:Value→Shared→Prop),St n s.heap →
    (∀ h' tk,(∀ b o,b≠I→s.heap.get? b = some o→h'.get? b = some o)→(∃ u,h'.get? I = some u)→Q none { s with heap:=h',toks:=tk })→wpAny (model prog w) A (pyNext (.ref I)) Q E s
  self:∀ i (s:Shared) (Q:Value→Shared→Prop) (E:Value→Shared→Prop),St i s.heap→Q (.ref I) s→wpAny (model prog w) A (pyIter (.ref I)) Q E s
structure Once (prog:Program) (w:World) (T:String) (r:Addr) (fp:List Addr) (n:Nat) (P:Nat→Value→Prop) (St:Nat→Heap→Prop):Prop where
  ty:∀ (s:Shared) i,St i s.heap→s.TypeIs (.ref r) T
  nl:(Value.type T == Value.type "list") = false
  nt:(Value.type T == Value.type "tuple") = false
  me:r∈fp
  hint:∀ (A:Around) (E:Value→Shared→Prop) (s:Shared) (Q:Bool→Shared→Prop),A.handled = none→St 0 s.heap→(∀ b tk,Q b { s with toks:=tk })→wpAny (model prog w) A (Builtin.List.listLengthHint (.ref r)) Q E s
  walk:∀ (A:Around),A.handled = none→Walk1 prog w A r fp n P St
section
variable {prog:Program} {w:World} {A:Around} {E:Value→Shared→Prop} {s:Shared} {T:String} {r:Addr} {fp:List Addr} {n:Nat} {P:Nat→Value→Prop} {St:Nat→Heap→Prop}
end
section
variable {prog:Program} {w:World} {A:Around} {E:Value→Shared→Prop} {s:Shared} {x:Str} {t:Tok}
end
end L2

namespace L2
open PySem PySem.Spec PyProof.Rows
section
variable {X:Cx} {pins:List (Addr × Obj)} {σ:List (Option V)} {H:Hp} {s:Shared}
end
end L2
namespace L3
open PySem PySem.Spec
open L2 hiding Rep RepL
open Mi (Dt Xn R okR zA3 optR zA0 zAA zAG zAB zAE Rh Sl Ro EM TM AM FM IM SM OM Tg Out zB3 zB0 zBB full frz frz1 frzAt)
section
variable [Kc] {mg:Str→Option Value} {E:XK} {L n k l:Nat} {te ta tb:TE} {e ea eb ma:EM} {t:TA} {m:AM}
end
end L3

namespace Mi
open PySem
noncomputable section
end
end Mi

namespace L3
open PySem PySem.Spec
open L2 hiding Rep RepL
open Mi (Dt Xn R okR zA3 optR zA0 zAA zAG zAB zAE Rh Sl Ro EM TM AM FM IM SM OM Tg Out zB3 zB0 zBB full frz frz1 frzAt)
section
variable [Kc] {mg:Str→Option Value} {E:XK} {L n k l:Nat}
end
section
variable [Kc] {mg:Str→Option Value} {E:XK} {L n k l:Nat}
end
end L3

namespace Mi
open PySem
noncomputable section
end
end Mi

namespace PySem
open Builtin Builtin.Str PySem.Spec
end PySem
namespace L2
open PySem PySem.Spec PyProof.Rows
section
variable {X:Cx} {pins:List (Addr × Obj)} {σ:List (Option V)} {H:Hp} {s:Shared}
end
end L2
namespace L3
open PySem PySem.Spec
open L2 hiding Rep RepL
open Mi (Dt Xn R okR zA3 optR zA0 zAA zAG zAB zAE Rh Sl Ro EM TM AM FM IM SM OM Tg Out zB3 zB0 zBB full frz frz1 frzAt)
section
variable [Kc] {mg:Str→Option Value} {E:XK} {L n k l:Nat}
end
end L3

namespace PySem
open Sem (wp)
section
variable {prog:Program} {w:World} {A:Around} {K:Type} [DecidableEq K] {knd:KeyKind prog w K}
end
end PySem

namespace Mi
open PySem
noncomputable section
end
end Mi

namespace L2
open PySem PySem.Spec PyProof.Rows
section
variable {X:Cx}
variable {o e:Expr} {es:List Expr} {to:TE} {t:TA} {name:Str} {apos cpos:Pos} {T id:String} {r:V→List V→Hp→VK→Prop}
end
end L2
namespace L3
open PySem PySem.Spec
open L2 hiding Rep RepL
open Mi (Dt Xn R okR zA3 optR zA0 zAA zAG zAB zAE Rh Sl Ro EM TM AM FM IM SM OM Tg Out zB3 zB0 zBB full frz frz1 frzAt)
section
variable [Kc] {mg:Str→Option Value} {E:XK} {L n k l:Nat} {te ta tb tx td:TE} {e ea eb ex ed ma:EM} {t:TA} {m:AM}
end
end L3

namespace Mi
open PySem
noncomputable section
noncomputable def dedI (ns:List Int):List Int:=ns.foldl (fun σ v=>if σ.any (· == v) then σ else σ ++ [v]) []
theorem ded_len (ns:List Int):∀ σ:List Int,(ns.foldl (fun σ v=>if σ.any (· == v) then σ else σ ++ [v]) σ).length≤σ.length + ns.length:=by
  induction ns with
  | nil=>intro σ; simp
  | cons n r ih =>
    intro σ
    rw [List.foldl_cons]
    by_cases h:σ.any (· == n) = true
    · rw [if_pos h]
      have:=ih σ
      simp only [List.length_cons]
      omega
    · rw [if_neg h]
      have:=ih (σ ++ [n])
      rw [List.length_append,List.length_singleton] at this
      simp only [List.length_cons]
      omega
end
end Mi

namespace L2
open PySem PySem.Spec PyProof.Rows
section
variable {X:Cx} {pins:List (Addr × Obj)} {σ:List (Option V)} {H:Hp} {s:Shared}
theorem zB6 (ns:List Int):(List.range ns.length).map (fun i=>ns.getD i 0) = ns:=by
  refine List.ext_getElem (by simp) fun i h1 h2=>?_
  simp [h2]
end
section
variable {X:Cx}
end
end L2
namespace L3
open PySem PySem.Spec
open L2 hiding Rep RepL
open Mi (Dt Xn R okR zA3 optR zA0 zAA zAG zAB zAE Rh Sl Ro EM TM AM FM IM SM OM Tg Out zB3 zB0 zBB full frz frz1 frzAt)
section
variable [Kc] {mg:Str→Option Value} {E:XK} {L n k l:Nat} {te ta tb:TE} {e ea eb ma:EM} {t:TA} {m:AM}
theorem zN3 {G:Hp}:∀ {ds:List Dt} {ns:List Int} {xs:List V},Mi.intsD ds = some ns→RepL G ds xs→xs = ns.map V.int
  | [],ns,xs,h,r=>by cases h; exact r
  | .int i :: ds,ns,xs,h,r=>by
    obtain ⟨x,ys,rfl,h1,h2⟩:=r
    cases e:Mi.intsD ds with
    | none=>rw [Mi.intsD,e] at h; cases h
    | some ms =>
      rw [Mi.intsD,e] at h
      cases h
      rw [zN3 e h2]
      cases h1
      rfl
  | .non :: _,_,_,h,_=>by cases h
  | .bl _ :: _,_,_,h,_=>by cases h
  | .str _ :: _,_,_,h,_=>by cases h
  | .lst _ :: _,_,_,h,_=>by cases h
  | .tup _ :: _,_,_,h,_=>by cases h
  | .scr _ :: _,_,_,h,_=>by cases h
  | .exc _ _ _ :: _,_,_,h,_=>by cases h
  | .ins _ _ :: _,_,_,h,_=>by cases h
  | .dct _ :: _,_,_,h,_=>by cases h
end
end L3

namespace Mi
open PySem
noncomputable section
end
end Mi

namespace L2
open PySem PySem.Spec PyProof.Rows
section
variable {X:Cx} {e m1:Expr} {te ts:TE} {pos p2:Pos}
end
end L2
namespace L3
open PySem PySem.Spec
open L2 hiding Rep RepL
open Mi (Dt Xn R okR zA3 optR zA0 zAA zAG zAB zAE Rh Sl Ro EM TM AM FM IM SM OM Tg Out zB3 zB0 zBB full frz frz1 frzAt)
section
variable [Kc] {mg:Str→Option Value} {E:XK} {L n k l:Nat}
end
end L3

namespace Mi
open PySem
noncomputable section
end
end Mi

namespace L2
open PySem PySem.Spec PyProof.Rows
section
variable {X:Cx}
end
end L2
namespace L3
open PySem PySem.Spec PyProof.Rows
open L2 hiding Rep RepL
open Mi (Dt R Rh EM TM SM AM IM Xn Sl Ro Out okR zA3 optR full frz frzAt)
section
variable [Kc] {mg:Str→Option Value} {E:XK} {n L:Nat} {te ta tb:TE} {e:EM} {m m':SM}
end
end L3

namespace Mi
open PySem
noncomputable section
end
end Mi

namespace L2
open PySem PySem.Spec PyProof.Rows
section
variable {X:Cx} {tg:Expr}
end
section
variable {prog:Program} {w:World} {A:Around} {E:Value→Shared→Prop} {s:Shared}
end
section
variable {X:Cx}
end
end L2
namespace L3
open PySem PySem.Spec
open PyProof.Rows (risingS sortedS ltCps_eq)
open L2 hiding Rep RepL
open Mi (Dt Xn R okR zA3 optR zA0 zAA zAG zAB zAE Rh Sl Ro EM TM AM FM IM SM OM Tg Out zB3 zB0 zBB full frz frz1 frzAt)
section
variable [Kc] {mg:Str→Option Value} {E:XK} {L n k l:Nat} {t:TA} {m:AM}
end
end L3

namespace Mi
open PySem
noncomputable section
end
end Mi

namespace L3
open PySem PySem.Spec
open L2 hiding Rep RepL
open Mi (Dt Xn R okR zA3 optR zA0 zAA zAG zAB zAE Rh Sl Ro EM TM AM FM IM SM OM Tg Out zB3 zB0 zBB full frz frz1 frzAt)
section
variable [Kc] {mg:Str→Option Value} {E:XK} {L n k l:Nat} {te:TE} {e:EM}
section
variable {G0 H0 S0:Hp} {σ:St} {ρ:Ro} {G H:Hp} {As:Nat→Addr→Prop}
end
section
variable {G0 H0 S0:Hp} {σ:St} {ρ:Ro} {G H:Hp} {As:Nat→Addr→Prop}
end
end
end L3

namespace Mi
open PySem
noncomputable section
end
end Mi

namespace L2
open PySem PySem.Spec PyProof.Rows
section
variable {X:Cx}
end
end L2
namespace L3
open PySem PySem.Spec
open L2 hiding Rep RepL
open Mi (Dt Xn R okR zA3 optR zA0 zAA zAG zAB zAE Rh Sl Ro EM TM AM FM IM SM OM Tg Out zB3 zB0 zBB full frz frz1 frzAt)
section
variable [Kc] {mg:Str→Option Value} {E:XK} {L n k l:Nat} {te ta tb tx td:TE} {e ea eb ex ed ma:EM} {t:TA} {m:AM}
end
end L3

namespace Mi
open PySem
noncomputable section
end
end Mi

namespace L2
open PySem PySem.Spec PyProof.Rows
section
variable {prog:Program} {w:World} {A:Around} {E:Value→Shared→Prop} {s:Shared}
end
section
variable {X:Cx}
theorem zIQ:∀ {ns:List Int} {us:List Value},IntsAre us ns→Vals (ns.map V.int) us
  | _,_,.nil=>.nil
  | _,_,.cons n t r=>.cons ⟨t,rfl⟩ (zIQ r)
end
end L2
namespace L3
open PySem PySem.Spec
open L2 hiding Rep RepL
open Mi (Dt Xn R okR zA3 optR zA0 zAA zAG zAB zAE Rh Sl Ro EM TM AM FM IM SM OM Tg Out zB3 zB0 zBB full frz frz1 frzAt)
section
variable [Kc] {mg:Str→Option Value} {E:XK} {L n k l:Nat}
end
end L3

namespace Mi
open PySem
noncomputable section
end
end Mi

namespace L2
open PySem PySem.Spec PyProof.Rows
section
variable {prog:Program} {w:World} {A:Around} {E:Value→Shared→Prop} {s:Shared}
end
section
variable {X:Cx} {o:Expr} {td:TE} {p apos cpos pos:Pos}
end
end L2
namespace L3
open PySem PySem.Spec
open PyProof.Rows (risingS sortedS ltCps_eq)
open L2 hiding Rep RepL
open Mi (Dt Xn R okR zA3 optR zA0 zAA zAG zAB zAE Rh Sl Ro EM TM AM FM IM SM OM Tg Out zB3 zB0 zBB full frz frz1 frzAt)
section
variable [Kc] {mg:Str→Option Value} {E:XK} {L n k l:Nat} {te ta td:TE} {e ea ed:EM}
end
end L3

namespace Mi
open PySem
noncomputable section
def soiL (ns:List Int):List Int:=sortI (dedI ns)
def soiD:List Dt→Option Dt
  | [.lst ds]=>match intsD ds with
    | some ns=>@ite _ (ns.length < 64) (Classical.propDecidable _) (some (.lst ((soiL ns).map .int))) none
    | none=>none
  | _=>none
theorem zS9 (ns:List Int):∀ (σ:List Int) (x:Int),x∈ns.foldl (fun σ v=>if σ.any (· == v) then σ else σ ++ [v]) σ ↔ x∈σ∨x∈ns:=by
  induction ns with
  | nil=>intro σ x; simp
  | cons n r ih =>
    intro σ x
    rw [List.foldl_cons,ih]
    by_cases h:σ.any (· == n) = true
    · rw [if_pos h]
      have hn:n∈σ:=by
        rw [List.any_eq_true] at h
        obtain ⟨y,hy,e⟩:=h
        have:y = n:=by simpa using e
        rw [← this]; exact hy
      simp only [List.mem_cons]
      constructor
      · rintro (h | h)
        · exact .inl h
        · exact .inr (.inr h)
      · rintro (h | rfl | h)
        · exact .inl h
        · exact .inl hn
        · exact .inr h
    · rw [if_neg h]
      simp only [List.mem_append,List.mem_cons,List.not_mem_nil,or_false]
      constructor
      · rintro ((h | h) | h)
        · exact .inl h
        · exact .inr (.inl h)
        · exact .inr (.inr h)
      · rintro (h | h | h)
        · exact .inl (.inl h)
        · exact .inl (.inr h)
        · exact .inr h
theorem zV2 (ns:List Int):∀ (σ:List Int),σ.Nodup→(ns.foldl (fun σ v=>if σ.any (· == v) then σ else σ ++ [v]) σ).Nodup:=by
  induction ns with
  | nil=>intro σ h; exact h
  | cons n r ih =>
    intro σ hn
    rw [List.foldl_cons]
    by_cases h:σ.any (· == n) = true
    · rw [if_pos h]; exact ih σ hn
    · rw [if_neg h]
      refine ih _ ?_
      rw [List.nodup_append]
      refine ⟨hn,by simp,fun a ha b hb e=>h ?_⟩
      rw [List.mem_singleton] at hb
      rw [List.any_eq_true]
      exact ⟨a,ha,by rw [e,hb]; simp⟩
theorem dedI_mem (ns:List Int) (x:Int):x∈dedI ns ↔ x∈ns:=by
  unfold dedI; rw [zS9]; simp
theorem dedI_nd (ns:List Int):(dedI ns).Nodup:=zV2 ns [] List.nodup_nil
theorem soiL_perm (ns:List Int):(soiL ns).Perm (dedI ns):=List.mergeSort_perm _ _
theorem zR1 (ns:List Int) (x:Int):x∈soiL ns ↔ x∈ns:=by rw [(soiL_perm ns).mem_iff,dedI_mem]
theorem zTO (ns:List Int):(soiL ns).Nodup:=(soiL_perm ns).nodup_iff.mpr (dedI_nd ns)
theorem soiL_asc (ns:List Int):(soiL ns).Pairwise (·≤·):=by
  have h:=List.pairwise_mergeSort (le:=fun a b:Int=>decide (a≤b)) (fun a b c h1 h2=>by simp at *; omega) (fun a b=>by simp; omega) (dedI ns)
  exact h.imp fun h=>by simpa using h
theorem zTP (ns:List Int):(soiL ns).Pairwise (· < ·):=by
  have h1:=soiL_asc ns
  have h2:=zTO ns
  exact (h1.and h2).imp fun h=>by
    have:=h.1; have:=h.2; omega
end
end Mi

namespace L2
open PySem
def UpT (t:SetTable):Prop:=t.place.toList.Pairwise (· < ·)∧t.dummies = #[]
theorem zQP {xs:Array Nat} (h:xs.toList.Pairwise (· < ·)) {i k:Nat} (hi:i < k) (hk:k < xs.size):xs.getD i 0 < xs.getD k 0:=by
  have hi':i < xs.size:=by omega
  have:=List.pairwise_iff_getElem.mp h i k (by simpa using hi') (by simpa using hk) hi
  simp only [Array.getElem_toList] at this
  simpa [Array.getD,hi',hk] using this
theorem zSI (xs:Array Nat) (j:Nat) (h:xs.toList.Pairwise (· < ·)):∀ fuel lo hi,hi - lo≤fuel→lo≤hi→hi≤xs.size→(∀ i,i < lo→xs.getD i 0 < j)→(∀ i,hi≤i→i < xs.size→j≤xs.getD i 0) →
    lo≤SetTable.below.go xs j fuel lo hi∧SetTable.below.go xs j fuel lo hi≤hi∧(∀ i,i < SetTable.below.go xs j fuel lo hi→xs.getD i 0 < j)∧(∀ i,SetTable.below.go xs j fuel lo hi≤i→i < xs.size→j≤xs.getD i 0):=by
  intro fuel
  induction fuel with
  | zero =>
    intro lo hi hf hl hh h1 h2
    have:lo = hi:=by omega
    subst this
    unfold SetTable.below.go
    exact ⟨Nat.le_refl _,Nat.le_refl _,h1,h2⟩
  | succ fuel ih =>
    intro lo hi hf hl hh h1 h2
    unfold SetTable.below.go
    by_cases hlt:lo < hi
    · rw [if_pos hlt]
      dsimp only
      have hm:(lo + hi) / 2 < hi:=by omega
      have hm2:lo≤(lo + hi) / 2:=by omega
      have hms:(lo + hi) / 2 < xs.size:=by omega
      have e:xs.getD ((lo + hi) / 2) j = xs.getD ((lo + hi) / 2) 0:=by simp [Array.getD,hms]
      rw [e]
      by_cases hc:xs.getD ((lo + hi) / 2) 0 < j
      · rw [if_pos hc]
        obtain ⟨a,b,c,d⟩:=ih ((lo + hi) / 2 + 1) hi (by omega) (by omega) hh (fun i hi'=>by
          rcases Nat.lt_or_ge i ((lo + hi) / 2) with z | z
          · exact Nat.lt_trans (zQP h z hms) hc
          · have:i = (lo + hi) / 2:=by omega
            rw [this]; exact hc) h2
        exact ⟨by omega,b,c,d⟩
      · rw [if_neg hc]
        obtain ⟨a,b,c,d⟩:=ih lo ((lo + hi) / 2) (by omega) (by omega) (by omega) h1 (fun i hi' his=>by
          rcases Nat.lt_or_ge ((lo + hi) / 2) i with z | z
          · have:=zQP h z his; omega
          · have:i = (lo + hi) / 2:=by omega
            rw [this]; omega)
        exact ⟨a,by omega,c,d⟩
    · rw [if_neg hlt]
      have:lo = hi:=by omega
      subst this
      exact ⟨Nat.le_refl _,Nat.le_refl _,h1,h2⟩
theorem zGE (xs:Array Nat) (j:Nat) (h:xs.toList.Pairwise (· < ·)):SetTable.below xs j≤xs.size∧(∀ i,i < SetTable.below xs j→xs.getD i 0 < j)∧(∀ i,SetTable.below xs j≤i→i < xs.size→j≤xs.getD i 0):=by
  unfold SetTable.below
  obtain ⟨_,b,c,d⟩:=zSI xs j h xs.size 0 xs.size (by omega) (by omega) (Nat.le_refl _) (fun i hi=>by omega) (fun i h1 h2=>by omega)
  exact ⟨b,c,d⟩
theorem zOC (xs:Array Nat) (h:xs.toList.Pairwise (· < ·)):SetTable.below xs 0 = 0:=by
  obtain ⟨_,c,_⟩:=zGE xs 0 h
  rcases Nat.eq_zero_or_pos (SetTable.below xs 0) with z | z
  · exact z
  · have:=c 0 z; omega
theorem zOD (xs:Array Nat) (h:xs.toList.Pairwise (· < ·)) {i:Nat} (hi:i < xs.size):SetTable.below xs (xs.getD i 0 + 1) = i + 1:=by
  obtain ⟨b,c,d⟩:=zGE xs (xs.getD i 0 + 1) h
  rcases Nat.lt_trichotomy (SetTable.below xs (xs.getD i 0 + 1)) (i + 1) with z | z | z
  · have:=d i (by omega) hi; omega
  · exact z
  · have h1:=c (i + 1) z
    have h2:=zQP h (show i < i + 1 by omega) (show i + 1 < xs.size by omega)
    omega
theorem zM5 {α:Type} (xs:Array α) (p:Nat) (x:α) (hp:p≤xs.size):(SetTable.insertAt xs p x).toList = xs.toList.take p ++ x :: xs.toList.drop p:=by
  unfold SetTable.insertAt
  simp [Array.toList_append,Array.toList_push,Array.toList_extract]
  exact List.take_of_length_le (by simp)
theorem zOL {xs:Array Nat} {j:Nat} (h:xs.toList.Pairwise (· < ·)) (hn:(xs[SetTable.below xs j]? == some j) = false):(SetTable.insertAt xs (SetTable.below xs j) j).toList.Pairwise (· < ·):=by
  obtain ⟨b,c,d⟩:=zGE xs j h
  rw [zM5 xs _ j b,List.pairwise_append,List.pairwise_cons]
  have e:=List.take_append_drop (SetTable.below xs j) xs.toList
  have h':=h
  rw [← e,List.pairwise_append] at h'
  have gt:∀ y∈xs.toList.drop (SetTable.below xs j),j < y:=fun y hy=>by
    obtain ⟨i,hi,rfl⟩:=List.getElem_of_mem hy
    have his:SetTable.below xs j + i < xs.size:=by simp at hi; omega
    have h1:=d (SetTable.below xs j + i) (by omega) his
    have e1:xs.getD (SetTable.below xs j + i) 0 = (xs.toList.drop (SetTable.below xs j))[i]:=by
      simp [Array.getD,his]
    rw [← e1]
    rcases Nat.lt_or_eq_of_le h1 with z | z
    · exact z
    · exfalso
      by_cases hi0:i = 0
      · subst hi0
        have hs:SetTable.below xs j < xs.size:=by omega
        have e2:xs[SetTable.below xs j]? = some j:=by
          rw [Array.getElem?_eq_getElem hs]
          simp only [Nat.add_zero] at z
          simp [Array.getD,hs] at z
          exact congrArg some z.symm
        rw [e2] at hn
        simp at hn
      · have h2:=zQP h (show SetTable.below xs j < SetTable.below xs j + i by omega) his
        have h3:=d (SetTable.below xs j) (Nat.le_refl _) (by omega)
        omega
  refine ⟨h'.1,⟨gt,h'.2.1⟩,fun a ha y hy=>?_⟩
  have ha':a < j:=by
    obtain ⟨i,hi,rfl⟩:=List.getElem_of_mem ha
    have hib:i < SetTable.below xs j:=by simp at hi; omega
    have h1:=c i hib
    have his:i < xs.size:=by omega
    simpa [Array.getD,his] using h1
  rcases List.mem_cons.mp hy with z | z
  · rw [z]; exact ha'
  · exact Nat.lt_trans ha' (gt y z)
theorem zKW (j:Nat):SetTable.has #[] j = false:=by simp [SetTable.has]
theorem zRE {t:SetTable} (hd:t.dummies = #[]) {hashAt:Nat→Int} {h:Int}:∀ (fuel:Nat) (p:SetTable.Probe) {m:SetTable.Met},p.dummy = none→SetTable.probe.go t hashAt h fuel p = some m→∀ j dm,m = .empty j dm→dm = none∧(t.place[SetTable.below t.place j]? == some j) = false:=by
  intro fuel
  induction fuel with
  | zero=>intro p m hp e; simp [SetTable.probe.go] at e
  | succ fuel ih =>
    intro p m hp e j dm hm
    unfold SetTable.probe.go at e
    unfold SetTable.slot at e
    dsimp only at e
    by_cases hl:(t.place[SetTable.below t.place p.j]? == some p.j) = true
    · rw [if_pos hl] at e
      dsimp only at e
      split at e
      · cases e; cases hm
      · refine ih (t.advance p) ?_ e j dm hm
        unfold SetTable.advance
        split
        · exact hp
        · exact hp
    · rw [if_neg hl] at e
      rw [hd,zKW] at e
      simp only [Bool.false_eq_true,if_false] at e
      cases e
      cases hm
      exact ⟨hp,by simpa using hl⟩
theorem zM7 {t:SetTable} (hd:t.dummies = #[]) {h:Int} {j:Nat} {b:Bool} (e:t.freeSlot h = some (j,b)):(t.place[SetTable.below t.place j]? == some j) = false:=by
  unfold SetTable.freeSlot at e
  split at e
  · rename_i i dm hm
    have:=zRE hd _ _ rfl hm i dm rfl
    obtain ⟨rfl,h2⟩:=this
    cases e
    exact h2
  · cases e
theorem zEK (t:SetTable) (n:Nat):UpT (t.standIn n):=by
  refine ⟨?_,rfl⟩
  show (Array.range n).toList.Pairwise _
  rw [Array.toList_range]
  exact List.pairwise_lt_range
theorem zPP {t:SetTable} (hu:UpT t) (es:Array (Int × Value)) (h:Int) (x:Value):UpT (layNew t es h x).2.1:=by
  unfold layNew
  split
  · rename_i sl wd e
    dsimp only
    unfold SetTable.orStandIn
    split
    · refine ⟨?_,?_⟩
      · exact zOL hu.1 (zM7 hu.2 e)
      · show (if SetTable.has t.dummies sl = true then _ else t.dummies) = #[]
        rw [hu.2,zKW]
        rfl
    · exact zEK _ _
  · exact zEK _ _
theorem zJL (g:Nat→Option Nat):∀ l:List Nat,(l.filterMap fun j=>(g j).map fun k=>(j,k)).map (·.1) = l.filter fun j=>(g j).isSome
  | []=>rfl
  | j :: r=>by
    cases e:g j with
    | none=>simp [e,zJL g r]
    | some k=>simp [e,zJL g r]
theorem zLR (t:SetTable) (es:Array (Int × Value)) (wanted:Nat):UpT (relayAll t es wanted).2.1:=by
  unfold relayAll
  split
  · rename_i t' order e
    dsimp only
    split
    · dsimp only
      unfold SetTable.relaid SetTable.laid at e
      cases e2:SetTable.layClean (SetTable.sizeAbove wanted - 1) (es.map (·.1)) with
      | none=>rw [e2] at e; cases e
      | some ow =>
        rw [e2] at e
        have e':=congrArg Prod.fst (Option.some.inj e)
        dsimp only at e'
        rw [← e']
        refine ⟨?_,rfl⟩
        show (((List.range _).filterMap fun j=>((ow.getD j none).map fun k=>(j,k))).map (·.1)).toArray.toList.Pairwise _
        rw [List.toList_toArray,zJL]
        exact List.Pairwise.filter _ List.pairwise_lt_range
    · exact zEK _ _
  · exact zEK _ _
end L2

namespace L2
open PySem PySem.Spec PyProof.Rows
noncomputable def zFN:Value→Int
  | .int i _=>i
  | _=>0
section
variable {prog:Program} {w:World} {A:Around} {E:Value→Shared→Prop} {s:Shared}
def SetN (prog:Program) (w:World) (h:Heap) (a:Addr) (led:Bool) (ks:List Int):Prop :=
  ∃ o es ep t,h.get? a = some o∧o.ExactSet∧o.data = .set es ep t∧ElemsOf (intKind prog w) es.toList∧es.toList.map (fun e=>zFN e.2) = ks∧ks.Nodup∧es.size < scanBound∧t.fits es.size = true∧t.led = led∧UpT t
theorem SetN.at {h h':Heap} {a:Addr} {led:Bool} {ks:List Int} (hS:SetN prog w h a led ks) (hk:∀ o,h.get? a = some o→h'.get? a = some o):SetN prog w h' a led ks:=by
  obtain ⟨o,es,ep,t,ho,r⟩:=hS
  exact ⟨o,es,ep,t,hk o ho,r⟩
theorem zGL {k:Int} {v:Value} (h:(intKind prog w).is k v = true):∃ t,v = .int k t:=Value.isInt_shape h
theorem zJR {es:List (Int × Value)} (h:ElemsOf (intKind prog w) es) {e:Int × Value} (he:e∈es):∃ k t,e.2 = .int k t:=by
  obtain ⟨⟨k,hk,_⟩,_⟩:=h e he
  obtain ⟨t,e1⟩:=zGL hk
  exact ⟨k,t,e1⟩
theorem zPV {es:List (Int × Value)} (h:ElemsOf (intKind prog w) es) {e:Int × Value} (he:e∈es) (k:Int):(intKind prog w).is k e.2 = true ↔ zFN e.2 = k:=by
  obtain ⟨k',t,e1⟩:=zJR h he
  rw [e1]
  constructor
  · intro z
    obtain ⟨t',e2⟩:=zGL z
    injection e2 with e3
  · rintro rfl
    exact intKind_is prog w _ t
theorem zR5 {a:Addr} {led:Bool} {ks:List Int} {k:Int} {tk:Tok} {Q:Bool→Shared→Prop} (hS:SetN prog w s.heap a led ks) (hroom:ks.length + 1 < scanBound)
    (h:∀ h' ks' b,Heap.SameBut a s.heap h'→SetN prog w h' a led ks'→(k∈ks→ks' = ks)→(k ∉ ks→ks'.Perm (ks ++ [k]))→Q b { s with heap:=h' }) :
    wpAny (model prog w) A (setAddHashed a (.int k tk) ((intKind prog w).hash k)) Q E s:=by
  obtain ⟨o,es,ep,t,ho,hex,hd,hel,hks,hnd,hb,hf,hled,hpl⟩:=hS
  have hn:es.size = ks.length:=by rw [← hks,List.length_map,Array.length_toList]
  have hb1:es.size + 1 < scanBound:=by omega
  have hkey:(intKind prog w).is k (.int k tk) = true:=intKind_is prog w k tk
  have hsc:(Value.int k tk).scannable = true:=rfl
  unfold setAddHashed setAddHashedIn
  refine wpAny_holding (wpAny_bind (wpAny_setState_of ho hd hf ?_))
  dsimp only
  rw [byScan_of hsc hb hel]
  simp only [↓reduceIte]
  unfold setAddByScan
  refine wpAny_bind ?_
  refine wpAny_bind (wpAny_rule ?_)
  refine wpAny_bind (wpAny_setScan_of hkey ho hd hf hel ?_)
  cases hr:List.findIdx? (fun e=>(intKind prog w).is k e.2) es.toList with
  | some j =>
    dsimp only
    obtain ⟨hj,hpj,_⟩:=List.findIdx?_eq_some_iff_getElem.mp hr
    have hin:k∈ks:=by
      rw [← hks]
      exact List.mem_map.mpr ⟨es.toList[j],List.getElem_mem hj,(zPV hel (List.getElem_mem hj) k).mp hpj⟩
    refine wpAny_pure (wpAny_pure ?_)
    have e:s = { s with heap:=s.heap }:=by cases s; rfl
    rw [e]
    exact h s.heap ks false (Heap.SameBut.refl a s.heap) ⟨o,es,ep,t,ho,hex,hd,hel,hks,hnd,hb,hf,hled,hpl⟩ (fun _=>rfl) (fun z=>absurd hin z)
  | none =>
    dsimp only
    have hnin:k ∉ ks:=by
      intro z
      rw [← hks] at z
      obtain ⟨e,he,e1⟩:=List.mem_map.mp z
      have:=List.findIdx?_eq_none_iff.mp hr e he
      rw [(zPV hel he k).mpr e1] at this
      exact Bool.noConfusion this
    have hgw:∀ (b:Bool) {s₁:Shared} {Q':Unit→Shared→Prop},Q' () s₁→wpAny (model prog w) A (match b with | true=>rule "set.scan.the-table-gave-way" | false=>pure ()) Q' E s₁ :=
      fun b s₁ Q' hq=>by cases b <;> first | exact wpAny_pure hq | exact wpAny_rule hq
    have hperm:=layNew_perm t es ((intKind prog w).hash k) (.int k tk)
    have hfits:=layNew_fits t es ((intKind prog w).hash k) (.int k tk)
    have hled1:=zO4 t es ((intKind prog w).hash k) (.int k tk)
    have hoff1:=zPP hpl es ((intKind prog w).hash k) (.int k tk)
    generalize hL:layNew t es ((intKind prog w).hash k) (.int k tk) = L at hperm hfits hled1 hoff1 ⊢
    obtain ⟨es1,t1,wasDummy,gave⟩:=L
    dsimp only at hperm hfits hled1 hoff1 ⊢
    rw [Array.toList_push] at hperm
    have hel1:ElemsOf (intKind prog w) es1.toList:=(hel.push hkey hsc).perm hperm
    have hks1:(es1.toList.map fun e=>zFN e.2).Perm (ks ++ [k]):=by
      have:=hperm.map fun e:Int × Value=>zFN e.2
      rw [List.map_append,hks] at this
      exact this
    have hnd1:(es1.toList.map fun e=>zFN e.2).Nodup:=hks1.nodup_iff.mpr (by
      rw [List.nodup_append]
      exact ⟨hnd,by simp,fun x hx y hy e=>hnin (by rw [List.mem_singleton] at hy; rw [← hy,← e]; exact hx)⟩)
    have hb1':es1.size < scanBound:=by rw [← Array.length_toList,hperm.length_eq,List.length_append,Array.length_toList]; simpa using hb1
    refine wpAny_bind (hgw _ ?_)
    have tail:∀ t2:SetTable,t2.fits es1.size = true→t2.led = led→UpT t2→wpAny (model prog w) A (do
        storeSet a es1 t2
        if (!wasDummy && t2.tooFull) = true then do
            (match (relayAll t2 es1 (SetTable.grown es1.size)).2.2 with | true=>rule "set.scan.the-table-gave-way" | false=>pure ())
            storeSet a (relayAll t2 es1 (SetTable.grown es1.size)).1 (relayAll t2 es1 (SetTable.grown es1.size)).2.1
            pure (some true)
          else pure (some true)) (fun r s'=>wpAny (model prog w) A (match r with | some added=>pure added | none=>setAddHashedIn a (.int k tk) ((intKind prog w).hash k) 99999) Q E s') E s:=by
      intro t2 f2 l2 p2
      refine wpAny_bind (wpAny_storeSet_of ho hd ?_ (fits_of_scanBound hb1'))
      have hg:(s.heap.update a (Obj.putSet es1 t2)).get? a = some { o with data:=.set es1 (ep + 1) t2 }:=by
        have:=Heap.get?_update_self (Obj.putSet es1 t2) ho (by rw [putSet_of es1 t2 hd]; rfl)
        rw [putSet_of es1 t2 hd] at this
        exact this
      have hsb1:=Heap.SameBut.update s.heap a (Obj.putSet es1 t2)
      split
      · have hp:=relayAll_perm t2 es1 (SetTable.grown es1.size)
        have hfr:=relayAll_fits t2 es1 (SetTable.grown es1.size)
        have hkp:=zIB t2 es1 (SetTable.grown es1.size)
        have hup:=zLR t2 es1 (SetTable.grown es1.size)
        generalize hRl:relayAll t2 es1 (SetTable.grown es1.size) = Rl at hp hfr hkp hup ⊢
        obtain ⟨es2,t3,gave2⟩:=Rl
        dsimp only at hp hfr hkp hup ⊢
        have hsz:es2.size = es1.size:=by rw [← Array.length_toList,hp.length_eq,Array.length_toList]
        refine wpAny_bind (hgw _ ?_)
        refine wpAny_bind (wpAny_storeSet_of hg rfl ?_ (fits_of_scanBound (by rw [hsz]; exact hb1')))
        have hg2:=Heap.get?_update_self (Obj.putSet es2 t3) hg (by rw [putSet_of (o:={ o with data:=.set es1 (ep + 1) t2 }) es2 t3 rfl]; rfl)
        rw [putSet_of (o:={ o with data:=.set es1 (ep + 1) t2 }) es2 t3 rfl] at hg2
        have hks2:=hp.map fun e:Int × Value=>zFN e.2
        refine wpAny_pure (wpAny_pure (h _ (es2.toList.map fun e=>zFN e.2) _ (hsb1.trans (Heap.SameBut.update _ a _)) ⟨_,es2,ep + 2,t3,hg2,hex,rfl,hel1.perm hp,rfl,hks2.nodup_iff.mpr hnd1,by rw [hsz]; exact hb1',hfr,hkp.1.trans l2,hup⟩ (fun z=>absurd z hnin) fun _=>hks2.trans hks1))
      · exact wpAny_pure (wpAny_pure (h _ (es1.toList.map fun e=>zFN e.2) _ hsb1 ⟨_,es1,ep + 1,t2,hg,hex,rfl,hel1,rfl,hnd1,hb1',f2,l2,p2⟩ (fun z=>absurd z hnin) fun _=>hks1))
    split
    · refine wpAny_bind ?_
      show wpAny _ _ (pure true) _ _ _
      refine wpAny_pure ?_
      simp only [↓reduceIte]
      exact tail t1 hfits (hled1.trans hled) hoff1
    · refine wpAny_bind (wpAny_pure ?_)
      simp only [↓reduceIte]
      exact tail t1 hfits (hled1.trans hled) hoff1
end
section
variable {prog:Program} {w:World} {A:Around} {R:Result→Shared→Prop} {I:Addr} {fp wr:List Addr} {G:Array GenState→Array GenState→Prop} {n:Nat} {St:Nat→Shared→Prop} {led:Bool} {items:Array Value} {ns:List Int}
theorem loopN (W:WalksS prog w A.in1 I fp wr G items.size (fun i v=>items[i]? = some v) St) (S:Addr) (hSf:S ∉ fp) (hb:items.size + 1 < scanBound) (hval:∀ (i:Nat) (v:Value),items[i]? = some v→∃ t,v = .int (ns.getD i 0) t) :
    ∀ (k i:Nat) (s:Shared) (ks:List Int),items.size - i = k→i≤items.size→St i s→SetN prog w s.heap S led ks→ks.length≤i→(∀ c,c∈ks ↔ ∃ j,j < i∧c = ns.getD j 0) →
      (∀ s' ks',Moved (S :: wr) G s s'→SetN prog w s'.heap S led ks'→(∀ c,c∈ks' ↔ ∃ j,j < items.size∧c = ns.getD j 0)→R (.ok (.ret .none)) s') →
      codeAny (model prog w) A (.builtin "set.update.loop" ⟨[.ref S,.ref I],[]⟩) R s:=by
  have hSw:S ∉ wr:=fun h=>hSf (W.sub _ h)
  have hsub:∀ b∈wr,b∈S :: wr:=fun b hb=>List.mem_cons_of_mem _ hb
  intro k
  induction k with
  | zero =>
    intro i s ks hk hi hst hS hkl hks hR
    have hin:i = items.size:=by omega
    subst hin
    refine codeAny_builtin PyProof.Rows.F.entry_set_update_loop ?_
    rw [Around.under_plainId PyProof.Rows.F.plain_set_update_loop _]
    show wpAny _ A.in1 (pyNext (.ref I) >>= _) _ _ s
    refine wpAny_bind (W.done s _ _ hst fun s' hm=>?_)
    show wpAny _ A.in1 (ret Value.none) _ _ s'
    exact wpAny_pure (hR s' ks (hm.mono hsub) (hS.at fun o ho=>hm.heap S o hSw ho) hks)
  | succ k ih =>
    intro i s ks hk hi hst hS hkl hks hR
    have hlt:i < items.size:=by omega
    refine codeAny_builtin PyProof.Rows.F.entry_set_update_loop ?_
    rw [Around.under_plainId PyProof.Rows.F.plain_set_update_loop _]
    show wpAny _ A.in1 (pyNext (.ref I) >>= _) _ _ s
    refine wpAny_bind (W.item i s _ _ hlt hst fun v s' hP hst' hm=>?_)
    obtain ⟨u,rfl⟩:=hval i v hP
    have hS':SetN prog w s'.heap S led ks:=hS.at fun o ho=>hm.heap S o hSw ho
    show wpAny _ A.in1 (holding [Value.int (ns.getD i 0) u] (setAdd S (.int (ns.getD i 0) u)) >>= _) _ _ s'
    refine wpAny_bind (wpAny_holding ?_)
    unfold setAdd
    refine wpAny_holding ?_
    refine wpAny_bind ((intKind prog w).pyHash (k:=ns.getD i 0) (intKind_is prog w _ _) ?_)
    refine zR5 (s:={ s' with toks:=s'.toks + 1 }) hS' (by omega) fun h' ks' b hsb hS2 hin hout=>?_
    have hmem:∀ x,x∈ks' ↔ ∃ j,j < i + 1∧x = ns.getD j 0:=by
      intro x
      have step:x∈ks' ↔ x∈ks∨x = ns.getD i 0:=by
        by_cases h:ns.getD i 0∈ks
        · rw [hin h]
          exact ⟨.inl,fun z=>z.elim id fun e=>e ▸ h⟩
        · rw [(hout h).mem_iff,List.mem_append,List.mem_singleton]
      rw [step,hks]
      constructor
      · rintro (⟨j,hj,e2⟩ | rfl)
        · exact ⟨j,by omega,e2⟩
        · exact ⟨i,by omega,rfl⟩
      · rintro ⟨j,hj,e2⟩
        by_cases hji:j = i
        · subst hji
          exact .inr e2
        · exact .inl ⟨j,by omega,e2⟩
    have hlen:ks'.length≤i + 1:=by
      by_cases h:ns.getD i 0∈ks
      · rw [hin h]; omega
      · rw [(hout h).length_eq,List.length_append]; simp; omega
    refine wpAny_pure ⟨plainId_quiet PyProof.Rows.F.plain_set_update_loop _,ih (i + 1) _ ks' (by omega) hlt (W.frame _ s' _ _ hst' (Nat.le_succ _) fun b hb o e=>?_) hS2 hlen hmem fun s'' ks'' hm'' hS'' hk''=>?_⟩
    · rw [hsb.2 b (fun h:b = S=>hSf (by rw [← h]; exact hb))]; exact e
    · refine hR s'' ks'' (Moved.trans W.gtrans ((hm.mono hsub).then_heap (Nat.le_succ _) fun b o hb e=>?_) hm'') hS'' hk''
      rw [hsb.2 b (fun h:b = S=>hb (by rw [h]; exact List.mem_cons_self))]; exact e
end
end L2
namespace PySem
open PyProof.Rows
theorem zQQ (led:Bool):L2.UpT (.fresh 0 0 led):=⟨List.Pairwise.nil,rfl⟩
set_option maxHeartbeats 3200000 in
theorem zIA {prog:Program} {w:World} {A:Around} {E:Value→Shared→Prop} {s:Shared} {l:Addr} {items:Array Value} {ns:List Int} {Q:Value→Shared→Prop}
    (hh:A.handled = none) (hl:s.heap.IsList l items) (hi:IntsAre items.toList ns) (hb:items.size + 1 < scanBound)
    (h:∀ (h':Heap) (tk:Nat) (ks:List Int),L2.SetN prog w h' s.heap.objs.size (!w.params.followText "set-order") ks→(∀ c,c∈ks ↔ ∃ j,j < items.size∧c = ns.getD j 0) →
      (∀ b o,b < s.heap.objs.size→s.heap.get? b = some o→h'.get? b = some o)→Q (.ref s.heap.objs.size) { s with heap:=h',toks:=tk }) :
    wpAny (model prog w) A (call (.type "set") [.ref l]) Q E s:=by
  obtain ⟨c,tl,hmro⟩:=F.called_set.mro
  have hmade:=F.called_set.made
  have hsub:=F.called_set.sub
  refine wpAny_call (codeAny_of_tree ?_)
  show wpAny _ _ (callAny (.type "set") _) _ _ _
  refine wpAny_pure ⟨Code.quiet_builtin _ (by decide +kernel),codeAny_builtin F.entry_type_call ?_⟩
  rw [Around.under_plain (weight_type_call_type "set" [.ref l] []) rfl]
  have h1:=F.called_set.notType
  have h2:=F.called_set.canCreate
  have hct:=F.typeCall_set_1 (.ref l)
  repeat (any_goals (first | assumption | wp_step))
  refine codeAny_mono (zJ7 (.ref l) (E:=E) (Q₁:=fun obj s₁=>obj = .ref s.heap.objs.size∧s₁ = { s with heap:=s.heap.push { cls:=.type "set",dict:=none,data:=.set #[] 0 (.fresh 0 0 (!w.params.followText "set-order")) } }) ⟨rfl,rfl⟩) fun r s₁ hr=>?_
  generalize (!w.params.followText "set-order") = led at hr h
  cases r with
  | error e=>exact hr
  | ok fl =>
    cases fl with
    | ret obj =>
      obtain ⟨rfl,rfl⟩:=hr
      have hS:(s.heap.push { cls:=.type "set",dict:=none,data:=.set #[] 0 (.fresh 0 0 led) }).get? s.heap.objs.size = some { cls:=.type "set",dict:=none,data:=.set #[] 0 (.fresh 0 0 led) }:=Heap.get?_push_size _ rfl
      have hT:Shared.TypeIs { s with heap:=s.heap.push { cls:=.type "set",dict:=none,data:=.set #[] 0 (.fresh 0 0 led) } } (.ref s.heap.objs.size) "set":=⟨_,hS,rfl⟩
      have hli:=F.called_set.init.lookup
      have hbi:=F.called_set.init.bind (.ref s.heap.objs.size)
      repeat (any_goals (first | assumption | wp_step))
      refine codeAny_mono (codeAny_call_builtin (R:=wants (fun r s₂=>r = .none∧∃ h' tk ks,s₂ = { s with heap:=h',toks:=tk }∧L2.SetN prog w h' s.heap.objs.size led ks∧(∀ c,c∈ks ↔ ∃ j,j < items.size∧c = ns.getD j 0) ∧
          (∀ b o,b < s.heap.objs.size→s.heap.get? b = some o→h'.get? b = some o)) E) F.called_set.init.plain F.entry_set_init (check_set_init_1 hT ?_)) fun r₂ s₂ hr₂=>?_
      · obtain ⟨ol,hol,hcl,nl,hdl⟩:=hl
        obtain ⟨ocls,odict,odata,oslots⟩:=ol
        simp only at hcl hdl
        subst hcl; subst hdl
        have hol':(s.heap.push { cls:=.type "set",dict:=none,data:=.set #[] 0 (.fresh 0 0 led) }).get? l = some { cls:=.type "list",dict:=odict,data:=.seq items nl,slots:=oslots }:=Heap.get?_push_of_some _ hol
        have hsls:=F.sub_list_set
        have hslf:=F.sub_list_frozenset
        have hne:(Value.type "list" == Value.type "dict") = false:=by decide
        have hl1:(s.heap.push { cls:=.type "set",dict:=none,data:=.set #[] 0 (.fresh 0 0 led) }).IsList l items:=⟨_,hol',rfl,nl,rfl⟩
        unfold Builtin.«set.__init__» noKeywords Builtin.Frozenset.updateFrom
        generalize hPI:pyIter = PI
        wp_walk
        subst hPI
        refine wpAny_pyIter_list hl1 ?_
        refine wpAny_bind (wpAny_runValue ?_)
        have hlS:l < s.heap.objs.size:=Heap.lt_size hol
        have hh3:A.in1.in1.in1.handled = none:=by simp [hh]
        have hneI:l≠(s.heap.push { cls:=.type "set",dict:=none,data:=.set #[] 0 (.fresh 0 0 led) }).objs.size:=by
          rw [Heap.size_push]; exact Nat.ne_of_lt (Nat.lt_succ_of_lt hlS)
        have hSf:s.heap.objs.size ∉ [(s.heap.push { cls:=.type "set",dict:=none,data:=.set #[] 0 (.fresh 0 0 led) }).objs.size,l]:=by
          rw [Heap.size_push]; simp only [List.mem_cons,List.mem_singleton,List.not_mem_nil,or_false,not_or]
          exact ⟨Nat.ne_of_lt (Nat.lt_succ_self _),Nat.ne_of_gt hlS⟩
        have hval:∀ (i:Nat) (v:Value),items[i]? = some v→∃ t,v = .int (ns.getD i 0) t:=fun i v hv =>
          PyProof.Rows.IntsAre.int_at hi i v (by rw [Array.getElem?_toList]; exact hv)
        refine L2.loopN (led:=led) (ns:=ns) ((Walks.list hh3 _ l hneI items).toS) s.heap.objs.size hSf hb hval (items.size - 0) 0 _ [] (by omega) (Nat.zero_le _) ⟨⟨_,Heap.get?_push_size _ rfl,rfl,rfl⟩,(hl1.push _)⟩ ?hS0 (Nat.le_refl _) (fun c=>⟨fun z=>by simp at z,fun ⟨j,hj,_⟩=>by omega⟩) ?hR
        case hS0 =>
          exact ⟨_,#[],0,_,Heap.get?_push_of_some _ hS,⟨rfl,rfl,rfl⟩,rfl,fun e he=>by simp at he,rfl,.nil,by decide,rfl,rfl,zQQ led⟩
        case hR =>
          intro s' ks hm hS' hk
          obtain ⟨h',g',d',tk',os'⟩:=s'
          have eg:g' = s.gens:=hm.gens
          have ed:d' = s.drawn:=hm.drawn
          have eo:os' = s.os:=hm.os
          subst eg; subst ed; subst eo
          show wpAny _ _ _ _ _ _
          refine wpAny_pure ?_
          show wpAny _ _ (ret Value.none) _ _ _
          refine wpAny_pure ⟨rfl,h',tk',ks,rfl,hS',hk,fun b o hb e=>?_⟩
          have hb1:b≠s.heap.objs.size:=Nat.ne_of_lt hb
          have hb2:b≠(s.heap.push { cls:=.type "set",dict:=none,data:=.set #[] 0 (.fresh 0 0 led) }).objs.size:=by
            rw [Heap.size_push]; exact Nat.ne_of_lt (Nat.lt_succ_of_lt hb)
          exact hm.heap b o (by simp only [List.mem_cons,List.mem_singleton,List.not_mem_nil,or_false,not_or]; exact ⟨hb1,hb2⟩) (Heap.get?_push_of_some _ (Heap.get?_push_of_some _ e))
      · cases r₂ with
        | error e=>exact hr₂
        | ok fl₂ =>
          cases fl₂ with
          | ret r =>
            obtain ⟨rfl,h',tk,ks,rfl,hS',hk,hk'⟩:=hr₂
            repeat (any_goals (first | assumption | wp_step))
            exact h _ _ _ hS' hk hk'
          | _=>exact hr₂.elim
    | _=>exact hr.elim
end PySem

namespace L2
open PySem PySem.Spec PyProof.Rows
section
variable {prog:Program} {w:World} {A:Around} {E:Value→Shared→Prop} {s:Shared}
theorem zFM {es:List (Int × Value)} (h:ElemsOf (intKind prog w) es):IntsAre (es.map (·.2)) (es.map fun e=>zFN e.2):=by
  induction es with
  | nil=>exact .nil
  | cons e r ih =>
    obtain ⟨k,t,e1⟩:=zJR h (List.mem_cons_self ..)
    have:=ih h.tail
    rw [List.map_cons,List.map_cons,e1]
    exact .cons k t this
theorem zO6 {vs:List Value} {zs:List Int} {acc:Array Value} {n:Nat} {P:Nat→Value→Prop} (hi:ItemsOf P acc n) (hn:vs.length = n) (hP:∀ i v,i < n→P i v→vs[i]? = some v) (hz:IntsAre vs zs):IntsAre acc.toList zs:=by
  have:acc.toList = vs:=by
    refine List.ext_getElem? fun i=>?_
    by_cases h:i < n
    · have hs:i < acc.size:=by rw [hi.1]; exact h
      have h1:acc[i]? = some acc[i]:=by simp [hs]
      rw [Array.getElem?_toList,h1,hP i _ h (hi.2 i _ h1)]
    · rw [List.getElem?_eq_none (by simp [hi.1]; omega),List.getElem?_eq_none (by omega)]
  rw [this]
  exact hz
theorem zPS {a:Addr} {ks:List Int} (hS:SetN prog w s.heap a (!w.params.followText "set-order") ks) {Q:Value→Shared→Prop}
    (hQ:∀ (it:Addr) (h2:Heap) (d2:Drawn) (fp:List Addr) (St:Nat→Heap→Prop) (P:Nat→Value→Prop) (vs:List Value) (zs:List Int),(∀ A':Around,A'.handled = none→Walks prog w A' it fp [it] ks.length P St)→(∀ i v,i < ks.length→P i v→vs[i]? = some v)→vs.length = ks.length→IntsAre vs zs→zs.Perm ks →
      St 0 h2→(∀ b∈fp,b < h2.objs.size)→(∀ b∈fp,b = a∨s.heap.objs.size≤b)→s.heap.objs.size≤it→(∀ b o,s.heap.get? b = some o→h2.get? b = some o)→Q (.ref it) { s with heap:=h2,drawn:=d2 }) :
    wpAny (model prog w) A (pyIter (.ref a)) Q E s:=by
  obtain ⟨o,es,ep,t,ho,hex,hd,hel,hks,hnd,hb,hf,hled,hpl⟩:=hS
  have hn:es.size = ks.length:=by rw [← hks,List.length_map,Array.length_toList]
  have hT:s.TypeIs (.ref a) "set":=⟨o,ho,hex.1⟩
  have hlt:a < s.heap.objs.size:=Heap.lt_size ho
  refine wpAny_pyIter_slot hT PySem.F.slot_set_iter (wpAny_call_entry PySem.F.slot_set_iter hT zHQ ?_ (PySem.F.args_set_iter_1 _))
  unfold Builtin.«frozenset.__iter__»
  refine wpAny_bind (m:=Builtin.Frozenset.slot0 "__iter__" _) (wpAny_pure ?_)
  refine wpAny_bind (m:=Builtin.Frozenset.sizeOf a) (wpAny_bind (wpAny_setEntries_of ho hd hf (wpAny_pure ?_)))
  refine wpAny_bind (m:=setDrawn a) ?_
  unfold setDrawn
  refine wpAny_bind (wpAny_setState_of ho hd hf ?_)
  dsimp only
  unfold setsByText
  refine wpAny_bind (wpAny_bind (wpAny_askSetting (wpAny_pure ?_)))
  refine wpAny_pure ?_
  show wpAny _ _ (if (!w.params.followText "set-order" && (!t.plain && decide (es.size > 1))) = true then _ else _) _ _ _
  have ne1:a≠s.heap.objs.size:=Nat.ne_of_lt hlt
  rw [← hn] at hQ
  cases hbt:w.params.followText "set-order" with
  | true =>
    rw [if_neg (by simp)]
    refine wpAny_bind (wpAny_pure ?_)
    refine wpAny_bind (wpAny_setEpoch_of ho hd hf ?_)
    refine wpAny_bind (wpAny_newObj_type (wpAny_pure ⟨_,rfl,"set_iterator",_,⟨_,Heap.get?_push_size _ rfl,rfl⟩,slot_si_next.lookup,?_⟩))
    have hpk:=zPB (w.params.setOrder a ep) es
    have hpl':(pickOrder (w.params.setOrder a ep) es).size = es.size:=by rw [← Array.length_toList,hpk.length_eq,Array.length_toList]
    generalize hpo:pickOrder (w.params.setOrder a ep) es = pk at hpk hpl'
    have hnext:∀ (i:Nat) (s:Shared) (Q:Option (Value × Nat)→Shared→Prop) (A:Around) (E:Value→Shared→Prop),s.heap.get? a = some o→Q ((pk[i]?).map fun e=>(e.2,0)) s→wpAny (model prog w) A (setNext a 0 i ep) Q E s:=by
      intro i s Q A E ho' hq
      unfold setNext
      refine wpAny_bind (wpAny_setState_of ho' hd hf ?_)
      dsimp only
      unfold setsByText
      refine wpAny_bind (wpAny_bind (wpAny_askSetting (wpAny_pure ?_)))
      show wpAny _ _ (if w.params.followText "set-order" = true then _ else _) _ _ _
      rw [hbt,if_pos rfl]
      rw [if_neg (by simp)]
      refine wpAny_bind ?_
      unfold setWalk
      refine wpAny_bind (wpAny_setState_of ho' hd hf ?_)
      dsimp only
      unfold setsByText
      refine wpAny_bind (wpAny_bind (wpAny_askSetting (wpAny_pure ?_)))
      show wpAny _ _ (if w.params.followText "set-order" = true then _ else _) _ _ _
      rw [hbt,if_pos rfl]
      refine wpAny_bind (wpAny_askSetting ?_)
      refine wpAny_pure ?_
      show wpAny _ _ (pure (((pickOrder (w.params.setOrder a ep) es)[i]?).map fun e=>(e.2,0))) _ _ _
      rw [hpo]
      exact wpAny_pure hq
    refine hQ s.heap.objs.size _ s.drawn [s.heap.objs.size,a] _ _ (pk.toList.map (·.2)) (pk.toList.map fun e=>zFN e.2) (fun A' hA'=>zK2 hA' ne1 hd hf (fun i=>((pk[i]?).map (·.2)).getD .none) (fun _=>0) (fun i hi s Q A E ho' hq=>hnext i s Q A E ho' ?_) (fun s Q A E ho' hq=>hnext _ s Q A E ho' ?_)) (fun i v hi hv=>?_) (by rw [List.length_map,Array.length_toList,hpl']) (zFM (hel.perm hpk)) (by rw [← hks]; exact hpk.map _) ⟨⟨_,Heap.get?_push_size _ rfl,rfl,rfl⟩,Heap.get?_push_of_some _ ho⟩ (fun b hb=>?_) (fun b hb=>by simp only [List.mem_cons,List.not_mem_nil,or_false] at hb; rcases hb with rfl | rfl; exact .inr (Nat.le_refl _); exact .inl rfl) (Nat.le_refl _) (fun b o e=>Heap.get?_push_of_some _ e)
    · have:pk[i]? = some pk[i]:=by simp [hpl',hi]
      rw [this] at hq ⊢
      exact hq
    · have:pk[es.size]? = none:=by simp [hpl']
      rw [this]
      exact hq
    · rw [hv,List.getElem?_map,Array.getElem?_toList]
      have:pk[i]? = some pk[i]:=by simp [hpl',hi]
      rw [this]
      rfl
    · show b < (s.heap.push _).objs.size
      rw [Heap.size_push]
      simp only [List.mem_cons,List.not_mem_nil,or_false] at hb
      rcases hb with rfl | rfl
      · exact Nat.lt_succ_self _
      · exact Nat.lt_succ_of_lt hlt
  | false =>
    by_cases h2:(!t.plain && decide (es.size > 1)) = true
    · rw [if_pos (by simpa using h2)]
      refine wpAny_bind (zIS es.size (List.range es.size) s _ (by simp) fun ps d hps=>?_)
      have hpn:ps.length = es.size:=by rw [hps.length_eq,List.length_range]
      refine wpAny_bind (wpAny_newTuple ?_ (hsz:=by rw [List.length_map,hpn]; exact fits_of_scanBound hb))
      have ho1:(s.heap.push (seqObj "tuple" (ps.map fun i:Nat=>rawInt (i:Int)).toArray 0)).get? a = some o:=Heap.get?_push_of_some _ ho
      refine wpAny_bind (wpAny_setEpoch_of (s:={ heap:=s.heap.push (seqObj "tuple" (ps.map fun i:Nat=>rawInt (i:Int)).toArray 0),gens:=s.gens,drawn:=d,toks:=s.toks,os:=s.os }) ho1 hd hf ?_)
      refine wpAny_bind (wpAny_newObj_type (wpAny_pure ⟨_,rfl,"set_iterator",_,⟨_,Heap.get?_push_size _ rfl,rfl⟩,slot_si_next.lookup,?_⟩))
      have hsz:(s.heap.push (seqObj "tuple" (ps.map fun i:Nat=>rawInt (i:Int)).toArray 0)).objs.size = s.heap.objs.size + 1:=Heap.size_push _ _
      have hpl3:∀ p∈ps,p < es.size:=fun p hp=>List.mem_range.mp (hps.mem_iff.mp hp)
      have hvs:∀ (i:Nat) (v:Value),(∃ (p:Nat) (h0:Int),ps[i]? = some p∧es[p]? = some (h0,v))→(ps.map fun p=>((es[p]?).map (·.2)).getD .none)[i]? = some v:=fun i v ⟨p,h0,e1,e2⟩=>by
        rw [List.getElem?_map,e1]
        show some (((es[p]?).map (·.2)).getD .none) = _
        rw [e2]
        rfl
      have hall:∀ f:Int × Value→Int,((List.range es.size).map fun p=>((es[p]?).map f).getD 0) = es.toList.map f:=fun f=>by
        refine List.ext_getElem (by simp) fun i h1 h2=>?_
        have hi:i < es.size:=by simpa using h1
        simp [hi]
      have hallv:((List.range es.size).map fun p=>((es[p]?).map (·.2)).getD Value.none) = es.toList.map (·.2):=by
        refine List.ext_getElem (by simp) fun i h1 h2=>?_
        have hi:i < es.size:=by simpa using h1
        simp [hi]
      have hstr:IntsAre (ps.map fun p=>((es[p]?).map (·.2)).getD .none) (ps.map fun p=>((es[p]?).map fun e=>zFN e.2).getD 0):=by
        have gen:∀ l:List Nat,(∀ p∈l,p < es.size)→IntsAre (l.map fun p=>((es[p]?).map (·.2)).getD .none) (l.map fun p=>((es[p]?).map fun e=>zFN e.2).getD 0):=by
          intro l
          induction l with
          | nil=>intro _; exact .nil
          | cons p r ih =>
            intro hl
            have hp:=hl p (by simp)
            have hg:es[p]? = some es[p]:=by simp [hp]
            obtain ⟨k,tk,e1⟩:=zJR hel (e:=es[p]) (by rw [← Array.getElem_toList]; exact List.getElem_mem _)
            rw [List.map_cons,List.map_cons,hg]
            show IntsAre (es[p].2 :: _) (zFN es[p].2 :: _)
            rw [e1]
            exact .cons k tk (ih fun q hq=>hl q (by simp [hq]))
        exact gen ps hpl3
      refine hQ (s.heap.push (seqObj "tuple" (ps.map fun i:Nat=>rawInt (i:Int)).toArray 0)).objs.size _ d [(s.heap.push (seqObj "tuple" (ps.map fun i:Nat=>rawInt (i:Int)).toArray 0)).objs.size,a,s.heap.objs.size] _ _ _ _ (fun A' hA'=>zOJ (T:=s.heap.objs.size) (oT:=seqObj "tuple" (ps.map fun i:Nat=>rawInt (i:Int)).toArray 0) hA' (by rw [hsz]; exact Nat.ne_of_lt (Nat.lt_succ_of_lt hlt)) (by rw [hsz]; exact Nat.ne_of_lt (Nat.lt_succ_self _)) hd hf ps hpn hpl3 rfl) (fun i v _ hv=>hvs i v hv) (by rw [List.length_map,hpn]) hstr ?_ ⟨⟨_,Heap.get?_push_size _ rfl,rfl,rfl⟩,Heap.get?_push_of_some _ ho1,Heap.get?_push_of_some _ (Heap.get?_push_size _ rfl)⟩ (fun b hb=>?_) (fun b hb=>by rw [hsz] at hb; simp only [List.mem_cons,List.not_mem_nil,or_false] at hb; rcases hb with rfl | rfl | rfl; exact .inr (Nat.le_succ _); exact .inl rfl; exact .inr (Nat.le_refl _)) (by rw [hsz]; exact Nat.le_succ _) (fun b o e=>Heap.get?_push_of_some _ (Heap.get?_push_of_some _ e))
      · rw [← hks,← hall]
        exact hps.map _
      · show b < (Heap.push _ _).objs.size
        rw [Heap.size_push,hsz]
        rw [hsz] at hb
        simp only [List.mem_cons,List.not_mem_nil,or_false] at hb
        rcases hb with rfl | rfl | rfl
        · exact Nat.lt_succ_self _
        · exact Nat.lt_succ_of_lt (Nat.lt_succ_of_lt hlt)
        · exact Nat.lt_succ_of_lt (Nat.lt_succ_self _)
    · rw [if_neg (by simpa using h2)]
      refine wpAny_bind (wpAny_pure ?_)
      refine wpAny_bind (wpAny_setEpoch_of ho hd hf ?_)
      refine wpAny_bind (wpAny_newObj_type (wpAny_pure ⟨_,rfl,"set_iterator",_,⟨_,Heap.get?_push_size _ rfl,rfl⟩,slot_si_next.lookup,?_⟩))
      have hled':t.led = true:=by rw [hled,hbt]; rfl
      have hps:t.place.size = es.size:=by
        simp only [SetTable.fits,Bool.and_eq_true,beq_iff_eq] at hf
        exact hf.1
      have hnext:∀ (sl i:Nat) (s:Shared) (Q:Option (Value × Nat)→Shared→Prop) (A:Around) (E:Value→Shared→Prop),s.heap.get? a = some o→Q (match es[SetTable.below t.place sl]?,t.place[SetTable.below t.place sl]? with | some (_,x),some j=>some (x,j + 1) | _,_=>none) s→wpAny (model prog w) A (setNext a sl i ep) Q E s:=by
        intro sl i s Q A E ho' hq
        unfold setNext
        refine wpAny_bind (wpAny_setState_of ho' hd hf ?_)
        dsimp only
        unfold setsByText
        refine wpAny_bind (wpAny_bind (wpAny_askSetting (wpAny_pure ?_)))
        show wpAny _ _ (if w.params.followText "set-order" = true then _ else _) _ _ _
        rw [hbt,if_neg (by decide)]
        show wpAny _ _ (if (!t.plain && decide (es.size > 1)) = true then _ else _) _ _ _
        rw [if_neg h2]
        refine wpAny_bind ?_
        show wpAny _ _ (if (!t.led && !es.isEmpty) = true then _ else _) _ _ _
        rw [hled',if_neg (by simp)]
        exact wpAny_pure (wpAny_pure hq)
      have hsl:∀ i,i≤es.size→SetTable.below t.place (if i = 0 then 0 else t.place.getD (i - 1) 0 + 1) = i:=fun i hi=>by
        by_cases h0:i = 0
        · subst h0; rw [if_pos rfl]; exact zOC _ hpl.1
        · rw [if_neg h0,zOD _ hpl.1 (by omega)]; omega
      refine hQ s.heap.objs.size _ s.drawn [s.heap.objs.size,a] _ _ (es.toList.map (·.2)) (es.toList.map fun e=>zFN e.2) (fun A' hA'=>zK2 hA' ne1 hd hf (fun i=>((es[i]?).map (·.2)).getD .none) (fun i=>if i = 0 then 0 else t.place.getD (i - 1) 0 + 1) (fun i hi s Q A E ho' hq=>hnext _ i s Q A E ho' ?_) (fun s Q A E ho' hq=>hnext _ _ s Q A E ho' ?_)) (fun i v hi hv=>?_) (by rw [List.length_map,Array.length_toList]) (zFM hel) (by rw [← hks]) ⟨⟨_,Heap.get?_push_size _ rfl,rfl,rfl⟩,Heap.get?_push_of_some _ ho⟩ (fun b hb=>?_) (fun b hb=>by simp only [List.mem_cons,List.not_mem_nil,or_false] at hb; rcases hb with rfl | rfl; exact .inr (Nat.le_refl _); exact .inl rfl) (Nat.le_refl _) (fun b o e=>Heap.get?_push_of_some _ e)
      · rw [hsl i (by omega)]
        have e1:es[i]? = some es[i]:=by simp [hi]
        have e2:t.place[i]? = some (t.place.getD i 0):=by simp [hps,hi]
        rw [e1,e2]
        rw [e1] at hq
        simp only [Nat.add_one_ne_zero,if_false,Nat.add_sub_cancel] at hq
        exact hq
      · rw [hsl es.size (Nat.le_refl _)]
        have e1:es[es.size]? = none:=by simp
        rw [e1]
        exact hq
      · rw [hv,List.getElem?_map,Array.getElem?_toList]
        have e1:es[i]? = some es[i]:=by simp [hi]
        rw [e1]
        rfl
      · show b < (s.heap.push _).objs.size
        rw [Heap.size_push]
        simp only [List.mem_cons,List.not_mem_nil,or_false] at hb
        rcases hb with rfl | rfl
        · exact Nat.lt_succ_self _
        · exact Nat.lt_succ_of_lt hlt
theorem SetN.type {h:Heap} {a:Addr} {led:Bool} {ks:List Int} (hS:SetN prog w h a led ks):∃ o,h.get? a = some o∧o.cls = .type "set":=by
  obtain ⟨o,_,_,_,ho,hex,_⟩:=hS
  exact ⟨o,ho,hex.1⟩
theorem zL4 {a:Addr} {ks:List Int} (hh:A.handled = none) (hS:SetN prog w s.heap a (!w.params.followText "set-order") ks) (hlen:ks.length≤sizeLine) {Q:List Value→Shared→Prop}
    (hQ:∀ (h':Heap) (d:Drawn) (tk:Nat) (acc:List Value) (zs:List Int),IntsAre acc zs→zs.Perm ks→s.heap.objs.size < h'.objs.size→(∀ b o,s.heap.get? b = some o→h'.get? b = some o)→Q acc { s with heap:=h',drawn:=d,toks:=tk }) :
    wpAny (model prog w) A (collect (.ref a)) Q E s:=by
  obtain ⟨o0,ho0,hc0⟩:=hS.type
  have hlt:a < s.heap.objs.size:=Heap.lt_size ho0
  unfold collect
  refine wpAny_bind (wpAny_runValue (codeAny_builtin PySem.F.entry_proto_collect ?_))
  rw [Around.under_plainId PySem.F.plain_proto_collect _]
  show wpAny _ A.in1 (newList [] >>= fun l=>again (.builtin "list.__iadd__" ⟨[l,.ref a],[]⟩)) _ _ s
  refine wpAny_bind (wpAny_newObj_type ?_)
  refine wpAny_pure ⟨plainId_quiet PySem.F.plain_list_iadd _,codeAny_builtin PySem.F.entry_list_iadd ?_⟩
  rw [Around.under_plainId PySem.F.plain_list_iadd _]
  show wpAny _ A.in1 (Builtin.List.listExtendWith (.ref s.heap.objs.size) (.ref a) (.ref s.heap.objs.size)) _ _ _
  unfold Builtin.List.listExtendWith
  have ho1:(s.heap.push { cls:=.type "list",data:=.seq ([]:List Value).toArray }).get? a = some o0:=Heap.get?_push_of_some _ ho0
  refine wpAny_bind (wpAny_typeOf (T:="set") ⟨o0,ho1,hc0⟩ ?_)
  have h1:Builtin.List.listSameRef (.ref s.heap.objs.size) (.ref a) = false:=by simp [Builtin.List.listSameRef]; exact Nat.ne_of_gt hlt
  have h2:(Value.type "set" == Value.type "list") = false:=by decide
  have h3:(Value.type "set" == Value.type "tuple") = false:=by decide
  simp only [h1,h2,h3,Bool.or_false,Bool.false_eq_true,if_false]
  refine wpAny_bind (zPS (hS.at fun o e=>Heap.get?_push_of_some _ e) fun it h2 d2 fp St P vs zs W hP hvl hsa hzp hst hfp hfa hit hkeep=>?_)
  have hS1:h2.get? s.heap.objs.size = some { cls:=.type "list",data:=.seq ([]:List Value).toArray }:=hkeep _ _ (Heap.get?_push_size _ rfl)
  have hsz:(s.heap.push { cls:=.type "list",data:=.seq ([]:List Value).toArray }).objs.size = s.heap.objs.size + 1:=Heap.size_push _ _
  have hSf:s.heap.objs.size ∉ fp:=fun hm=>by
    rcases hfa _ hm with e | e
    · exact Nat.ne_of_gt hlt e
    · rw [hsz] at e; exact Nat.not_succ_le_self _ e
  refine wpAny_bind (wpAny_holding ?_)
  unfold Builtin.List.listLengthHint
  have ho2:h2.get? a = some o0:=hkeep _ _ ho1
  refine wpAny_bind (wpAny_specialOf (T:="set") (v:=.ref a) ⟨o0,ho2,hc0⟩ zTS ?_)
  wp_delta
  refine wpAny_bind (wpAny_isInstance (T:="set") (v:=.ref a) (b:=true) ⟨o0,ho2,hc0⟩ (by rw [isSubtype_type]; kernel_rfl) ?_)
  show wpAny _ A.in1 (typeOf (Value.ref a) >>= _) _ _ _
  refine wpAny_bind (wpAny_typeOf (T:="set") (v:=.ref a) ⟨o0,ho2,hc0⟩ ?_)
  refine wpAny_pure ?_
  show wpAny _ A.in1 (rule "list.extend.makes-room" >>= fun _=>Builtin.List.listTouch (.ref s.heap.objs.size) >>= fun _ =>
    again (.builtin "list.extend.loop" ⟨[.ref s.heap.objs.size,.ref it,.ref s.heap.objs.size],[]⟩)) _ _ _
  refine wpAny_bind (wpAny_rule ?_)
  refine wpAny_bind ?_
  show wpAny _ A.in1 (updateSeq s.heap.objs.size (·.push .none) >>= fun _=>updateSeq s.heap.objs.size (·.pop)) _ _ _
  refine wpAny_bind (wpAny_updateSeq hS1 rfl ?_)
  have hS₂:=Heap.get?_update_self (Obj.mapSeq (·.push Value.none)) hS1 rfl
  refine wpAny_updateSeq hS₂ rfl ?_
  have hS₃:=Heap.get?_update_self (Obj.mapSeq (·.pop)) hS₂ rfl
  have oth:∀ b o,b≠s.heap.objs.size→h2.get? b = some o→((h2.update s.heap.objs.size (Obj.mapSeq (·.push Value.none))).update s.heap.objs.size (Obj.mapSeq (·.pop))).get? b = some o :=
    fun b o hb e=>(Heap.get?_update_other _ _ (Ne.symm hb)).trans ((Heap.get?_update_other _ _ (Ne.symm hb)).trans e)
  refine wpAny_pure ⟨plainId_quiet PySem.F.plain_extend_loop _,codeAny_extend_loopS (W A.in1 hh).toS hlen _ hSf _ ks.length 0 _ _ _ rfl (Nat.zero_le _) ((W A.in1 hh).frame 0 h2 _ hst fun b hb o e=>oth b o (fun z=>hSf (z ▸ hb)) e) hS₃ (ItemsOf.nil P) fun s' acc' c' hm hS' hacc=>?_⟩
  show wpAny _ A (load s.heap.objs.size >>= _) _ _ s'
  refine wpAny_bind (wpAny_load hS' ?_)
  obtain ⟨h',g',d',tk',os'⟩:=s'
  have eg:g' = s.gens:=hm.gens
  have ed:d' = d2:=hm.drawn
  have eo:os' = s.os:=hm.os
  subst eg; subst ed; subst eo
  refine wpAny_pure (hQ h' d' tk' acc'.toList zs (zO6 hacc hvl hP hsa) hzp (Heap.lt_size hS') fun b o e=>?_)
  have hbl:b < s.heap.objs.size:=Heap.lt_size e
  refine hm.heap b o (fun hb=>?_) (oth b o (Nat.ne_of_lt hbl) (hkeep b o (Heap.get?_push_of_some _ e)))
  simp only [List.mem_cons,List.not_mem_nil,or_false] at hb
  rcases hb with rfl | rfl
  · exact Nat.lt_irrefl _ hbl
  · rw [hsz] at hit; exact absurd hbl (Nat.not_lt.mpr (Nat.le_of_succ_le hit))
theorem zLM {a:Addr} {ks:List Int} (hh:A.handled = none) (hS:SetN prog w s.heap a (!w.params.followText "set-order") ks) (hlen:ks.length < 64) {Q:Value→Shared→Prop}
    (hQ:∀ (h':Heap) (d:Drawn) (tk:Nat) (L:Addr) (out:Array Value) (e:Nat) (ms:List Int),IntsAre out.toList ms→ms.Perm ks→ms.Pairwise (·≤·)→s.heap.objs.size≤L→h'.get? L = some (seqObj "list" out e)→(∀ b o,s.heap.get? b = some o→h'.get? b = some o)→Q (.ref L) { s with heap:=h',drawn:=d,toks:=tk }) :
    wpAny (model prog w) A (call (.builtin "sorted") [.ref a]) Q E s:=by
  refine Calls.call_function_entry kind_sorted plain_sorted entry_sorted (args_sorted1 _) ?_
  unfold Builtin.«sorted»
  refine wpAny_bind (m:=checkCount "sorted" 1 1 _) (wpAny_pure ?_)
  refine wpAny_bind (zL4 (A:=A.in1) hh hS (by rw [sizeLine_eq]; omega) fun h' d tk acc zs hsa hzp hgr hkeep=>?_)
  have hal:acc.length = ks.length:=by rw [IntsAre.length hsa,hzp.length_eq]
  refine wpAny_bind (wpAny_newList ?_ (hsz:=by rw [hal,sizeLine_eq]; omega))
  have hoL:(h'.push (seqObj "list" acc.toArray 0)).get? h'.objs.size = some (seqObj "list" acc.toArray 0):=Heap.get?_push_size _ rfl
  refine wpAny_bind (wpAny_holding (wpAny_call_entry slot_list_sort ⟨_,hoL,rfl⟩ entry_list_sort (list_sort_tree hoL hsa (by omega) fun out ms b1 b2 b3=>⟨_,rfl,?_⟩) (args_list_sort _)))
  obtain ⟨e,he⟩:=sortedHeap_at (vs:=acc) (out:=out) hoL
  refine wpAny_pure ⟨_,rfl,hQ _ d tk h'.objs.size _ e ms b1 (b2.trans hzp) b3 ?_ he fun b o eb=>?_⟩
  · exact Nat.le_of_lt hgr
  · have h1:=hkeep b o eb
    have hlt:b < h'.objs.size:=Heap.lt_size h1
    rw [sortedHeap_old (Nat.ne_of_lt hlt) (by rw [size_push']; exact Nat.lt_succ_of_lt hlt)]
    exact Heap.get?_push_of_some _ h1
end
section
variable {X:Cx} {pins:List (Addr × Obj)} {σ:List (Option V)} {H:Hp} {s:Shared}
noncomputable def zOX (P:Program) (w:World) (a:Addr) (ks:List Int):HO:=.ext fun h=>SetN P w h a (!w.params.followText "set-order") ks
def zW1 (P:Program) (w:World):List V→Hp→VK→Prop:=fun vs H Q=>match vs with
  | [.ref l]=>∃ ns:List Int,H l = some (.lst (ns.map V.int))∧ns.length≤1000∧∀ a ks,H a = none→ks.Nodup→(∀ c,c∈ks ↔ c∈ns)→Q (.ref a) (upd H a (zOX P w a ks))
  | _=>False
theorem zWX (hc:X.calm = true):zD3 X (.type "set") (zW1 X.prog X.w):=by
  intro pins s σ H vs us Q I r h
  match vs,r,h with
  | [.ref l],r,h =>
    obtain ⟨ns,ha,hz,q⟩:=h
    obtain ⟨u,rfl,rx⟩:=zI8 r
    cases rx
    obtain ⟨its,rv,hl⟩:=zB1 I.hok ha
    have hi:IntsAre its ns:=zHO rv
    have hsz:its.length = ns.length:=by have:=rv.length; simp at this; omega
    refine zIA (items:=its.toArray) (ns:=ns) (I.ok.hd hc) hl (by simpa using hi) (by unfold scanBound; simp; omega) fun h' tk ks hS hks hk=>?_
    have hS':=hS
    obtain ⟨o,es,ep,tb,ho,hex,hd,hel,hkse,hnd,_⟩:=hS
    refine ⟨.ref _,_,I.laid (t':=tk) (o:=zOX X.prog X.w s.heap.objs.size ks) (fun b u e=>hk b u (Heap.lt_size e) e) (Nat.le_refl _) ⟨hS',⟨o,ho⟩,fun h1 h2 z f=>z.at f⟩,rfl,q _ ks (I.hok.fresh (Nat.le_refl _)) hnd fun c=>?_⟩
    rw [hks c]
    constructor
    · rintro ⟨j,hj,e1⟩
      have hj':j < ns.length:=by simpa [hsz] using hj
      rw [e1,List.getD_eq_getElem?_getD,List.getElem?_eq_getElem hj']
      exact List.getElem_mem hj'
    · intro hc'
      obtain ⟨j,hj,e1⟩:=List.getElem_of_mem hc'
      exact ⟨j,by simpa [hsz] using hj,by rw [List.getD_eq_getElem?_getD,List.getElem?_eq_getElem hj]; exact e1.symm⟩
def zSV (P:Program) (w:World):List V→Hp→VK→Prop:=fun vs H Q=>match vs with
  | [.ref a]=>∃ ks,H a = some (zOX P w a ks)∧ks.length < 64∧∀ ms:List Int,ms.Perm ks→ms.Pairwise (·≤·)→∀ l,H l = none→Q (.ref l) (upd H l (.lst (ms.map V.int)))
  | _=>False
theorem zUN (hc:X.calm = true):zD3 X (.builtin "sorted") (zSV X.prog X.w):=by
  intro pins s σ H vs us Q I r h
  match vs,r,h with
  | [.ref a],r,h =>
    obtain ⟨ks,ha,hlen,q⟩:=h
    obtain ⟨u,rfl,rx⟩:=zI8 r
    cases rx
    have hok:ObjOk X.prog X.w H s.heap a (zOX X.prog X.w a ks):=I.hok a _ ha
    have hS:SetN X.prog X.w s.heap a (!X.w.params.followText "set-order") ks:=hok.1
    refine zLM (I.ok.hd hc) hS hlen fun h' d tk L out e ms b1 b2 b3 hL hl hk=>?_
    have I2:Inv X pins σ H { s with drawn:=d }:=I.drawn d
    have hz':ms.length≤sizeLine:=by rw [b2.length_eq,sizeLine_eq]; omega
    exact ⟨.ref _,_,I2.laid (t':=tk) (o:=.lst (ms.map V.int)) (fun b o e=>hk b o e) hL ⟨by rw [List.length_map]; exact hz',out.toList,e,zIQ b1,by simpa [seqObj] using hl⟩,rfl,q ms b2 b3 _ (I2.hok.fresh hL)⟩
end
end L2
namespace L3
open PySem PySem.Spec
open L2 hiding Rep RepL
open Mi (Dt Xn R okR zA3 optR zA0 zAA zAG zAB zAE Rh Sl Ro EM TM AM FM IM SM OM Tg Out zB3 zB0 zBB full frz frz1 frzAt)
section
variable [Kc] {mg:Str→Option Value} {E:XK} {L n k l:Nat} {te ta tb:TE} {e ea eb ma:EM} {t:TA} {m:AM}
theorem zXM {P:Program} {w:World} (A:DE mg E te e k):DE mg E (tCB (zSV P w) (zI9 (tCB (zW1 P w) (zI9 te tNil)) tNil)) (Mi.eBi Mi.soiD (Mi.aCons e Mi.aNil)) 1:=by
  intro G H σ ρ Q s w' p
  have p0:PostE mg E G H 1 (zA3 (e ρ) fun d=>optR (Mi.soiD [d])) Q:=by
    have:(Mi.eBi Mi.soiD (Mi.aCons e Mi.aNil)) ρ = zA3 (e ρ) fun d=>optR (Mi.soiD [d]):=by
      show zA3 (zA3 (e ρ) fun x=>zA3 (okR []) fun xs=>okR (x :: xs)) (fun xs=>optR (Mi.soiD xs)) = _
      cases e ρ with
      | none=>rfl
      | some r=>cases r <;> rfl
    rw [← this]
    exact p
  refine (zAS A).step errE s w' p0 fun d v G1 H1 S _ fr o p1=>?_
  cases d with
  | lst ds =>
    obtain ⟨a,xs,rfl,ha,hr⟩:=(show ∃ a xs,v = .ref a∧G1 a = some (.lst xs)∧RepL G1 ds xs from o)
    have p2:PostE mg E G H 1 (optR (match Mi.intsD ds with
      | some ns=>@ite _ (ns.length < 64) (Classical.propDecidable _) (some (.lst ((Mi.soiL ns).map .int))) none
      | none=>none)) Q:=p1
    cases hi:Mi.intsD ds with
    | none=>rw [hi] at p2; exact p2.elim
    | some ns =>
      rw [hi] at p2
      have hx:=zN3 hi hr
      subst hx
      dsimp only at p2
      split at p2
      · rename_i hz
        refine ⟨ns,fr.ext.in' _ _ ha,by omega,fun b ks hb hnd hks=>?_⟩
        have hperm:ks.Perm (Mi.dedI ns):=(List.perm_ext_iff_of_nodup hnd (Mi.dedI_nd ns)).mpr fun c=>by rw [hks c,Mi.dedI_mem]
        have hlen:ks.length < 64:=by
          rw [hperm.length_eq]
          have h:=Mi.ded_len ns []
          unfold Mi.dedI
          simp at h ⊢
          omega
        refine ⟨ks,zAP,hlen,fun ms h1 h2 l hl=>?_⟩
        have hy:ms = Mi.soiL ns:=PySem.W.lks_uniq (h1.trans (hperm.trans (Mi.soiL_perm ns).symm)) h2 (Mi.soiL_asc ns)
        subst hy
        have x1:Ext G1 H1 G1 (upd H1 b (zOX P w b ks)):=⟨Same.refl _,fun c o e=>by
            by_cases z:c = b
            · rw [z,hb] at e; cases e
            · rw [zAO z]; exact e,fun c o e=>by
            have e2:=fr.ext.in' _ _ e
            by_cases z:c = b
            · rw [z,hb] at e2; cases e2
            · rw [zAO z]; exact e2,fun _ _=>rfl⟩
        exact PostE.lst p2 (fr.ext.trans x1) (zCH _) hl
      · exact p2.elim
  | _=>exact p1.elim
end
end L3

namespace Mi
open PySem
noncomputable section
end
end Mi

namespace L2
open PySem PySem.Spec PyProof.Rows
section
variable {prog:Program} {w:World} {A:Around} {E:Value→Shared→Prop} {s:Shared}
structure ZipX (z TI TO i1 i2:Addr):Prop where
  TIz:TI≠z
  TOz:TO≠z
  i1z:i1≠z
  i2z:i2≠z
  TITO:TI≠TO
  TIi1:TI≠i1
  TIi2:TI≠i2
  TOi1:TO≠i1
  TOi2:TO≠i2
  i12:i1≠i2
end
section
variable {prog:Program} {w:World} {A:Around} {E:Value→Shared→Prop} {s:Shared}
end
section
variable {X:Cx} {K:PySem.W.Frag}
end
section
variable {X:Cx} {e m1:Expr} {te ts:TE} {pos p2:Pos}
end
end L2

namespace L2
open PySem PySem.Spec PyProof.Rows
section
variable {prog:Program} {w:World} {A:Around} {R:Result→Shared→Prop} {I:Addr} {fp wr:List Addr} {G:Array GenState→Array GenState→Prop} {n:Nat} {St:Nat→Shared→Prop} {led:Bool} {items:Array Value} {zs:List Str}
end
end L2
namespace PySem
open PyProof.Rows
end PySem
namespace L2
open PySem PySem.Spec PyProof.Rows
section
variable {X:Cx} {pins:List (Addr × Obj)} {σ:List (Option V)} {H:Hp} {s:Shared}
end
end L2
namespace L3
open PySem PySem.Spec
open L2 hiding Rep RepL
open Mi (Dt Xn R okR zA3 optR zA0 zAA zAG zAB zAE Rh Sl Ro EM TM AM FM IM SM OM Tg Out zB3 zB0 zBB full frz frz1 frzAt)
section
variable [Kc] {mg:Str→Option Value} {E:XK} {L n k l:Nat} {te ta tb:TE} {e ea eb ma:EM} {t:TA} {m:AM}
end
end L3

namespace L2
open PySem
theorem uw1 {P:List Value→Prop} (h:∀ a,P [a]):∀ us:List Value,us.length = 1→P us
  | [a],_=>h a
theorem uw2 {P:List Value→Prop} (h:∀ a b,P [a,b]):∀ us:List Value,us.length = 2→P us
  | a :: us,hl=>uw1 (P:=fun us=>P (a :: us)) (h a) us (Nat.succ.inj hl)
theorem uw3 {P:List Value→Prop} (h:∀ a b c,P [a,b,c]):∀ us:List Value,us.length = 3→P us
  | a :: us,hl=>uw2 (P:=fun us=>P (a :: us)) (h a) us (Nat.succ.inj hl)
theorem uw4 {P:List Value→Prop} (h:∀ a b c d,P [a,b,c,d]):∀ us:List Value,us.length = 4→P us
  | a :: us,hl=>uw3 (P:=fun us=>P (a :: us)) (h a) us (Nat.succ.inj hl)
theorem oi {p q:Prop} (h:p∨q:=by first | exact Or.inl rfl | exact Or.inr rfl):p∨q:=h
end L2

namespace Mp
noncomputable section
open Mi PySem
def zGN:SM:=(sRet 0 0 [0] (eAnd (eIsi "int" (eV 0)) (eNot (eIsi "bool" (eV 0)))))
def zBC:FM:=runF 1 1 zGN
def zI6:SM:=(sRet 2 2 [0] (eComp (iSq (eV 0)) 1 (.one 1) Mi.tYes (eBi listD (aCons (eV 1) aNil))))
def zCC:FM:=runF 1 1 zI6
def zGO:SM:=(sRet 1 1 [0,1] (eComp (iZi (aCons (eV 0) (aCons (eV 1) aNil))) 2 (.tup [2,3]) Mi.tYes (eB modD (eB addD (eV 2) (eV 3)) (eC (.int 2)))))
def zAN:FM:=runF 2 2 zGO
def zQJ:SM:=(sRet 1 1 [0,1] (eComp (iR1 (aCons (eBi lenD (aCons (eV 0) aNil)) aNil)) 1 (.one 2) Mi.tYes (eB xorD (eB ixD (eV 0) (eV 2)) (eB ixD (eV 1) (eV 2)))))
def zG8:FM:=runF 2 2 zQJ
def zI5:SM:=(sRet 2 2 [1,0] (eComp (iSq (eV 1)) 1 (.one 2) Mi.tYes (eComp (iSq (eV 1)) 1 (.one 3) Mi.tYes (eB ixD (eB ixD (eV 0) (eV 2)) (eV 3)))))
def zBV:FM:=runF 2 2 zI5
def zEI:SM:=(sSeq (sSet 2 0 [0] (eBi lenD (aCons (eV 0) aNil)))
  (sSeq (sSet 3 0 [1,2] (eB modD (eV 1) (eV 2)))
  (sSeq (sSet 4 0 [2,3,1] (eB modD (eB addD (eB addD (eV 3) (eC (.int 1))) (eB modD (eB divD (eV 1) (eV 2)) (eB subD (eV 2) (eC (.int 1))))) (eV 2)))
  (sSeq (sSet 0 2 [4,5,0,3] (eComp (iEn (aCons (eV 0) aNil)) 2 (.tup [6,7]) Mi.tYes (eIf (tB (eB eqD (eV 6) (eV 4))) (eCall zAN (aCons (eV 7) (aCons (eB ixD (eV 0) (eV 3)) aNil))) (eBi listD (aCons (eV 7) aNil)))))
  (sSeq (sForSet 0 5 (eV 4) (eB modD (eB addD (eB ixD (eV 5) (eV 4)) (eB ixD (eV 5) (eV 3))) (eC (.int 2))))
  (sRetV 0 0))))))
def zBG:FM:=runF 2 6 zEI
def zFC:SM:=(sSeq (sSet 1 2 [0] (eComp (iSq (eV 0)) 1 (.one 6) Mi.tYes (eBi listD (aCons (eV 6) aNil))))
  (sSeq (sSet 2 0 [] (eC (.int 0)))
  (sSeq (sForR (iR1 (aCons (eBi lenD (aCons (eV 0) aNil)) aNil)) 3 (sSeq (sSet 4 1 [1,3] (eComp (iSq (eV 1)) 1 (.one 6) (tB (eB eqD (eB ixD (eV 6) (eV 3)) (eC (.int 1)))) (eV 6)))
  (sIf (tB (eB (cmpD fun i j=>decide (j < i)) (eBi lenD (aCons (eV 4) aNil)) (eC (.int 0)))) (sSeq (sSet 2 1 [2] (eB addD (eV 2) (eC (.int 1))))
  (sSeq (sSet 5 1 [1,3] (eComp (iSq (eV 1)) 1 (.one 6) (tB (eB eqD (eB ixD (eV 6) (eV 3)) (eC (.int 0)))) (eV 6)))
  (sSet 1 1 [5,4] (eB addD (eV 5) (eComp (iSq (eSl (eV 4) (oE (eC (.int 1))) oNo)) 1 (.one 6) Mi.tYes (eCall zAN (aCons (eV 6) (aCons (eB ixD (eV 4) (eC (.int 0))) aNil)))))))) sNil)))
  (sRetV 1 2))))
def zCB:FM:=runF 1 6 zFC
def zLF:SM:=(sSeq (sSet 3 0 [0,2] (eB ixD (eV 0) (eV 2)))
  (sSeq (sSet 4 1 [0,3,1] (eComp (iSq (eV 0)) 1 (.one 5) Mi.tYes (eIf (tB (eB eqD (eB ixD (eV 5) (eV 1)) (eC (.int 1)))) (eCall zG8 (aCons (eV 5) (aCons (eV 3) aNil))) (eV 5))))
  (sSeq (sItemS 4 (eV 2) (eV 1))
  (sSeq (sItemF 4 [3] (eV 1) (eV 3))
  (sRetV 1 4)))))
def zDH:FM:=runF 3 5 zLF
def zIV:SM:=(sRet 1 1 [1,0] (eComp (iR1 (aCons (eV 0) aNil)) 1 (.one 2) Mi.tYes (eIf (tB (eB eqD (eV 2) (eV 1))) (eC (.int 1)) (eC (.int 0)))))
def zCV:FM:=runF 2 2 zIV
def zI2:SM:=(sSeq (sSet 1 0 [0] (eBi lenD (aCons (eV 0) aNil)))
  (sSeq (sSet 2 2 [0,1] (eComp (iR1 (aCons (eV 1) aNil)) 1 (.one 5) Mi.tYes (eB addD (eB ixD (eV 0) (eV 5)) (eCall zCV (aCons (eV 1) (aCons (eV 5) aNil))))))
  (sSeq (sForR (iR1 (aCons (eV 1) aNil)) 3 (sSeq (sSet 4 1 [3,1,2] (eComp (iR2 (aCons (eV 3) (aCons (eV 1) aNil))) 1 (.one 5) (tB (eB eqD (eB ixD (eB ixD (eV 2) (eV 5)) (eV 3)) (eC (.int 1)))) (eV 5)))
  (sSeq (sIf (tNo (tL (eV 4))) (sRet 2 2 [] (eC .non)) sNil)
  (sSet 2 1 [2,3,4] (eCall zDH (aCons (eV 2) (aCons (eV 3) (aCons (eB ixD (eV 4) (eC (.int 0))) aNil))))))))
  (sRet 2 2 [2,1] (eComp (iSq (eV 2)) 1 (.one 5) Mi.tYes (eSl (eV 5) (oE (eV 1)) oNo))))))
def zDG:FM:=runF 1 5 zI2
def zI4:SM:=(sRet 0 0 [0] (eBi allD (aCons (eComp (iSq (eV 0)) 1 (.one 1) Mi.tYes (eCall zBC (aCons (eV 1) aNil))) aNil)))
def zCX:FM:=runF 1 1 zI4
def zNI:SM:=(sRet 0 0 [1,0] (eAnd (eCall zCX (aCons (eV 1) aNil)) (eB eqD (eV 1) (eComp (iR1 (aCons (eBi lenD (aCons (eV 0) aNil)) aNil)) 1 (.one 2) (tB (eB (inD false) (eV 2) (eV 1))) (eV 2)))))
def zFJ:FM:=runF 2 2 zNI
def zIW:SM:=(sRet 0 0 [0,1] (eAnd (eCall zFJ (aCons (eV 0) (aCons (eV 1) aNil))) (eB isntD (eCall zDG (aCons (eCall zBV (aCons (eV 0) (aCons (eV 1) aNil))) aNil)) (eC .non))))
def zBW:FM:=runF 2 2 zIW
def zD0:SM:=(sSeq (sSet 2 2 [1] (eComp (iR1 (aCons (eV 1) aNil)) 1 (.one 6) Mi.tYes (eComp (iR1 (aCons (eV 1) aNil)) 1 (.one 7) Mi.tYes (eC (.int 0)))))
  (sSeq (sSet 3 0 [] (eC (.int 0)))
  (sSeq (sWhile (tB (eB (cmpD fun i j=>decide (i < j)) (eV 3) (eV 1))) (sSeq (sSet 4 0 [0] (eB modD (eV 0) (eC (.int 4))))
  (sSeq (sSet 0 0 [0] (eB divD (eV 0) (eC (.int 4))))
  (sSeq (sIf (tAn (tB (eB (cmpD fun i j=>decide (j < i)) (eV 4) (eC (.int 1)))) (tB (eB (cmpD fun i j=>decide (i < j)) (eB addD (eV 3) (eC (.int 1))) (eV 1)))) (sSeq (sItem2 2 0 (eV 3) (eB addD (eV 3) (eC (.int 1))) (eC (.int 1)))
  (sSeq (sItem2 2 0 (eB addD (eV 3) (eC (.int 1))) (eV 3) (eC (.int 1)))
  (sSet 3 1 [3] (eB addD (eV 3) (eC (.int 1)))))) (sIf (tB (eB (cmpD fun i j=>decide (j < i)) (eV 4) (eC (.int 0)))) (sItem2 2 0 (eV 3) (eV 3) (eC (.int 1))) sNil))
  (sSet 3 1 [3] (eB addD (eV 3) (eC (.int 1))))))))
  (sSeq (sForR (iR1 (aCons (eC (.int 14)) aNil)) 5 (sIf (tB (eB (cmpD fun i j=>decide (j < i)) (eV 1) (eC (.int 1)))) (sSeq (sSet 2 0 [2,0,1] (eCall zBG (aCons (eV 2) (aCons (eB modD (eV 0) (eB mulD (eV 1) (eB subD (eV 1) (eC (.int 1))))) aNil))))
  (sSet 0 0 [0,1] (eB divD (eV 0) (eB mulD (eV 1) (eB subD (eV 1) (eC (.int 1))))))) sNil))
  (sRetV 0 2)))))
def zC6:FM:=runF 2 6 zD0
def zDX:SM:=(sSeq (sSet 2 0 [0,1] (eB modD (eB divD (eV 0) (eC (.int 4))) (eB addD (eV 1) (eC (.int 1)))))
  (sSeq (sSet 3 0 [0,1] (eB divD (eB divD (eV 0) (eC (.int 4))) (eB addD (eV 1) (eC (.int 1)))))
  (sSeq (sIf (tB (eB eqD (eB modD (eV 0) (eC (.int 4))) (eC (.int 3)))) (sRet 0 0 [3,2] (eCall zC6 (aCons (eV 3) (aCons (eV 2) aNil)))) sNil)
  (sSeq (sSet 4 1 [2] (eBi rangeD (aCons (eV 2) aNil)))
  (sSeq (sIf (tB (eB eqD (eB modD (eV 0) (eC (.int 4))) (eC (.int 2)))) (sForR (iR2 (aCons (eC (.int 1)) (aCons (eV 2) aNil))) 5 (sSeq (sItem 4 0 (eV 5) (eIf (tB (eB eqD (eB modD (eB divD (eV 3) (eC (.int 10))) (eC (.int 2))) (eC (.int 1)))) (eB ixD (eV 4) (eB modD (eV 3) (eV 5))) (eV 5)))
  (sSet 3 0 [3] (eB divD (eV 3) (eC (.int 20)))))) sNil)
  (sSeq (sSet 6 2 [7,8,2] (eComp (iR1 (aCons (eV 2) aNil)) 1 (.one 9) Mi.tYes (eComp (iR1 (aCons (eV 2) aNil)) 1 (.one 10) Mi.tYes (eC (.int 0)))))
  (sSeq (sForR (iR1 (aCons (eV 2) aNil)) 7 (sForR (iR1 (aCons (eB addD (eV 7) (eC (.int 1))) aNil)) 8 (sSeq (sItem2 6 0 (eV 7) (eV 8) (eB modD (eV 3) (eC (.int 2))))
  (sSeq (sItem2 6 0 (eV 8) (eV 7) (eB modD (eV 3) (eC (.int 2))))
  (sSet 3 0 [3] (eB divD (eV 3) (eC (.int 2))))))))
  (sRet 0 0 [7,8,2,6,4] (eComp (iR1 (aCons (eV 2) aNil)) 1 (.one 9) Mi.tYes (eComp (iR1 (aCons (eV 2) aNil)) 1 (.one 10) Mi.tYes (eB ixD (eB ixD (eV 6) (eB ixD (eV 4) (eV 9))) (eB ixD (eV 4) (eV 10)))))))))))))
def zCP:FM:=runF 2 9 zDX
def zCZ:SM:=(sSeq (sSet 2 0 [] (eC (.int 0)))
  (sSeq (sIf (tB (eB (cmpD fun i j=>decide (j < i)) (eBi lenD (aCons (eV 0) aNil)) (eC (.int 0)))) (sSet 2 0 [0,1] (eB ixD (eV 0) (eB modD (eV 1) (eBi lenD (aCons (eV 0) aNil))))) sNil)
  (sSeq (sSet 3 0 [2,1] (eB modD (eB mulD (eB addD (eB modD (eV 2) (eC (.int 2147483629))) (eB mulD (eC (.int 104729)) (eB addD (eV 1) (eC (.int 1))))) (eC (.int 48271))) (eC (.int 2147483647))))
  (sRet 0 0 [3] (eB modD (eB mulD (eV 3) (eC (.int 69621))) (eC (.int 2147483629)))))))
def zC5:FM:=runF 2 4 zCZ
def zDV:SM:=(sSeq (sSet 2 0 [] (eC (.int 0)))
  (sSeq (sIf (tAn (tB (eB (cmpD fun i j=>decide (j < i)) (eBi lenD (aCons (eV 0) aNil)) (eC (.int 0)))) (tB (eB eqD (eB modD (eB ixD (eV 0) (eC (.int 0))) (eC (.int 2))) (eC (.int 1))))) (sSeq (sIf (tB (eB (cmpD fun i j=>decide (i < j)) (eV 1) (eBi lenD (aCons (eV 0) aNil)))) (sSet 2 0 [0,1] (eB divD (eB modD (eB ixD (eV 0) (eV 1)) (eB mulD (eC (.int 2)) (eB powD (eC (.int 10)) (eC (.int 60))))) (eB subD (eC (.int 2)) (eBi minD (aCons (eV 1) (aCons (eC (.int 1)) aNil)))))) sNil)
  (sRetV 1 2)) sNil)
  (sSeq (sForR (iR1 (aCons (eC (.int 7)) aNil)) 3 (sSet 2 1 [2,0,3,1] (eB addD (eB mulD (eV 2) (eC (.int 2147483629))) (eCall zC5 (aCons (eV 0) (aCons (eB addD (eB mulD (eC (.int 7)) (eV 1)) (eV 3)) aNil))))))
  (sRet 1 1 [2] (eB modD (eV 2) (eB powD (eC (.int 10)) (eC (.int 60))))))))
def zAY:FM:=runF 2 4 zDV
def zGM:SM:=(sRet 1 1 [0,1,2] (eComp (iR1 (aCons (eBi lenD (aCons (eV 0) aNil)) aNil)) 1 (.one 3) (tB (eB neD (eB (inD false) (eV 3) (eV 1)) (eB (inD false) (eV 3) (eV 2)))) (eV 3)))
def zBI:FM:=runF 3 3 zGM
def zDD:SM:=(sSeq (sIf (Mi.tOr (tNo (tM (eCallN zBW (aCons (eV 0) (aCons (eV 1) aNil))))) (tNo (tM (eCallN zBW (aCons (eV 0) (aCons (eV 2) aNil)))))) (sRaise0 "NoSet" (aCons (eC (.str "one of the sets can't be undone")) aNil)) sNil)
  (sSeq (sSet 4 1 [0,1,2] (eCallN zBI (aCons (eV 0) (aCons (eV 1) (aCons (eV 2) aNil)))))
  (sSeq (sIf (tB (eB (inD true) (eV 3) (eV 4))) (sRaise0 "NoSet" (aCons (eC (.str "the number is not in just one of the sets")) aNil)) sNil)
  (sSeq (sSet 5 1 [4,0,1,3] (eComp (iSq (eV 4)) 1 (.one 6) (tM (eCallN zBW (aCons (eV 0) (aCons (eCallN zBI (aCons (eV 0) (aCons (eV 1) (aCons (eLst (aCons (eV 3) (aCons (eV 6) aNil))) aNil)))) aNil)))) (eV 6)))
  (sRet 0 0 [5] (eB ixD (eV 5) (eC (.int 0))))))))
def zAU:FM:=runF 4 6 zDD
def zD1:SM:=(sSeq (sSet 4 9 [] (eLst aNil))
  (sSeq (sSet 5 0 [] (eC .non))
  (sSeq (sTry [0,1,2,3] (some 5) (eCall zAU (aCons (eV 0) (aCons (eV 1) (aCons (eV 2) (aCons (eV 3) aNil))))) ["RoundError","NoPivot","NoSet","TooMany"] 6 (sSet 4 1 [6] (eLst (aCons (eIsX ["NoSet"] ["RoundError","NoPivot","TooMany"] (eV 6)) (aCons (eIsX ["RoundError","NoPivot","NoSet","TooMany"] [] (eV 6)) (aCons (eIsX ["TooMany"] ["RoundError","NoPivot","NoSet"] (eV 6)) (aCons (eIsX ["NoPivot"] ["RoundError","NoSet","TooMany"] (eV 6)) aNil)))))))
  (sRet 1 1 [5,4] (eTup (aCons (eV 5) (aCons (eV 4) aNil)))))))
def zAZ:FM:=runF 4 7 zD1
def zIX:SM:=(sRet 0 0 [1,0] (eB eqD (eCall zCB (aCons (eCall zBV (aCons (eV 0) (aCons (eV 1) aNil))) aNil)) (eBi lenD (aCons (eV 1) aNil))))
def zB7:FM:=runF 2 2 zIX
def zDW:SM:=(sSeq (sSet 3 9 [] (eLst aNil))
  (sSeq (sForR (iR1 (aCons (eV 2) aNil)) 4 (sSeq (sApp 3 0 (eB modD (eV 0) (eV 1)))
  (sSet 0 0 [0,1] (eB divD (eV 0) (eV 1)))))
  (sRetV 9 3)))
def zCO:FM:=runF 3 5 zDW
def zGF:SM:=(sSeq (sSet 2 9 [0,1] (eCall zCO (aCons (eB divD (eV 0) (eC (.int 8))) (aCons (eC (.int 2)) (aCons (eBi lenD (aCons (eV 1) aNil)) aNil)))))
  (sSeq (sSet 3 1 [1,2] (eComp (iR1 (aCons (eBi lenD (aCons (eV 1) aNil)) aNil)) 1 (.one 4) (tB (eB eqD (eB ixD (eV 2) (eV 4)) (eC (.int 1)))) (eV 4)))
  (sSeq (sIf (tB (eB (cmpD fun i j=>decide (j < i)) (eB modD (eV 0) (eC (.int 8))) (eC (.int 0)))) (sWhile (tNo (tM (eCall zB7 (aCons (eV 1) (aCons (eV 3) aNil))))) (sSet 3 1 [3] (eSl (eV 3) oNo (oE (eU negD (eC (.int 1))))))) sNil)
  (sRetV 1 3))))
def zDI:FM:=runF 2 4 zGF
def zEZ:SM:=(sRet 1 1 [0,1] (eBi sortD (aCons (eB addD (eComp (iSq (eV 0)) 1 (.one 2) (tB (eB (inD true) (eV 2) (eV 1))) (eV 2)) (eComp (iSq (eV 1)) 1 (.one 2) (tB (eB (inD true) (eV 2) (eV 0))) (eV 2))) aNil)))
def zBL:FM:=runF 2 2 zEZ
def zI3:SM:=(sSeq (sSet 1 0 [0] (eCall zCP (aCons (eCall zAY (aCons (eV 0) (aCons (eC (.int 0)) aNil))) (aCons (eC (.int 10)) aNil))))
  (sSeq (sIf (tB (eB eqD (eBi lenD (aCons (eV 1) aNil)) (eC (.int 0)))) (sSet 1 2 [] (eLst (aCons (eLst (aCons (eC (.int 1)) aNil)) aNil))) sNil)
  (sSeq (sSet 2 1 [1,0] (eCall zDI (aCons (eCall zAY (aCons (eV 0) (aCons (eC (.int 1)) aNil))) (aCons (eV 1) aNil))))
  (sSeq (sSet 3 1 [1,0] (eCall zDI (aCons (eCall zAY (aCons (eV 0) (aCons (eC (.int 2)) aNil))) (aCons (eV 1) aNil))))
  (sSeq (sSet 4 1 [2,3] (eCall zBL (aCons (eV 2) (aCons (eV 3) aNil))))
  (sSeq (sSet 5 1 [0] (eCall zAY (aCons (eV 0) (aCons (eC (.int 3)) aNil))))
  (sSeq (sSet 6 0 [5,1] (eB modD (eB divD (eV 5) (eC (.int 8))) (eBi lenD (aCons (eV 1) aNil))))
  (sSeq (sIf (tAn (tB (eB (cmpD fun i j=>decide (j < i)) (eBi lenD (aCons (eV 4) aNil)) (eC (.int 0)))) (tB (eB (cmpD fun i j=>decide (j < i)) (eB modD (eV 5) (eC (.int 8))) (eC (.int 0))))) (sSet 6 0 [4,5] (eB ixD (eV 4) (eB modD (eB divD (eV 5) (eC (.int 8))) (eBi lenD (aCons (eV 4) aNil))))) sNil)
  (sSeq (sSet 7 2 [2,3] (eLst (aCons (eBi listD (aCons (eV 2) aNil)) (aCons (eBi listD (aCons (eV 3) aNil)) aNil))))
  (sSeq (sUnp [8,9] [6,1,7] (eCall zAZ (aCons (eCall zCC (aCons (eV 1) aNil)) (aCons (eB ixD (eV 7) (eC (.int 0))) (aCons (eB ixD (eV 7) (eC (.int 1))) (aCons (eV 6) aNil))))))
  (sSeq (sIf (tB (eB neD (eV 7) (eLst (aCons (eV 2) (aCons (eV 3) aNil))))) (sRet 0 0 [] (eC (.bl false))) sNil)
  (sSeq (sIf (Mi.tOr (tNo (tM (eCall zB7 (aCons (eV 1) (aCons (eV 2) aNil))))) (Mi.tOr (tNo (tM (eCall zB7 (aCons (eV 1) (aCons (eV 3) aNil))))) (tB (eB (inD true) (eV 6) (eV 4))))) (sRet 0 0 [9] (eB eqD (eV 9) (eLst (aCons (eC (.bl true)) (aCons (eC (.bl true)) (aCons (eC (.bl false)) (aCons (eC (.bl false)) aNil))))))) sNil)
  (sSeq (sIf (Mi.tOr (tB (eB neD (eV 9) (eLst aNil))) (Mi.tOr (tNo (tM (eCall zBC (aCons (eV 8) aNil)))) (tB (eB (inD true) (eV 8) (eV 4))))) (sRet 0 0 [] (eC (.bl false))) sNil)
  (sRet 0 0 [1,2,6,8] (eCall zB7 (aCons (eV 1) (aCons (eCall zBL (aCons (eV 2) (aCons (eBi soiD (aCons (eLst (aCons (eV 6) (aCons (eV 8) aNil))) aNil)) aNil))) aNil)))))))))))))))))
def zHJ:FM:=runF 1 10 zI3
end
end Mp

namespace Mp
open Mi PySem
theorem zGK (i:Int):zBC [.int i] = okR (.bl true):=by
  unfold zBC zGN
  simp [isiD,tyD]
end Mp

namespace Mp
open Mi PySem
end Mp

namespace Mi
open PySem
section
variable (ρ:Rh) (r:Ro) (a:EM) (am:AM)
@[simp] theorem x_tL:tL a ρ = zA3 (a ρ) fun x=>match x with | .bl k=>okR k | .int i=>okR (i != 0) | .non=>okR false | .lst xs=>okR (!xs.isEmpty) | .tup xs=>okR (!xs.isEmpty) | _=>none:=rfl
@[simp] theorem x_eMl (f:List Dt→List Dt→Option Dt):eMl f a am ρ = zA3 (a ρ) fun x=>match x with | .lst xs=>zA3 (am ρ) fun ds=>optR (f xs ds) | _=>none:=rfl
@[simp] theorem x_iRv:iRv am ρ = zA3 (am ρ) fun vs=>match vs with | [.lst xs]=>okR xs.reverse | _=>none:=rfl
@[simp] theorem v_xor (i j:Int):xorD (.int i) (.int j) = some (.int (Builtin.bitXor i j)):=rfl
@[simp] theorem v_rep (xs:List Dt) (k:Int):repD (.lst xs) (.int k) = @ite _ ((-4611686018427387904≤k∧k < 4611686018427387904)∧xs.length * k.toNat≤100000) (Classical.propDecidable _) (some (.lst (List.replicate k.toNat xs).flatten)) none:=rfl
end
end Mi

namespace Mi
open PySem
@[simp] theorem zUE {α:Type} {a b:α}:okR a = okR b ↔ a = b:=⟨fun h=>by cases h; rfl,fun h=>by rw [h]⟩
@[simp] theorem x_sFor (vs:List Nat) (it:IM) (tg:Tg) (b:SM) (r:Ro):sFor vs it tg b r = zA3 (it (frz (frzAt vs r))) fun ds=>forGo tg b ds (frzAt vs r):=rfl
@[simp] theorem zE2 (it:IM) (i:Nat) (b:SM) (r:Ro):sForR it i b r = zA3 (it (full r)) fun ds=>forGo (.one i) b ds r:=rfl
@[simp] theorem x_iSq (e:EM) (ρ:Rh):iSq e ρ = zA3 (e ρ) fun d=>match d with | .lst xs=>okR xs | .tup xs=>okR xs | .scr ns=>okR (ns.map .int) | .str z=>okR (signsD z) | _=>none:=rfl
@[simp] theorem x_iEn (e:AM) (ρ:Rh):iEn e ρ = zA3 (e ρ) fun vs=>match vs with | [.lst xs]=>okR (enumD 0 xs) | _=>none:=rfl
@[simp] theorem x_iZi (e:AM) (ρ:Rh):iZi e ρ = zA3 (e ρ) fun vs=>match vs with | [.lst xs,.lst ys]=>okR (zipD xs ys) | _=>none:=rfl
theorem zDL {e:AM} {ρ:Rh} {n:Nat} (h:e ρ = okR [.int n]) (hn:n≤100000):iR1 e ρ = okR (nums 0 n):=by
  unfold iR1
  rw [h,zA0]
  dsimp only
  rw [if_pos (by omega)]
  simp
theorem zD7 (n:Nat):nums 0 n = (List.range n).map fun i:Nat=>Dt.int (i:Int):=by
  unfold nums
  exact List.map_congr_left fun i _=>by simp
def nxR (x:R Out) (P:Ro→Prop):Prop:=match x with
  | some (.ok (.nx r))=>P r
  | _=>False
@[simp] theorem x_nxR (r:Ro) (P:Ro→Prop):nxR (okR (.nx r)) P = P r:=rfl
theorem zF9 {x:R Out} {P:Ro→Prop} (h:nxR x P):∃ r',x = okR (.nx r')∧P r':=by
  unfold nxR at h
  split at h
  · exact ⟨_,rfl,h⟩
  · exact h.elim
theorem zB5 {x:R Out} {P:Ro→Prop} {r:Ro} (h:x = okR (.nx r)) (hp:P r):nxR x P:=by rw [h]; exact hp
theorem zY0 {i n:Nat} {e:EM} {r:Ro} {ds:List Dt} {k:Nat} {d:Dt} (h:r[i]? = some (some (.lst ds,k + 1))) (he:e (full r) = okR d) (h1:ds.length≤100000) (h2:d.dep≤n) (h3:d.dep≤k):sApp i n e r = okR (.nx (r.set i (some (.lst (ds ++ [d]),k + 1)))):=by
  unfold sApp
  rw [h]
  dsimp only
  rw [he,zA0,if_pos ⟨h1,h2,h3⟩]
theorem zRO {i j:Int} (h:-18446744073709551616 < i) (h':i < 18446744073709551616):mulD (.int i) (.int j) = some (.int (i * j)):=by
  rw [zTI,if_pos (.inl (.inl ⟨h,h'⟩))]
theorem zUI {i j:Int} (h:-18446744073709551616 < j) (h':j < 18446744073709551616):mulD (.int i) (.int j) = some (.int (i * j)):=by
  rw [zTI,if_pos (.inl (.inr ⟨h,h'⟩))]
theorem zDK {ρ:Rh} {c:TM} {e:EM} {i:Nat} (g:Nat→Dt) (n:Nat) (hc:c = tYes) (hi:i = ρ.length) (h:∀ k,k < n→e (ρ ++ [some (.int (k:Nat))]) = okR (g k)) (it:IM) (hit:it ρ = okR (nums 0 n)) (hn:n≤100000):eComp it 1 (.one i) c e ρ = okR (.lst ((List.range n).map g)):=by
  subst hc hi
  unfold eComp
  rw [hit,zA0,if_pos ⟨by simpa [nums] using hn,by simp [Tg.idx]⟩]
  rw [zNG (fun d=>match d with | .int k=>g k.toNat | _=>.non) _ [] fun d hd=>?_]
  · rw [zA0,zD7,List.map_map]
    simp only [List.nil_append]
    congr 2
  · rw [zD7] at hd
    obtain ⟨k,hk,rfl⟩:=List.mem_map.mp hd
    refine ⟨_,rfl,rfl,?_⟩
    have:zB0 (ρ ++ List.replicate 1 none) [(ρ.length,Dt.int (k:Int))] = ρ ++ [some (.int (k:Nat))]:=by
      simp [zB0]
    rw [this]
    simpa using h k (by simpa using hk)
theorem zC3 {ρ:Rh} {c:TM} {e:EM} {i:Nat} {β:Type} (en:β→Dt) (g:β→Dt) (ns:List β) (hc:c = tYes) (hi:i = ρ.length) (h:∀ k,k∈ns→e (ρ ++ [some (en k)]) = okR (g k)) (it:IM) (hit:it ρ = okR (ns.map en)) (hn:ns.length≤100000):eComp it 1 (.one i) c e ρ = okR (.lst (ns.map g)):=by
  subst hc hi
  unfold eComp
  rw [hit,zA0,if_pos ⟨by simpa using hn,by simp [Tg.idx]⟩]
  have:∀ (ns:List β) (acc:List Dt),(∀ k,k∈ns→e (ρ ++ [some (en k)]) = okR (g k))→compGo ρ 1 (.one ρ.length) tYes e (ns.map en) acc = okR (acc ++ ns.map g):=by
    intro ns
    induction ns with
    | nil=>intro acc _; simp [compGo]
    | cons d r ih =>
      intro acc h
      rw [List.map_cons,compGo]
      have e1:zB0 (ρ ++ List.replicate 1 none) [(ρ.length,en d)] = ρ ++ [some (en d)]:=by simp [zB0]
      show zA3 (tYes _) _ = _
      simp only [zVD,zA0,if_true]
      show zA3 (e (zB0 (ρ ++ List.replicate 1 none) [(ρ.length,en d)])) _ = _
      rw [e1,h d (by simp),zA0,ih _ fun k hk=>h k (by simp [hk])]
      simp
  rw [this ns [] h,zA0]
  simp
end Mi
namespace Mi
open PySem
theorem zBR {a b:SM} {r:Ro} {X:R Out} (h:∀ bb:SM,bb = b→nxR (a r) fun r1=>bb r1 = X):sSeq a b r = X:=by
  obtain ⟨r1,h1,h2⟩:=zF9 (h b rfl)
  unfold sSeq
  rw [h1,zA0]
  exact h2
theorem zDF {a b:SM} {r:Ro} {P:Ro→Prop} (h:∀ bb:SM,bb = b→nxR (a r) fun r1=>nxR (bb r1) P):nxR (sSeq a b r) P:=by
  obtain ⟨r1,h1,h2⟩:=zF9 (h b rfl)
  unfold sSeq
  rw [h1,zA0]
  exact h2
theorem zVR {a b:SM} {r:Ro} {d:Dt} (h:a r = okR (.rt d)):sSeq a b r = okR (.rt d):=by
  unfold sSeq
  rw [h,zA0]
theorem zD5 {P n:Nat} {b:SM} {ds:List Dt} {d:Dt} (h:ds.length = P) (hb:b (startO n ds) = okR (.rt d)):runF P n b ds = okR d:=by
  unfold runF
  rw [if_pos h,hb]; rfl
theorem zVW {P n:Nat} {b:SM} {ds:List Dt} {x:Xn} (h:ds.length = P) (hb:b (startO n ds) = some (.error x)):runF P n b ds = some (.error x):=by
  unfold runF
  rw [if_pos h,hb]; rfl
theorem zNZ {j n:Nat} {b:SM} {r:Ro} {X:Ro→Prop} (Pv:Nat→Ro→Prop) (h:Pv 0 r) (hs:∀ k,k < n→∀ r,Pv k r→nxR (b (r.set j (some (.int (k:Nat),0)))) (Pv (k + 1))) (hK:∀ r',Pv n r'→X r'):nxR (forGo (.one j) b (nums 0 n) r) X:=by
  obtain ⟨r',h1,h2⟩:∃ r',forGo (.one j) b (nums 0 n) r = okR (.nx r')∧Pv n r':=by
    obtain ⟨r',h1,h2⟩:=zM8 (tg:=.one j) (b:=b) Pv (nums 0 n) 0 r h fun k d r hd hp=>by
      rw [zD7,List.getElem?_map] at hd
      cases e:(List.range n)[k]? with
      | none=>rw [e] at hd; cases hd
      | some q =>
        rw [e] at hd
        cases hd
        obtain ⟨h1,h2⟩:=List.getElem?_eq_some_iff.mp e
        rw [List.getElem_range] at h2
        subst h2
        rw [Nat.zero_add] at hp
        obtain ⟨r',g1,g2⟩:=zF9 (hs k (by simpa using h1) r hp)
        exact ⟨_,r',rfl,g1,by rw [Nat.zero_add]; exact g2⟩
    exact ⟨r',h1,by simpa [nums] using h2⟩
  rw [h1]
  exact hK r' h2
theorem zUG {γ:Type} {j:Nat} {b:SM} {r:Ro} {X:Ro→Prop} (en:γ→Dt) (ns:List γ) (Pv:Nat→Ro→Prop) (h:Pv 0 r) (hs:∀ k x,ns[k]? = some x→∀ r,Pv k r→nxR (b (r.set j (some (en x,0)))) (Pv (k + 1))) (hK:∀ r',Pv ns.length r'→X r'):nxR (forGo (.one j) b (ns.map en) r) X:=by
  obtain ⟨r',h1,h2⟩:=zM8 (tg:=.one j) (b:=b) Pv (ns.map en) 0 r h fun k d r hd hp=>by
    rw [List.getElem?_map] at hd
    cases e:ns[k]? with
    | none=>rw [e] at hd; cases hd
    | some q =>
      rw [e] at hd
      cases hd
      rw [Nat.zero_add] at hp
      obtain ⟨r',g1,g2⟩:=zF9 (hs k q e r hp)
      exact ⟨_,r',rfl,g1,by rw [Nat.zero_add]; exact g2⟩
  rw [h1]
  exact hK r' (by simpa using h2)
theorem zN1 {c:TM} {b:SM} {r:Ro} {X:Ro→Prop} (Pv:Ro→Prop) (μ:Ro→Nat) (Rv:Ro→Prop) (h0:Pv r) (hm:μ r < 1000000) (hc:∀ r,Pv r→(c (full r) = okR false∧Rv r)∨(c (full r) = okR true∧nxR (b r) fun r'=>Pv r'∧μ r' < μ r)) (hK:∀ r',Rv r'→X r'):nxR (sWhile c b r) X:=by
  obtain ⟨r',h1,h2⟩:=zNR Pv μ Rv h0 hm fun r hr=>(hc r hr).imp (fun z=>z) fun z=>⟨z.1,zF9 z.2⟩
  rw [h1]
  exact hK r' h2
end Mi
namespace Mi
open PySem
theorem zKR:∀ (a b:List Char),a.map Char.toNat = b.map Char.toNat→a = b
  | [],[],_=>rfl
  | [],_ :: _,h=>by simp at h
  | _ :: _,[],h=>by simp at h
  | x :: r,y :: q,h=>by
    simp only [List.map_cons,List.cons.injEq] at h
    rw [zKR r q h.2]
    have:x = y:=Char.toNat_inj.mp h.1
    rw [this]
@[simp] theorem str_inj (a b:String):(Str.ofString a = Str.ofString b) ↔ a = b:=by
  constructor
  · intro h
    rw [Str.ofString_eq_toList,Str.ofString_eq_toList] at h
    simp only [Str.mk.injEq,List.toArray_inj] at h
    have:=zKR _ _ (by simpa using h)
    exact String.toList_inj.mp this
  · intro h; rw [h]
end Mi
namespace Mi
open PySem
theorem zN7:∀ (ds:List Dt) (n:Nat),(enumD n ds).length = ds.length
  | [],_=>rfl
  | _ :: r,n=>by rw [enumD,List.length_cons,List.length_cons,zN7 r]
end Mi

namespace Mi
open PySem
section
variable (ρ:Rh) (a:EM) (am:AM) (lo hi:OM)
@[simp] theorem zXZ:eSl a lo hi ρ = zA3 (a ρ) fun x=>zA3 (lo ρ) fun l=>zA3 (hi ρ) fun h=>optR (slD x l h):=rfl
@[simp] theorem zXY:oNo ρ = okR none:=rfl
@[simp] theorem x_oE:oE a ρ = zA3 (a ρ) fun d=>match d with | .int i=>okR (some i) | _=>none:=rfl
@[simp] theorem x_eMt (f:Dt→List Dt→Option Dt):eMt f a am ρ = zA3 (a ρ) fun x=>if zPW x = true then zA3 (am ρ) fun xs=>optR (f x xs) else none:=rfl
@[simp] theorem v_isStr (z:Str):zPW (.str z) = true:=rfl
end
@[simp] theorem v_slL (xs:List Dt) (l h:Option Int):slD (.lst xs) l h = some (.lst (cutA xs l h)):=rfl
@[simp] theorem v_slS (z:Str) (l h:Option Int):slD (.str z) l h = @ite _ (z.length≤100000) (Classical.propDecidable _) (some (.str ⟨(cutA z.cps.toList l h).toArray⟩)) none:=rfl
@[simp] theorem v_ixSt (z:Str) (i:Int):ixD (.str z) (.int i) = @ite _ (z.length≤100000) (Classical.propDecidable _) ((itA z.cps.toList i).map fun c=>.str ⟨#[c]⟩) none:=rfl
@[simp] theorem v_lenSt (z:Str):lenD [.str z] = @ite _ (z.length≤100000) (Classical.propDecidable _) (some (.int z.length)) none:=rfl
@[simp] theorem v_count1 (z:Str) (c:Nat):zXO (.str z) [.str ⟨#[c]⟩] = some (.int (z.cps.toList.count c:Nat)):=rfl
@[simp] theorem v_in1 (ng:Bool) (z:Str) (c:Nat):inD ng (.str ⟨#[c]⟩) (.str z) = some (.bl (if ng = true then !decide (c∈z.cps.toList) else decide (c∈z.cps.toList))):=rfl
@[simp] theorem v_find1 (z:Str) (c:Nat):zYO (.str z) [.str ⟨#[c]⟩] = some (.int (match posC c z.cps.toList with | some i=>(i:Int) | none=>-1)):=rfl
theorem zND {α:Type} (xs:List α) (k:Nat):cutA xs (some (k:Int)) none = xs.drop k:=by
  unfold cutA cutIx
  dsimp only
  rw [if_neg (by omega)]
  by_cases h:k≤xs.length
  · rw [show min (k:Int).toNat xs.length = k by omega]
    exact List.take_of_length_le (by simp)
  · rw [show min (k:Int).toNat xs.length = xs.length by omega]
    simp
    omega
end Mi
namespace Mi
open PySem
end Mi

namespace Mp
open Mi PySem
theorem sg {i n:Nat} {vs:List Nat} {e:EM} {b:SM} {r:Ro} {d:Dt} {X:R Out} (he:e (full r) = okR d) (hd:d.dep≤n) (h:b (r.set i (some (d,n))) = X):sSeq (sSet i n vs e) b r = X:=by
  rw [zIH,zFD,he,zA0,if_pos hd,zA0]; exact h
theorem sgf {i n:Nat} {vs:List Nat} {e:EM} {b:SM} {r:Ro} {d:Dt} {X:R Out} (he:e (full r) = okR d) (hd:¬ d.dep≤n) (he2:e (frz (frzAt vs r)) = okR d) (h:b ((frzAt vs r).set i (some (d,n))) = X):sSeq (sSet i n vs e) b r = X:=by
  rw [zIH,zFD,he,zA0,if_neg hd,he2,zA0,zA0]; exact h
theorem sp {c:TM} {a b:SM} {r:Ro} {X:R Out} (hc:c (full r) = okR false) (h:b r = X):sSeq (sIf c a sNil) b r = X:=by
  rw [zIH,zET,hc,zA0,if_neg (by simp),zVG,zA0]; exact h
theorem st {c:TM} {a b:SM} {r r':Ro} {X:R Out} (hc:c (full r) = okR true) (ha:a r = okR (.nx r')) (h:b r' = X):sSeq (sIf c a sNil) b r = X:=by
  rw [zIH,zET,hc,zA0,if_pos rfl,ha,zA0]; exact h
theorem su {is vs:List Nat} {e:EM} {b:SM} {r:Ro} {ds:List Dt} {X:R Out} (he:e (frz (frzAt vs r)) = okR (.tup ds)) (hl:ds.length = is.length) (h:b (zBB (frzAt vs r) (is.zip ds)) = X):sSeq (sUnp is vs e) b r = X:=by
  rw [zIH]
  unfold sUnp
  rw [he,zA0,zB3,if_pos hl]
  exact h
theorem c2 {m:FM} {e1 e2:EM} {ρ:Rh} {d1 d2:Dt} {X:R Dt} (h1:e1 ρ = okR d1) (h2:e2 ρ = okR d2) (h:m [d1,d2] = X):eCall m (aCons e1 (aCons e2 aNil)) ρ = X:=by
  simp only [zGX,zF1,zGY,h1,h2,zA0]; exact h
theorem c1 {m:FM} {e1:EM} {ρ:Rh} {d1:Dt} {X:R Dt} (h1:e1 ρ = okR d1) (h:m [d1] = X):eCall m (aCons e1 aNil) ρ = X:=by
  simp only [zGX,zF1,zGY,h1,zA0]; exact h
theorem c4 {m:FM} {e1 e2 e3 e4:EM} {ρ:Rh} {d1 d2 d3 d4:Dt} {X:R Dt} (h1:e1 ρ = okR d1) (h2:e2 ρ = okR d2) (h3:e3 ρ = okR d3) (h4:e4 ρ = okR d4) (h:m [d1,d2,d3,d4] = X):eCall m (aCons e1 (aCons e2 (aCons e3 (aCons e4 aNil)))) ρ = X:=by
  simp only [zGX,zF1,zGY,h1,h2,h3,h4,zA0]; exact h
theorem b2 {o:Dt→Dt→Option Dt} {e1 e2:EM} {ρ:Rh} {d1 d2 d:Dt} (h1:e1 ρ = okR d1) (h2:e2 ρ = okR d2) (h:o d1 d2 = some d):eB o e1 e2 ρ = okR d:=by
  rw [x_eB,h1,zA0,h2,zA0,h]; rfl
theorem bi1 {o:List Dt→Option Dt} {e1:EM} {ρ:Rh} {d1 d:Dt} (h1:e1 ρ = okR d1) (h:o [d1] = some d):eBi o (aCons e1 aNil) ρ = okR d:=by
  simp only [zVH,zF1,zGY,h1,zA0,h]; rfl
theorem el2 {e1 e2:EM} {ρ:Rh} {d1 d2:Dt} (h1:e1 ρ = okR d1) (h2:e2 ρ = okR d2):eLst (aCons e1 (aCons e2 aNil)) ρ = okR (.lst [d1,d2]):=by simp [h1,h2]
theorem el1 {e1:EM} {ρ:Rh} {d1:Dt} (h1:e1 ρ = okR d1):eLst (aCons e1 aNil) ρ = okR (.lst [d1]):=by simp [h1]
theorem tb1 {e:EM} {ρ:Rh} {k:Bool} (h:e ρ = okR (.bl k)):tB e ρ = okR k:=by rw [x_tB,h,zA0]
theorem tm1 {e:EM} {ρ:Rh} {k:Bool} (h:e ρ = okR (.bl k)):tM e ρ = okR k:=by rw [x_tM,h,zA0]
theorem tn1 {t:TM} {ρ:Rh} {k:Bool} (h:t ρ = okR k):tNo t ρ = okR (!k):=by rw [zXX,h,zA0]
theorem to0 {t t':TM} {ρ:Rh} {k:Bool} (h:t ρ = okR false) (h':t' ρ = okR k):Mi.tOr t t' ρ = okR k:=by rw [zVE,h,zA0,if_neg (by simp),h']
theorem to1 {t t':TM} {ρ:Rh} (h:t ρ = okR true):Mi.tOr t t' ρ = okR true:=by rw [zVE,h,zA0,if_pos rfl]
theorem ta1 {t t':TM} {ρ:Rh} {k:Bool} (h:t ρ = okR true) (h':t' ρ = okR k):tAn t t' ρ = okR k:=by rw [zVF,h,zA0,if_pos rfl,h']
theorem ta0 {t t':TM} {ρ:Rh} (h:t ρ = okR false):tAn t t' ρ = okR false:=by rw [zVF,h,zA0,if_neg (by simp)]
theorem ss {i n:Nat} {vs:List Nat} {e:EM} {r:Ro} {d:Dt} (he:e (full r) = okR d) (hd:d.dep≤n):sSet i n vs e r = okR (.nx (r.set i (some (d,n)))):=by
  rw [zFD,he,zA0,if_pos hd]
theorem sr {L n:Nat} {vs:List Nat} {e:EM} {r:Ro} {d:Dt} (he:e (full r) = okR d) (hd:d.dep≤n∧d.dep≤L):sRet L n vs e r = okR (.rt d):=by
  rw [zSO,he,zA0,if_pos hd]
theorem tl {k k':Bool} {x:Option Dt} (h:x = some (.bl k)) (e:k = k'):x = some (.bl k'):=e ▸ h
theorem bi2 {o:List Dt→Option Dt} {e1 e2:EM} {ρ:Rh} {d1 d2 d:Dt} (h1:e1 ρ = okR d1) (h2:e2 ρ = okR d2) (h:o [d1,d2] = some d):eBi o (aCons e1 (aCons e2 aNil)) ρ = okR d:=by
  simp only [zVH,zF1,zGY,h1,h2,zA0,h]; rfl
end Mp

namespace Mp
open Mi PySem
noncomputable def rowD (r:List Int):Dt:=.lst (r.map .int)
def mat (A:List (List Int)):Dt:=.lst (A.map rowD)
noncomputable def tab (n:Nat) (f:Nat→Nat→Int):List (List Int):=(List.range n).map fun i=>(List.range n).map fun j=>f i j
def Bits (n:Nat) (f:Nat→Nat→Int):Prop:=∀ i j,i < n→j < n→f i j = 0∨f i j = 1
def Sym (n:Nat) (f:Nat→Nat→Int):Prop:=∀ i j,i < n→j < n→f i j = f j i
@[simp] theorem zV0 (r:List Int):(rowD r).dep = 1:=by simp [rowD]
theorem ixR {n:Nat} {g:Nat→Int} {j:Nat} (h:j < n):ixD (rowD ((List.range n).map g)) (.int (j:Int)) = some (.int (g j)):=by
  refine zEE rfl ?_
  simp [h]
@[simp] theorem lenR (r:List Int):lenD [rowD r] = some (.int r.length):=by
  show some (Dt.int ((r.map Dt.int).length:Int)) = _
  rw [List.length_map]
@[simp] theorem listR (r:List Int):listD [rowD r] = some (rowD r):=rfl
@[simp] theorem lenM (A:List (List Int)):lenD [mat A] = some (.int A.length):=by
  show some (Dt.int ((A.map rowD).length:Int)) = _
  rw [List.length_map]
theorem zHV:∀ A:List (List Int),Dt.depL (A.map rowD)≤1
  | []=>by simp
  | r :: A=>by
    have:=zHV A
    rw [List.map_cons,zH0,zV0]
    omega
theorem zDT (A:List (List Int)):(mat A).dep≤2:=by
  have:=zHV A
  unfold mat
  rw [v_dl]
  omega
theorem zN6:∀ A B:List (List Int),Dt.eqL (A.map rowD) (B.map rowD) = decide (A = B)
  | [],[]=>by simp [Dt.eqL]
  | [],_ :: _=>by simp [Dt.eqL]
  | _ :: _,[]=>by simp [Dt.eqL]
  | r :: A,q :: B=>by
    rw [List.map_cons,List.map_cons,Dt.eqL,zN6 A B]
    unfold rowD
    rw [v_e4,zFQ]
    simp
theorem zXD (A B:List (List Int)):Dt.eq (mat A) (mat B) = decide (A = B):=by
  unfold mat
  rw [v_e4,zN6]
theorem zC4 (n:Nat) (f:Nat→Nat→Int):(tab n f).length = n:=by simp [tab]
theorem zF2 {n:Nat} {f:Nat→Nat→Int} {i:Nat} (h:i < n):(tab n f)[i]? = some ((List.range n).map fun j=>f i j):=by
  simp [tab,h]
theorem zX0 {n:Nat} {f:Nat→Nat→Int} {i:Nat} (h:i < n):itA ((tab n f).map rowD) (i:Int) = some (rowD ((List.range n).map fun j=>f i j)):=by
  refine zEE rfl ?_
  rw [List.getElem?_map,zF2 h]
  rfl
theorem ixM {n:Nat} {f:Nat→Nat→Int} {i:Nat} (h:i < n):ixD (mat (tab n f)) (.int (i:Int)) = some (rowD ((List.range n).map fun j=>f i j)):=zX0 h
theorem zXC (a b:List Int):Dt.eq (rowD a) (rowD b) = decide (a = b):=by
  unfold rowD
  rw [v_e4,zFQ]
theorem zNF {ρ:Rh} {e:EM} {it:IM} {i n:Nat} (g:Nat→Int) (hi:i = ρ.length) (hn:n≤1000) (h1:it ρ = okR (nums 0 n)) (h:∀ a,a < n→e (ρ ++ [some (.int (a:Nat))]) = okR (.int (g a))):eComp it 1 (.one i) tYes e ρ = okR (rowD ((List.range n).map g)):=by
  rw [zDK (fun b=>.int (g b)) n rfl hi (fun b hb=>h b hb) it h1 (by omega)]
  unfold rowD
  rw [List.map_map]
  rfl
theorem zJU {ρ:Rh} {e:EM} {it it2:IM} {i j n:Nat} (f:Nat→Nat→Int) (hi:i = ρ.length) (hj:j = ρ.length + 1) (hn:n≤1000) (h1:it ρ = okR (nums 0 n)) (h2:∀ a,it2 (ρ ++ [some (.int (a:Nat))]) = okR (nums 0 n))
    (h:∀ a b,a < n→b < n→e (ρ ++ [some (.int (a:Nat))] ++ [some (.int (b:Nat))]) = okR (.int (f a b))):eComp it 1 (.one i) tYes (eComp it2 1 (.one j) tYes e) ρ = okR (mat (tab n f)):=by
  rw [zDK (fun a=>rowD ((List.range n).map fun b=>f a b)) n rfl hi (fun a ha=>?_) it h1 (by omega)]
  · unfold mat tab
    rw [List.map_map]
    rfl
  · rw [zDK (fun b=>.int (f a b)) n rfl (by rw [hj]; simp) (fun b hb=>h a b ha hb) it2 (h2 a) (by omega)]
    unfold rowD
    rw [List.map_map]
    rfl
theorem zSE (A:List (List Int)) (h:A.length≤1000):zCC [mat A] = okR (mat A):=by
  unfold zCC zI6
  have hd:=zHV A
  have hc:eComp (iSq (eV 0)) 1 (.one 1) Mi.tYes (eBi listD (aCons (eV 1) aNil)) [some (mat A)] = okR (mat A) :=
    zC3 rowD rowD A rfl rfl (fun r _=>by simp [rowD]) _ (by simp [mat]) (by omega)
  have hm:(mat A).dep≤2:=zDT A
  simp [hc,hm]
theorem zED {r:Ro} {i m n:Nat} {l:Nat} {f:Nat→Nat→Int} {a b:Nat} {v:Int} {e0 e1 e2:EM} (h:r[i]? = some (some (mat (tab n f),l + 2))) (h0:e0 (full r) = okR (.int (a:Nat))) (h1:e1 (full r) = okR (.int (b:Nat))) (h2:e2 (full r) = okR (.int v)) (ha:a < n) (hb:b < n) :
    sItem2 i m e0 e1 e2 r = okR (.nx (r.set i (some (mat (tab n fun x y=>if x = a∧y = b then v else f x y),l + 2)))):=by
  have g1:((tab n f).map rowD)[a]? = some (.lst (((List.range n).map fun j=>f a j).map .int)):=by
    rw [List.getElem?_map,zF2 ha]; rfl
  unfold sItem2
  rw [h2,zA0,h]
  show zA3 (e0 (full r)) _ = _
  rw [h0,zA0]
  dsimp only
  rw [zIN (by omega) (by simp [tab]; omega)]
  dsimp only
  rw [Int.toNat_natCast,g1]
  dsimp only
  rw [h1,zA0]
  dsimp only
  rw [zIN (by omega) (by simp; omega)]
  dsimp only
  rw [if_pos ⟨Nat.zero_le _,Nat.zero_le _⟩,Int.toNat_natCast]
  congr 5
  unfold mat
  congr 1
  apply List.ext_getElem?
  intro x
  rw [List.getElem?_set]
  by_cases hx:a = x
  · subst hx
    rw [if_pos rfl,if_pos (by simp [tab]; omega),List.getElem?_map,zF2 ha]
    show some _ = some _
    congr 1
    unfold rowD
    congr 1
    apply List.ext_getElem?
    intro y
    rw [List.getElem?_set]
    by_cases hy:b = y
    · subst hy
      simp [hb]
    · rw [if_neg hy]
      by_cases hyn:y < n
      · simp [hyn,show ¬ y = b from fun z=>hy z.symm]
      · simp [hyn]
  · rw [if_neg hx,List.getElem?_map,List.getElem?_map]
    by_cases hxn:x < n
    · rw [zF2 hxn,zF2 hxn]
      simp [show ¬ x = a from fun z=>hx z.symm]
    · have:(tab n f)[x]? = none:=by simp [tab]; omega
      have h':(tab n fun x y=>if x = a∧y = b then v else f x y)[x]? = none:=by simp [tab]; omega
      rw [this,h']
end Mp

namespace Mp
open Mi PySem
end Mp

namespace Mp
open Mi PySem
end Mp

namespace Mp
open Mi PySem
theorem zYN {ds:List Dt} (h:∀ d∈ds,d.dep = 0):Dt.depL ds = 0:=by
  induction ds with
  | nil=>simp
  | cons a r ih=>rw [zH0,h a (by simp),ih fun d hd=>h d (by simp [hd])]; rfl
end Mp

namespace Mp
open Mi PySem
noncomputable def sgn (c:Nat):Dt:=.str ⟨#[c]⟩
theorem zS3 (cs:List Nat):∀ d∈cs.map sgn,d.dep = 0:=by
  intro d hd
  obtain ⟨c,_,rfl⟩:=List.mem_map.mp hd
  rfl
@[simp] theorem depL_sgn (cs:List Nat):Dt.depL (cs.map sgn) = 0:=zYN (zS3 cs)
end Mp

namespace Mp
open Mi PySem
def Bit (x:Int):Prop:=x = 0∨x = 1
def RowN (n:Nat) (r:List Int):Prop:=r.length = n∧∀ x∈r,Bit x
theorem zSC (A:List (List Int)) (l h:Option Int):cutA (A.map rowD) l h = (cutA A l h).map rowD:=by
  unfold cutA
  simp
theorem zQB (r:List Int) (l h:Option Int):slD (rowD r) l h = some (rowD (cutA r l h)):=by
  show some (Dt.lst (cutA (r.map Dt.int) l h)) = _
  unfold cutA rowD
  simp
theorem zV4 (A:List (List Int)) (l h:Option Int):slD (mat A) l h = some (mat (cutA A l h)):=by
  show some (Dt.lst (cutA (A.map rowD) l h)) = _
  rw [zSC]; rfl
theorem zMP {n:Nat} {f:Nat→Nat→Int} (hb:Bits n f):∀ r∈tab n f,r.length = n∧∀ x∈r,Bit x:=by
  intro r hr
  unfold tab at hr
  obtain ⟨i,hi,rfl⟩:=List.mem_map.mp hr
  refine ⟨by simp,fun x hx=>?_⟩
  obtain ⟨j,hj,rfl⟩:=List.mem_map.mp hx
  exact hb i j (by simpa using hi) (by simpa using hj)
theorem zIF (r:List Int) (i:Nat) (h:i < r.length):ixD (rowD r) (.int (i:Int)) = some (.int (r.getD i 0)):=by
  have:=zRW (ns:=r) (i:=(i:Int)) (by omega) (by omega)
  rw [Int.toNat_natCast] at this
  exact this
theorem zPR (A:List (List Int)) (i:Nat) (h:i < A.length):ixD (mat A) (.int (i:Int)) = some (rowD (A.getD i [])):=by
  refine zEE rfl ?_
  rw [List.getElem?_map,List.getElem?_eq_getElem h,List.getD_eq_getElem?_getD,List.getElem?_eq_getElem h]
  rfl
theorem addR (a b:List Int) (h:a.length + b.length≤100000):addD (rowD a) (rowD b) = some (rowD (a ++ b)):=by
  show (@ite _ ((a.map Dt.int).length + (b.map Dt.int).length≤100000) (Classical.propDecidable _) (some (Dt.lst (a.map Dt.int ++ b.map Dt.int))) none) = _
  rw [if_pos (by simpa using h)]
  unfold rowD
  simp
theorem zTD {a b:Int} (ha:Bit a) (hb:Bit b):Builtin.bitXor a b = (a + b) % 2:=by
  rcases ha with rfl | rfl <;> rcases hb with rfl | rfl <;> decide
theorem zFK (n:Nat) (g h:Nat→Int) (hn:n≤10):zAN [rowD ((List.range n).map g),rowD ((List.range n).map h)] = okR (rowD ((List.range n).map fun j=>(g j + h j) % 2)):=by
  unfold zAN zGO
  have hz:∀ (l:List Nat),zipD ((l.map g).map Dt.int) ((l.map h).map Dt.int) = l.map fun j=>Dt.tup [.int (g j),.int (h j)]:=by
    intro l
    induction l with
    | nil=>rfl
    | cons a r ih=>simp only [List.map_cons,zipD,ih]
  have hc:eComp (iZi (aCons (eV 0) (aCons (eV 1) aNil))) 2 (.tup [2,3]) Mi.tYes (eB modD (eB addD (eV 2) (eV 3)) (eC (.int 2))) [some (rowD ((List.range n).map g)),some (rowD ((List.range n).map h))] = okR (rowD ((List.range n).map fun j=>(g j + h j) % 2)):=by
    unfold eComp
    have hi:iZi (aCons (eV 0) (aCons (eV 1) aNil)) [some (rowD ((List.range n).map g)),some (rowD ((List.range n).map h))] = okR ((List.range n).map fun j=>Dt.tup [.int (g j),.int (h j)]):=by
      simp [rowD]
      have:=hz (List.range n)
      simpa using this
    rw [hi,zA0,if_pos ⟨by simp; omega,by simp [Tg.idx]⟩]
    have go:∀ (l:List Nat) (acc:List Dt),compGo [some (rowD ((List.range n).map g)),some (rowD ((List.range n).map h))] 2 (.tup [2,3]) tYes (eB modD (eB addD (eV 2) (eV 3)) (eC (.int 2))) (l.map fun j=>Dt.tup [.int (g j),.int (h j)]) acc = okR (acc ++ l.map fun j=>Dt.int ((g j + h j) % 2)):=by
      intro l
      induction l with
      | nil=>intro acc; simp [compGo]
      | cons a r ih =>
        intro acc
        rw [List.map_cons,compGo]
        simp [zB3,zB0,ih]
    rw [go,zA0]
    unfold rowD
    rw [List.map_map]
    simp
  simp [hc]
noncomputable def sumN (n:Nat) (f:Nat→Int):Int:=((List.range n).map f).sum
def prod (n:Nat) (f g:Nat→Nat→Int) (i j:Nat):Int:=sumN n (fun k=>f i k * g k j) % 2
theorem zUL (n:Nat) (f:Nat→Nat→Int):mat (tab n f) = .lst ((List.range n).map fun i=>rowD ((List.range n).map fun j=>f i j)):=by
  unfold mat tab
  rw [List.map_map]
  rfl
end Mp

namespace Mp
open Mi PySem
noncomputable def numL (ks:List Nat):List Int:=ks.map fun k:Nat=>(k:Int)
theorem numD (ks:List Nat):rowD (numL ks) = .lst (ks.map fun k:Nat=>Dt.int (k:Int)):=by
  unfold rowD numL
  rw [List.map_map]
  rfl
theorem zHI {α:Type} (ks:List Nat) (g:Nat→α):ks.map g = (List.range ks.length).map fun a=>g (ks.getD a 0):=by
  apply List.ext_getElem
  · simp
  · intro i h1 h2
    simp at h1
    simp [h1]
theorem zCD {ks:List Nat} {n a:Nat} (hk:∀ k∈ks,k < n) (ha:a < ks.length):ks.getD a 0 < n:=by
  refine hk _ ?_
  rw [List.getD_eq_getElem?_getD,List.getElem?_eq_getElem ha]
  simp
noncomputable def sub (ks:List Nat) (f:Nat→Nat→Int):Nat→Nat→Int:=fun a b=>f (ks.getD a 0) (ks.getD b 0)
theorem zRI (n:Nat) (f:Nat→Nat→Int) (ks:List Nat) (hk:∀ k∈ks,k < n) (hz:ks.length≤1000):zBV [mat (tab n f),rowD (numL ks)] = okR (mat (tab ks.length (sub ks f))):=by
  have hm:mat (tab ks.length (sub ks f)) = .lst (ks.map fun i=>rowD (ks.map fun j=>f i j)):=by
    rw [zUL,zHI ks fun i=>rowD (ks.map fun j=>f i j)]
    congr 1
    refine List.map_congr_left fun a ha=>?_
    rw [zHI ks fun j=>f (ks.getD a 0) j]
    rfl
  unfold zBV zI5
  have hc:eComp (iSq (eV 1)) 1 (.one 2) Mi.tYes (eComp (iSq (eV 1)) 1 (.one 3) Mi.tYes (eB ixD (eB ixD (eV 0) (eV 2)) (eV 3))) [some (mat (tab n f)),some (rowD (numL ks))] = okR (mat (tab ks.length (sub ks f))):=by
    rw [hm]
    refine zC3 (fun k:Nat=>Dt.int (k:Int)) _ ks rfl rfl (fun i hi=>?_) _ (by simp [numD]) (by omega)
    have h2:=zC3 (ρ:=[some (mat (tab n f)),some (rowD (numL ks))] ++ [some (Dt.int (i:Int))]) (c:=tYes) (i:=3) (e:=eB ixD (eB ixD (eV 0) (eV 2)) (eV 3)) (fun k:Nat=>Dt.int (k:Int)) (fun j=>Dt.int (f i j)) ks rfl rfl (fun j hj=>by
      have e1:=ixM (f:=f) (hk i hi)
      have e2:=ixR (g:=fun j=>f i j) (hk j hj)
      simp [e1,e2]) (iSq (eV 1)) (by simp [numD]) (by omega)
    rw [h2]
    unfold rowD
    rw [List.map_map]
    rfl
  have hd:=zDT (tab ks.length (sub ks f))
  simp [hc,hd]
theorem zOB {α:Type} (l:List α):allD [.lst (l.map fun _=>Dt.bl true)] = some (.bl true):=by
  have hall:∀ l:List α,boolsD (l.map fun _=>Dt.bl true) = some (l.map fun _=>true):=by
    intro l
    induction l with
    | nil=>rfl
    | cons a r ih=>simp [boolsD,ih]
  simp [allD,hall]
end Mp

namespace Mp
open Mi PySem
noncomputable def addB:List Int→List Int→List Int
  | a :: r,b :: s=>(a + b) % 2 :: addB r s
  | _,_=>[]
noncomputable def dot:List Int→List Int→Int
  | a :: r,b :: x=>a * b + dot r x
  | _,_=>0
theorem zFB (x:Int):Bit (x % 2):=by show _ % 2 = 0∨_ % 2 = 1; omega
theorem zK0:∀ (a b:List Int),a.length = b.length→(addB a b).length = a.length
  | [],[],_=>rfl
  | a :: r,b :: s,h=>by simp [addB,zK0 r s (by simpa using h)]
  | [],_ :: _,h=>by simp at h
  | _ :: _,[],h=>by simp at h
theorem zNK:∀ (a b:List Int),∀ x∈addB a b,Bit x
  | [],_,x,h=>by simp [addB] at h
  | _ :: _,[],x,h=>by simp [addB] at h
  | a :: r,b :: s,x,h=>by
    rw [addB,List.mem_cons] at h
    rcases h with rfl | h
    · exact zFB _
    · exact zNK r s x h
theorem zJZ {m:Nat} {a b:List Int} (ha:RowN m a) (hb:RowN m b):RowN m (addB a b) :=
  ⟨by rw [zK0 a b (by rw [ha.1,hb.1]),ha.1],zNK a b⟩
theorem zDA:∀ (a b:List Int) (k:Nat),a.length = b.length→k < a.length→(addB a b).getD k 0 = (a.getD k 0 + b.getD k 0) % 2
  | [],_,k,_,h=>by simp at h
  | _ :: _,[],k,h,_=>by simp at h
  | a :: r,b :: s,0,_,_=>rfl
  | a :: r,b :: s,k + 1,h,hk=>by
    have:=zDA r s k (by simpa using h) (by simpa using hk)
    simpa [addB] using this
theorem zHU:∀ (a b x:List Int),a.length = b.length→(∀ y∈x,Bit y)→dot (addB a b) x % 2 = (dot a x + dot b x) % 2
  | [],[],x,_,_=>by simp [addB,dot]
  | [],_ :: _,x,h,_=>by simp at h
  | _ :: _,[],x,h,_=>by simp at h
  | a :: r,b :: s,[],_,_=>by simp [addB,dot]
  | a :: r,b :: s,c :: x,h,hx=>by
    have ih:=zHU r s x (by simpa using h) fun y hy=>hx y (by simp [hy])
    simp only [addB,dot]
    rcases hx c (by simp) with rfl | rfl <;> omega
def Ker (A:List (List Int)) (x:List Int):Prop:=∀ r∈A,dot r x % 2 = 0
noncomputable def ent (A:List (List Int)) (i k:Nat):Int:=(A.getD i []).getD k 0
theorem zAM {α:Type} {l:List α} {d:α} {i:Nat} (h:i < l.length):l.getD i d∈l:=by
  rw [List.getD_eq_getElem?_getD,List.getElem?_eq_getElem h]; simp
theorem zGU {α:Type} {l:List α} {d a:α} {i j:Nat} (h:i < l.length):(l.set i a).getD j d = if i = j then a else l.getD j d:=by
  simp only [List.getD_eq_getElem?_getD,List.getElem?_set]
  by_cases z:i = j
  · subst z; simp [h]
  · simp [z]
theorem zEP {α β:Type} {l:List α} {d:α} {e:β} {g:α→β} {i:Nat} (h:i < l.length):(l.map g).getD i e = g (l.getD i d):=by
  simp [List.getD_eq_getElem?_getD,List.getElem?_eq_getElem h]
theorem zEO {α:Type} {l:List α} {d x:α} (h:x∈l):∃ i,i < l.length∧l.getD i d = x:=by
  obtain ⟨i,hi,rfl⟩:=List.mem_iff_getElem.mp h
  exact ⟨i,hi,by simp [List.getD_eq_getElem?_getD,List.getElem?_eq_getElem hi]⟩
def oth (A:List (List Int)) (c:Nat) (lead:List Int):List (List Int):=A.map fun r=>if r.getD c 0 = 1 then addB r lead else r
def clr (A:List (List Int)) (c t:Nat):List (List Int) :=
  ((oth A c (A.getD t [])).set t ((oth A c (A.getD t [])).getD c [])).set c (A.getD t [])
section
variable {A:List (List Int)} {c t m:Nat} (hm:∀ r∈A,RowN m r) (ht:t < A.length) (hc:c≤t) (hl:ent A t c = 1) (hcm:c < m)
theorem zHD (A:List (List Int)) (c:Nat) (l:List Int):(oth A c l).length = A.length:=by simp [oth]
theorem zHZ (A:List (List Int)) (c t:Nat):(clr A c t).length = A.length:=by simp [clr,oth]
include hm ht in
theorem zRK:∀ r∈oth A c (A.getD t []),RowN m r:=by
  intro r hr
  obtain ⟨q,hq,rfl⟩:=List.mem_map.mp hr
  have h1:=hm q hq
  have h2:=hm _ (zAM (d:=[]) ht)
  split
  · exact zJZ h1 h2
  · exact h1
include hm ht hc in
theorem zSG:∀ r∈clr A c t,RowN m r:=by
  intro r hr
  have ho:=zRK (c:=c) hm ht
  rcases List.mem_or_eq_of_mem_set hr with hr | rfl
  · rcases List.mem_or_eq_of_mem_set hr with hr | rfl
    · exact ho r hr
    · exact ho _ (zAM (by rw [zHD]; omega))
  · exact hm _ (zAM ht)
include ht hc in
theorem zJV (i:Nat) (hi:i < A.length):(clr A c t).getD i [] = if c = i then A.getD t [] else if t = i then (oth A c (A.getD t [])).getD c [] else (oth A c (A.getD t [])).getD i []:=by
  unfold clr
  rw [zGU (by simp [zHD]; omega),zGU (by rw [zHD]; omega)]
include hm ht hc in
theorem zV5 (x:List Int) (hx:∀ y∈x,Bit y):Ker (clr A c t) x ↔ Ker A x:=by
  have hlr:=hm _ (zAM (d:=[]) ht)
  constructor
  · intro h r hr
    have hlead:dot (A.getD t []) x % 2 = 0:=by
      have:=h _ (zAM (d:=[]) (i:=c) (by rw [zHZ]; omega))
      rwa [zJV ht hc c (by omega),if_pos rfl] at this
    obtain ⟨i,hi,rfl⟩:=zEO (d:=[]) hr
    by_cases hit:t = i
    · subst hit; exact hlead
    · have key:(oth A c (A.getD t [])).getD i []∈clr A c t:=by
        by_cases hic:c = i
        · subst hic
          have:=zAM (l:=clr A c t) (d:=[]) (i:=t) (by rw [zHZ]; omega)
          rwa [zJV ht hc t ht,if_neg (fun z=>hit z.symm),if_pos rfl] at this
        · have:=zAM (l:=clr A c t) (d:=[]) (i:=i) (by rw [zHZ]; omega)
          rwa [zJV ht hc i hi,if_neg hic,if_neg hit] at this
      have k2:=h _ key
      unfold oth at k2
      rw [zEP (d:=[]) hi] at k2
      split at k2
      · rw [zHU _ _ x (by rw [(hm _ (zAM hi)).1,hlr.1]) hx] at k2
        omega
      · exact k2
  · intro h r hr
    have hlead:=h _ (zAM (d:=[]) ht)
    have ho:∀ r∈oth A c (A.getD t []),dot r x % 2 = 0:=by
      intro r hr
      obtain ⟨q,hq,rfl⟩:=List.mem_map.mp hr
      have:=h q hq
      split
      · rw [zHU _ _ x (by rw [(hm _ hq).1,hlr.1]) hx]; omega
      · exact this
    rcases List.mem_or_eq_of_mem_set hr with hr | rfl
    · rcases List.mem_or_eq_of_mem_set hr with hr | rfl
      · exact ho r hr
      · exact ho _ (zAM (by rw [zHD]; omega))
    · exact hlead
end
def zV9 (A:List (List Int)) (c:Nat):Prop:=∀ i k,i < A.length→k < c→ent A i k = if i = k then 1 else 0
theorem zHR {A:List (List Int)} {m i k:Nat} (hm:∀ r∈A,RowN m r) (hi:i < A.length) (hk:k < m):Bit (ent A i k):=by
  have h:=hm _ (zAM (d:=[]) hi)
  exact h.2 _ (zAM (by rw [h.1]; exact hk))
theorem zU9 {A:List (List Int)} {c t m i k:Nat} (hm:∀ r∈A,RowN m r) (ht:t < A.length) (hi:i < A.length) (hk:k < m):((oth A c (A.getD t [])).getD i []).getD k 0 = if ent A i c = 1 then (ent A i k + ent A t k) % 2 else ent A i k:=by
  unfold oth
  rw [zEP (d:=[]) hi]
  have h1:=hm _ (zAM (d:=[]) hi)
  have h2:=hm _ (zAM (d:=[]) ht)
  show (if ent A i c = 1 then _ else _:List Int).getD k 0 = _
  split
  · rw [zDA _ _ k (by rw [h1.1,h2.1]) (by rw [h1.1]; exact hk)]; rfl
  · rfl
theorem zSF {A:List (List Int)} {c t m:Nat} (hm:∀ r∈A,RowN m r) (ht:t < A.length) (hc:c≤t) (hl:ent A t c = 1) (hcm:c < m) (hu:zV9 A c):zV9 (clr A c t) (c + 1):=by
  intro i k hi hk
  rw [zHZ] at hi
  have hk2:k < m:=by omega
  have e0:∀ j,j < A.length→((oth A c (A.getD t [])).getD j []).getD k 0 = if k = c then 0 else if j = k then 1 else 0:=by
    intro j hj
    rw [zU9 hm ht hj hk2]
    by_cases hkc:k = c
    · subst hkc
      have hb:=zHR (k:=k) hm hj hk2
      rw [if_pos rfl]
      split
      · rename_i h; rw [h,hl]; rfl
      · rename_i h
        rcases hb with hb | hb
        · exact hb
        · exact absurd hb h
    · rw [if_neg hkc]
      have h1:=hu j k hj (by omega)
      have h2:=hu t k ht (by omega)
      rw [if_neg (by omega)] at h2
      rw [h1,h2]
      split <;> split <;> rfl
  unfold ent
  rw [zJV ht hc i hi]
  by_cases h1:c = i
  · subst h1
    rw [if_pos rfl]
    by_cases hkc:c = k
    · subst hkc; rw [if_pos rfl]; exact hl
    · rw [if_neg hkc]
      have:=hu t k ht (by omega)
      rw [if_neg (by omega)] at this
      exact this
  · rw [if_neg h1]
    by_cases h2:t = i
    · subst h2
      rw [if_pos rfl,e0 c (by omega)]
      by_cases hkc:k = c
      · subst hkc; rw [if_pos rfl,if_neg (fun z=>h1 z.symm)]
      · rw [if_neg hkc,if_neg (fun z=>hkc z.symm),if_neg (by omega)]
    · rw [if_neg h2,e0 i hi]
      by_cases hkc:k = c
      · subst hkc; rw [if_pos rfl,if_neg (fun z=>h1 z.symm)]
      · rw [if_neg hkc]
theorem zAW (n:Nat) (f:Nat→Int):sumN (n + 1) f = sumN n f + f n:=by
  unfold sumN
  rw [List.range_succ,List.map_append,List.sum_append]
  simp
theorem zBT {n:Nat} {f:Nat→Int} (h:∀ k,k < n→f k = 0):sumN n f = 0:=by
  induction n with
  | zero=>rfl
  | succ n ih=>rw [zAW,ih fun k hk=>h k (by omega),h n (by omega)]; rfl
theorem zCF {n:Nat} {f:Nat→Int} {j:Nat} (hj:j < n) (h:∀ k,k < n→k≠j→f k = 0):sumN n f = f j:=by
  induction n with
  | zero=>omega
  | succ n ih =>
    rw [zAW]
    by_cases z:j = n
    · subst z; rw [zBT fun k hk=>h k (by omega) (by omega)]; omega
    · rw [ih (by omega) fun k hk=>h k (by omega),h n (by omega) (fun y=>z y.symm)]; omega
theorem zQZ {n:Nat} {f:Nat→Int} {i j:Nat} (hi:i < j) (hj:j < n) (h:∀ k,k < n→k≠i→k≠j→f k = 0):sumN n f = f i + f j:=by
  induction n with
  | zero=>omega
  | succ n ih =>
    rw [zAW]
    by_cases z:j = n
    · subst z; rw [zCF hi fun k hk hki=>h k (by omega) hki (by omega)]
    · rw [ih (by omega) fun k hk=>h k (by omega),h n (by omega) (by omega) (fun y=>z y.symm)]; omega
theorem zNP (n:Nat) (f:Nat→Int):sumN (n + 1) f = f 0 + sumN n fun k=>f (k + 1):=by
  induction n with
  | zero=>simp [sumN]
  | succ n ih=>rw [zAW,ih,zAW]; omega
theorem zDR:∀ (r x:List Int) (m:Nat),x.length≤m→dot r x = sumN m fun k=>r.getD k 0 * x.getD k 0
  | [],x,m,_=>by rw [zBT fun k _=>by simp]; rfl
  | a :: r,[],m,_=>by rw [zBT fun k _=>by simp]; rfl
  | a :: r,b :: x,0,h=>by simp at h
  | a :: r,b :: x,m + 1,h=>by
    rw [dot,zDR r x m (by simpa using h),zNP]
    simp
theorem zHT:∀ (r x:List Int) (p:Nat) (v:Int),p < x.length→dot r (x.set p v) = dot r x + r.getD p 0 * (v - x.getD p 0)
  | [],x,p,v,_=>by simp [dot]
  | a :: r,[],p,v,h=>by simp at h
  | a :: r,b :: x,0,v,_=>by
    simp [dot]
    rw [Int.mul_sub]
    omega
  | a :: r,b :: x,p + 1,v,h=>by
    have:=zHT r x p v (by simpa using h)
    simp [dot] at this ⊢
    rw [this]
    omega
theorem zJS:∀ (a b u v:List Int),a.length = u.length→dot (a ++ b) (u ++ v) = dot a u + dot b v
  | [],b,[],v,_=>by simp [dot]
  | [],b,_ :: _,v,h=>by simp at h
  | _ :: _,b,[],v,h=>by simp at h
  | a :: r,b,c :: u,v,h=>by
    have:=zJS r b u v (by simpa using h)
    simp [dot,this]
    omega
theorem zUX (r:List Int):dot r [] = 0:=by cases r <;> rfl
theorem zOZ {n p:Nat} {x:List Int} {v:Int} (hx:RowN n x) (hv:Bit v):RowN n (x.set p v) :=
  ⟨by simp [hx.1],fun y hy=>(List.mem_or_eq_of_mem_set hy).elim (hx.2 y) fun z=>z ▸ hv⟩
theorem zBN {n k:Nat} {x:List Int} (hx:RowN n x):Bit (x.getD k 0):=by
  by_cases h:k < x.length
  · exact hx.2 _ (zAM h)
  · left; simp [List.getD_eq_getElem?_getD,List.getElem?_eq_none (by omega:x.length≤k)]
structure Rk (n:Nat) (T A:List (List Int)) (p q:Nat):Prop where
  rows:∀ r∈A,RowN n r
  zero:∀ r∈A,∀ k,k < p→r.getD k 0 = 0
  le:q≤p
  all:q = p→∀ x,RowN n x→Ker T x→Ker A x∧((∀ j,p≤j→x.getD j 0 = 0)→∀ j,x.getD j 0 = 0)
  some:q < p→∃ x,RowN n x∧Ker T x∧∃ j,j < n∧x.getD j 0 = 1
  lift:∀ x,RowN n x→Ker A x→∃ y,RowN n y∧Ker T y∧∀ j,p≤j→y.getD j 0 = x.getD j 0
theorem Rk.start {n:Nat} {T:List (List Int)} (h:∀ r∈T,RowN n r):Rk n T T 0 0 :=
  ⟨h,fun _ _ k hk=>by omega,Nat.le_refl _,fun _ x _ hk=>⟨hk,fun hz j=>hz j (Nat.zero_le _)⟩,fun z=>by omega,fun x hx hk=>⟨x,hx,hk,fun _ _=>rfl⟩⟩
theorem Rk.miss {n p q:Nat} {T A:List (List Int)} (a:Rk n T A p q) (hp:p < n) (h:∀ r∈A,r.getD p 0≠1):Rk n T A (p + 1) q:=by
  have h0:∀ r∈A,r.getD p 0 = 0:=fun r hr=>(zBN (k:=p) (a.rows r hr)).elim (fun z=>z) fun z=>absurd z (h r hr)
  refine ⟨a.rows,fun r hr k hk=>?_,by have:=a.le; omega,fun z=>by have:=a.le; omega,fun _=>?_,fun x hx hk=>?_⟩
  · by_cases z:k = p
    · subst z; exact h0 r hr
    · exact a.zero r hr k (by omega)
  · let x:List Int:=(List.replicate n 0).set p 1
    have hx:RowN n x:=zOZ ⟨by simp,fun y hy=>.inl (List.eq_of_mem_replicate hy)⟩ (.inr rfl)
    obtain ⟨y,y1,y2,y3⟩:=a.lift x hx fun r hr=>by
      show dot r ((List.replicate n 0).set p 1) % 2 = 0
      rw [zHT r _ p 1 (by simp [hp]),h0 r hr,zDR r (List.replicate n 0) n (by simp),zBT fun k hk=>by simp [hk]]
      simp
    refine ⟨y,y1,y2,p,hp,?_⟩
    rw [y3 p (Nat.le_refl _)]
    show ((List.replicate n 0).set p 1).getD p 0 = (1:Int)
    rw [zGU (by simp [hp]),if_pos rfl]
  · obtain ⟨y,y1,y2,y3⟩:=a.lift x hx hk
    exact ⟨y,y1,y2,fun j hj=>y3 j (by omega)⟩
def zIE (A:List (List Int)) (p:Nat):List (List Int) :=
  (A.filter fun r=>decide (r.getD p 0 = 0)) ++ (((A.filter fun r=>decide (r.getD p 0 = 1)).drop 1).map fun r=>addB r ((A.filter fun r=>decide (r.getD p 0 = 1)).getD 0 []))
theorem Rk.hit {n p q:Nat} {T A:List (List Int)} (a:Rk n T A p q) (hp:p < n) (h:∃ r∈A,r.getD p 0 = 1):Rk n T (zIE A p) (p + 1) (q + 1):=by
  obtain ⟨s,l,hs⟩:∃ s l,(A.filter fun r=>decide (r.getD p 0 = 1)) = s :: l:=by
    cases e:A.filter fun r=>decide (r.getD p 0 = 1) with
    | nil =>
      obtain ⟨r,hr,h1⟩:=h
      have:r∈A.filter fun r=>decide (r.getD p 0 = 1):=List.mem_filter.mpr ⟨hr,by simpa using h1⟩
      rw [e] at this
      simp at this
    | cons s l=>exact ⟨s,l,rfl⟩
  have hsl:∀ r,r∈s :: l→r∈A∧r.getD p 0 = 1:=fun r hr=>by
    rw [← hs] at hr
    have:=List.mem_filter.mp hr
    exact ⟨this.1,by simpa using this.2⟩
  have hn:zIE A p = (A.filter fun r=>decide (r.getD p 0 = 0)) ++ l.map fun r=>addB r s:=by
    unfold zIE
    rw [hs]
    rfl
  have hsA:=(hsl s (by simp)).1
  have hs1:=(hsl s (by simp)).2
  have hsr:=a.rows s hsA
  have hmem:∀ r,r∈zIE A p→(r∈A∧r.getD p 0 = 0)∨∃ t∈l,r = addB t s:=fun r hr=>by
    rw [hn] at hr
    rcases List.mem_append.mp hr with hr | hr
    · have:=List.mem_filter.mp hr
      exact .inl ⟨this.1,by simpa using this.2⟩
    · obtain ⟨t,ht,rfl⟩:=List.mem_map.mp hr
      exact .inr ⟨t,ht,rfl⟩
  refine ⟨fun r hr=>?_,fun r hr k hk=>?_,by have:=a.le; omega,fun z x hx hT=>?_,fun z=>a.some (by omega),fun x hx hk=>?_⟩
  · rcases hmem r hr with ⟨h1,_⟩ | ⟨t,ht,rfl⟩
    · exact a.rows r h1
    · exact zJZ (a.rows t (hsl t (by simp [ht])).1) hsr
  · rcases hmem r hr with ⟨h1,h2⟩ | ⟨t,ht,rfl⟩
    · by_cases z:k = p
      · subst z; exact h2
      · exact a.zero r h1 k (by omega)
    · have ht':=hsl t (by simp [ht])
      have htr:=a.rows t ht'.1
      rw [zDA _ _ k (by rw [htr.1,hsr.1]) (by rw [htr.1]; omega)]
      by_cases z:k = p
      · subst z; rw [ht'.2,hs1]; rfl
      · rw [a.zero t ht'.1 k (by omega),a.zero s hsA k (by omega)]; rfl
  · obtain ⟨kA,k2⟩:=a.all (by omega) x hx hT
    refine ⟨fun r hr=>?_,fun hz=>k2 fun j hj=>?_⟩
    · rcases hmem r hr with ⟨h1,_⟩ | ⟨t,ht,rfl⟩
      · exact kA r h1
      · have ht':=hsl t (by simp [ht])
        have htr:=a.rows t ht'.1
        have e1:=kA t ht'.1
        have e2:=kA s hsA
        rw [zHU _ _ x (by rw [htr.1,hsr.1]) hx.2]
        omega
    · by_cases z:j = p
      · subst z
        have e2:=kA s hsA
        rw [zDR s x n (by rw [hx.1]; exact Nat.le_refl _),zCF hp fun k hk hkj=>?_,hs1] at e2
        · have:=zBN (k:=j) hx
          rcases this with w | w
          · exact w
          · rw [w] at e2; simp at e2
        · by_cases w:k < j
          · rw [a.zero s hsA k w]; simp
          · rw [hz k (by omega)]; simp
      · exact hz j (by omega)
  · 
    let v:Int:=dot s (x.set p 0) % 2
    have hv:Bit v:=zFB _
    have hy:RowN n (x.set p v):=zOZ hx hv
    have hpx:p < x.length:=by rw [hx.1]; exact hp
    have free:∀ r:List Int,r.getD p 0 = 0→dot r (x.set p v) = dot r x:=fun r hr=>by
      rw [zHT r x p v hpx,hr]; simp
    have es:dot s (x.set p v) % 2 = 0:=by
      have g0:=zHT s x p 0 hpx
      have g1:=zHT s x p v hpx
      rw [hs1] at g0 g1
      have:v = dot s (x.set p 0) % 2:=rfl
      omega
    have kA:Ker A (x.set p v):=fun r hr=>by
      by_cases h0:r.getD p 0 = 0
      · rw [free r h0]
        refine hk r ?_
        rw [hn]
        exact List.mem_append_left _ (List.mem_filter.mpr ⟨hr,by simpa using h0⟩)
      · have h1:r.getD p 0 = 1:=(zBN (k:=p) (a.rows r hr)).elim (fun z=>absurd z h0) fun z=>z
        have hr2:r∈s :: l:=by rw [← hs]; exact List.mem_filter.mpr ⟨hr,by simpa using h1⟩
        rcases List.mem_cons.mp hr2 with rfl | hr2
        · exact es
        · have htr:=a.rows r hr
          have e1:dot (addB r s) x % 2 = 0:=hk _ (by rw [hn]; exact List.mem_append_right _ (List.mem_map.mpr ⟨r,hr2,rfl⟩))
          have e2:(addB r s).getD p 0 = 0:=by rw [zDA _ _ p (by rw [htr.1,hsr.1]) (by rw [htr.1]; exact hp),h1,hs1]; rfl
          rw [← free _ e2,zHU _ _ _ (by rw [htr.1,hsr.1]) hy.2] at e1
          omega
    obtain ⟨y,y1,y2,y3⟩:=a.lift _ hy kA
    refine ⟨y,y1,y2,fun j hj=>?_⟩
    rw [y3 j (by omega),zGU hpx,if_neg (by omega)]
end Mp

namespace Mp
open Mi PySem
theorem zE4 {r:Ro} {i n:Nat} {vs:List Nat} {e:EM} {d:Dt} {P:Ro→Prop} (h1:e (full r) = okR d) (h2:e (frz (frzAt vs r)) = okR d) (p1:P (r.set i (some (d,n)))) (p2:P ((frzAt vs r).set i (some (d,n)))):nxR (sSet i n vs e r) P:=by
  unfold sSet
  rw [h1,zA0]
  split
  · exact p1
  · rw [h2,zA0]; exact p2
theorem zBA {ρ:Rh} {c:TM} {e:EM} {i:Nat} {β:Type} (en:β→Dt) (g:β→Dt) (f:β→Bool) (ns:List β) (hi:i = ρ.length) (hc:∀ k,k∈ns→c (ρ ++ [some (en k)]) = okR (f k)) (h:∀ k,k∈ns→f k = true→e (ρ ++ [some (en k)]) = okR (g k)) (it:IM) (hit:it ρ = okR (ns.map en)) (hn:ns.length≤100000):eComp it 1 (.one i) c e ρ = okR (.lst ((ns.filter f).map g)):=by
  subst hi
  unfold eComp
  rw [hit,zA0,if_pos ⟨by simpa using hn,by simp [Tg.idx]⟩]
  have go:∀ (l:List β) (acc:List Dt),(∀ k∈l,k∈ns)→compGo ρ 1 (.one ρ.length) c e (l.map en) acc = okR (acc ++ (l.filter f).map g):=by
    intro l
    induction l with
    | nil=>intro acc _; simp [compGo]
    | cons a r ih =>
      intro acc hl
      have h1:=hc a (hl a (by simp))
      have h2:=h a (hl a (by simp))
      have ih':=fun acc=>ih acc fun k hk=>hl k (by simp [hk])
      have es:zB0 (ρ ++ List.replicate 1 none) [(ρ.length,en a)] = ρ ++ [some (en a)]:=by
        simp [zB0]
      rw [List.map_cons,compGo]
      show zA3 (c (zB0 (ρ ++ List.replicate 1 none) [(ρ.length,en a)])) _ = _
      rw [es,h1,zA0]
      cases hf:f a with
      | true =>
        rw [if_pos rfl]
        rw [h2 hf,zA0,ih',List.filter_cons_of_pos hf]
        simp
      | false =>
        rw [if_neg (by simp),ih',List.filter_cons_of_neg (by simp [hf])]
  rw [go _ _ fun k hk=>hk,zA0]
  simp
theorem zFG {n:Nat} {a:List Int} (h:a.length = n):a = (List.range n).map fun j=>a.getD j 0:=by
  apply List.ext_getElem
  · simp [h]
  · intro i h1 h2
    simp [List.getD_eq_getElem?_getD,List.getElem?_eq_getElem h1]
theorem zIY {n:Nat} {a b:List Int} (h:a.length = n) (h':b.length = n):addB a b = (List.range n).map fun j=>(a.getD j 0 + b.getD j 0) % 2:=by
  rw [zFG (n:=n) (a:=addB a b) (by rw [zK0 a b (by omega),h])]
  exact List.map_congr_left fun j hj=>zDA a b j (by omega) (by simp at hj; omega)
theorem zRT {n:Nat} {a b:List Int} (h:a.length = n) (h':b.length = n) (hn:n≤10):zAN [rowD a,rowD b] = okR (rowD (addB a b)):=by
  have:=zFK n (fun j=>a.getD j 0) (fun j=>b.getD j 0) hn
  rw [← zFG h,← zFG h',← zIY h h'] at this
  exact this
theorem addM (A B:List (List Int)) (h:A.length + B.length≤100000):addD (mat A) (mat B) = some (mat (A ++ B)):=by
  show (@ite _ ((A.map rowD).length + (B.map rowD).length≤100000) (Classical.propDecidable _) (some (Dt.lst (A.map rowD ++ B.map rowD))) none) = _
  rw [if_pos (by simpa using h)]
  unfold mat
  simp
theorem zKQ (A:List (List Int)) (p:Nat):(zIE A p).length≤A.length:=by
  unfold zIE
  rw [List.length_append,List.length_map,List.length_drop]
  have:(A.filter fun r=>decide (r.getD p 0 = 0)).length + (A.filter fun r=>decide (r.getD p 0 = 1)).length≤A.length:=by
    induction A with
    | nil=>simp
    | cons a r ih =>
      rw [List.filter_cons,List.filter_cons]
      by_cases h0:a.getD p 0 = 0
      · have h1:¬ a.getD p 0 = 1:=by omega
        simp only [h0,h1,decide_true,decide_false,if_true,List.length_cons]
        simp [-List.getD_eq_getElem?_getD]
        omega
      · by_cases h1:a.getD p 0 = 1
        · simp only [h0,h1,decide_true,decide_false,if_true,List.length_cons]
          simp [-List.getD_eq_getElem?_getD]
          omega
        · simp only [h0,h1,decide_true,decide_false,List.length_cons]
          simp [-List.getD_eq_getElem?_getD]
          omega
  omega
def RkS (n:Nat) (T:List (List Int)) (k:Nat) (r:Ro):Prop:=∃ A q l1 l2 o3 o4 o5,r = [some (mat T,0),some (mat A,l1),some (.int (q:Nat),l2),o3,o4,o5]∧Rk n T A k q∧A.length≤n∧l2≤1
theorem zMW (n:Nat) (T:List (List Int)) (hT:T.length = n) (hr:∀ r∈T,RowN n r) (hn:n≤10):∃ q:Nat,zCB [mat T] = okR (.int (q:Int))∧∃ A,Rk n T A n q:=by
  suffices h:∃ q:Nat,zFC [some (mat T,0),none,none,none,none,none] = okR (.rt (.int (q:Int)))∧∃ A,Rk n T A n q by
    obtain ⟨q,h1,h2⟩:=h
    exact ⟨q,zD5 rfl h1,h2⟩
  have hc:eComp (iSq (eV 0)) 1 (.one 6) Mi.tYes (eBi listD (aCons (eV 6) aNil)) [some (mat T),none,none,none,none,none] = okR (mat T) :=
    zC3 rowD rowD T rfl rfl (fun r _=>by simp) _ (by simp [mat]) (by omega)
  have hdT:=zDT T
  suffices hl:∃ q:Nat,∃ A l1 l2 o3 o4 o5,Rk n T A n q∧l2≤1∧forGo (.one 3) (sSeq (sSet 4 1 [1,3] (eComp (iSq (eV 1)) 1 (.one 6) (tB (eB eqD (eB ixD (eV 6) (eV 3)) (eC (.int 1)))) (eV 6)))
  (sIf (tB (eB (cmpD fun i j=>decide (j < i)) (eBi lenD (aCons (eV 4) aNil)) (eC (.int 0)))) (sSeq (sSet 2 1 [2] (eB addD (eV 2) (eC (.int 1))))
  (sSeq (sSet 5 1 [1,3] (eComp (iSq (eV 1)) 1 (.one 6) (tB (eB eqD (eB ixD (eV 6) (eV 3)) (eC (.int 0)))) (eV 6)))
  (sSet 1 1 [5,4] (eB addD (eV 5) (eComp (iSq (eSl (eV 4) (oE (eC (.int 1))) oNo)) 1 (.one 6) Mi.tYes (eCall zAN (aCons (eV 6) (aCons (eB ixD (eV 4) (eC (.int 0))) aNil)))))))) sNil)) (nums 0 n) [some (mat T,0),some (mat T,2),some (.int 0,0),none,none,none] = okR (.nx [some (mat T,0),some (mat A,l1),some (.int (q:Int),l2),o3,o4,o5]) by
    obtain ⟨q,A,l1,l2,o3,o4,o5,h1,h3,h2⟩:=hl
    refine ⟨q,?_,A,h1⟩
    unfold zFC
    refine zBR fun bb hb=>?_
    simp [hc,hdT]
    subst hb
    refine zBR fun bb hb=>?_
    simp
    subst hb
    refine zBR fun bb hb=>?_
    simp only [zE2]
    rw [zDL (n:=n) (by simp [hT]) (by omega),zA0,h2]
    subst hb
    show sRetV 1 2 _ = _
    simp [sRetV]
    omega
  have body:∀ k,k < n→∀ r,RkS n T k r→nxR ((sSeq (sSet 4 1 [1,3] (eComp (iSq (eV 1)) 1 (.one 6) (tB (eB eqD (eB ixD (eV 6) (eV 3)) (eC (.int 1)))) (eV 6)))
  (sIf (tB (eB (cmpD fun i j=>decide (j < i)) (eBi lenD (aCons (eV 4) aNil)) (eC (.int 0)))) (sSeq (sSet 2 1 [2] (eB addD (eV 2) (eC (.int 1))))
  (sSeq (sSet 5 1 [1,3] (eComp (iSq (eV 1)) 1 (.one 6) (tB (eB eqD (eB ixD (eV 6) (eV 3)) (eC (.int 0)))) (eV 6)))
  (sSet 1 1 [5,4] (eB addD (eV 5) (eComp (iSq (eSl (eV 4) (oE (eC (.int 1))) oNo)) 1 (.one 6) Mi.tYes (eCall zAN (aCons (eV 6) (aCons (eB ixD (eV 4) (eC (.int 0))) aNil)))))))) sNil)) (r.set 3 (some (.int (k:Nat),0)))) (RkS n T (k + 1)):=by
    rintro k hk r ⟨A,q,l1,l2,o3,o4,o5,rfl,ha,hlA,hl2⟩
    have hcf:∀ (v:Int) (o0 o2 o4 o5:Option Dt),eComp (iSq (eV 1)) 1 (.one 6) (tB (eB eqD (eB ixD (eV 6) (eV 3)) (eC (.int v)))) (eV 6) [o0,some (mat A),o2,some (.int (k:Nat)),o4,o5] = okR (mat (A.filter fun r=>decide (r.getD k 0 = v))):=by
      intro v o0 o2 o4 o5
      refine zBA rowD rowD (fun r=>decide (r.getD k 0 = v)) A rfl (fun r hr=>?_) (fun r hr _=>by simp) _ (by simp [mat]) (by omega)
      have i1:=zIF r k (by rw [(ha.rows r hr).1]; exact hk)
      simp [i1]
    refine zDF fun bb hb=>?_
    have fin:∀ l1 l2 o4 o5,l2≤1→nxR (sIf (tB (eB (cmpD fun i j=>decide (j < i)) (eBi lenD (aCons (eV 4) aNil)) (eC (.int 0)))) (sSeq (sSet 2 1 [2] (eB addD (eV 2) (eC (.int 1))))
  (sSeq (sSet 5 1 [1,3] (eComp (iSq (eV 1)) 1 (.one 6) (tB (eB eqD (eB ixD (eV 6) (eV 3)) (eC (.int 0)))) (eV 6)))
  (sSet 1 1 [5,4] (eB addD (eV 5) (eComp (iSq (eSl (eV 4) (oE (eC (.int 1))) oNo)) 1 (.one 6) Mi.tYes (eCall zAN (aCons (eV 6) (aCons (eB ixD (eV 4) (eC (.int 0))) aNil)))))))) sNil [some (mat T,0),some (mat A,l1),some (.int (q:Nat),l2),some (.int (k:Nat),0),some (mat (A.filter fun r=>decide (r.getD k 0 = 1)),o4),o5]) (RkS n T (k + 1)):=by
      intro l1 l2 l4 o5 hl2
      by_cases h:0 < (A.filter fun r=>decide (r.getD k 0 = 1)).length
      · have hex:∃ r∈A,r.getD k 0 = 1:=by
          obtain ⟨r,hr⟩:=List.exists_mem_of_length_pos h
          have:=List.mem_filter.mp hr
          exact ⟨r,this.1,by simpa [-List.getD_eq_getElem?_getD] using this.2⟩
        rw [zET,show tB (eB (cmpD fun i j=>decide (j < i)) (eBi lenD (aCons (eV 4) aNil)) (eC (.int 0))) (full [some (mat T,0),some (mat A,l1),some (.int (q:Nat),l2),some (.int (k:Nat),0),some (mat (A.filter fun r=>decide (r.getD k 0 = 1)),l4),o5]) = okR true by simp [-List.getD_eq_getElem?_getD,h],zA0,if_pos rfl]
        refine zDF fun bb hb=>?_
        simp
        subst hb
        refine zDF fun bb hb=>?_
        have fin2:∀ l1 l4,nxR (sSet 1 1 [5,4] (eB addD (eV 5) (eComp (iSq (eSl (eV 4) (oE (eC (.int 1))) oNo)) 1 (.one 6) Mi.tYes (eCall zAN (aCons (eV 6) (aCons (eB ixD (eV 4) (eC (.int 0))) aNil))))) [some (mat T,0),some (mat A,l1),some (.int ((q:Int) + 1),1),some (.int (k:Nat),0),some (mat (A.filter fun r=>decide (r.getD k 0 = 1)),l4),some (mat (A.filter fun r=>decide (r.getD k 0 = 0)),1)]) (RkS n T (k + 1)):=by
          intro l1 l4
          have hlf:(A.filter fun r=>decide (r.getD k 0 = 1)).length≤A.length:=List.length_filter_le _ _
          have hlf0:(A.filter fun r=>decide (r.getD k 0 = 0)).length≤A.length:=List.length_filter_le _ _
          have e:∀ (o0 o1 o2 o3:Option Dt),eB addD (eV 5) (eComp (iSq (eSl (eV 4) (oE (eC (.int 1))) oNo)) 1 (.one 6) Mi.tYes (eCall zAN (aCons (eV 6) (aCons (eB ixD (eV 4) (eC (.int 0))) aNil)))) [o0,o1,o2,o3,some (mat (A.filter fun r=>decide (r.getD k 0 = 1))),some (mat (A.filter fun r=>decide (r.getD k 0 = 0)))] = okR (mat (zIE A k)):=by
            intro o0 o1 o2 o3
            have hcc:eComp (iSq (eSl (eV 4) (oE (eC (.int 1))) oNo)) 1 (.one 6) Mi.tYes (eCall zAN (aCons (eV 6) (aCons (eB ixD (eV 4) (eC (.int 0))) aNil))) [o0,o1,o2,o3,some (mat (A.filter fun r=>decide (r.getD k 0 = 1))),some (mat (A.filter fun r=>decide (r.getD k 0 = 0)))] = okR (mat (((A.filter fun r=>decide (r.getD k 0 = 1)).drop 1).map fun r=>addB r ((A.filter fun r=>decide (r.getD k 0 = 1)).getD 0 []))):=by
              have hin:∀ r∈A.filter fun r=>decide (r.getD k 0 = 1),RowN n r:=fun r hr=>ha.rows r (List.mem_filter.mp hr).1
              have h0:=hin _ (zAM (d:=[]) h)
              have i0:=zPR (A.filter fun r=>decide (r.getD k 0 = 1)) 0 h
              have hsl:slD (mat (A.filter fun r=>decide (r.getD k 0 = 1))) (some 1) none = some (mat ((A.filter fun r=>decide (r.getD k 0 = 1)).drop 1)):=by rw [zV4]; exact congrArg (fun z=>some (mat z)) (zND _ 1)
              generalize (A.filter fun r=>decide (r.getD k 0 = 1)) = S at *
              refine Eq.trans (zC3 (i:=6) rowD (fun r=>rowD (addB r (S.getD 0 []))) (S.drop 1) rfl rfl (fun r hr=>?_) _ ?_ (by simp [-List.getD_eq_getElem?_getD]; omega)) ?_
              rotate_left 2
              · unfold mat; rw [List.map_map]; rfl
              · have h1:=hin r (List.mem_of_mem_drop hr)
                have i0':ixD (mat S) (.int 0) = some (rowD (S.getD 0 [])):=i0
                have:=zRT h1.1 h0.1 hn
                simp [-List.getD_eq_getElem?_getD,i0',this]
              · simp [hsl]
                show okR (S.tail.map rowD) = _
                rw [List.map_tail]
            have:=addM (A.filter fun r=>decide (r.getD k 0 = 0)) (((A.filter fun r=>decide (r.getD k 0 = 1)).drop 1).map fun r=>addB r ((A.filter fun r=>decide (r.getD k 0 = 1)).getD 0 [])) (by simp [-List.getD_eq_getElem?_getD]; omega)
            show zA3 (okR _) (fun x=>zA3 (eComp _ _ _ _ _ _) fun y=>optR (addD x y)) = _
            rw [hcc,zA0,zA0,this]
            rfl
          refine zE4 (d:=mat (zIE A k)) (e _ _ _ _) (by simp; exact e _ _ _ _) ?_ ?_
          · exact ⟨zIE A k,q + 1,_,_,_,_,_,rfl,ha.hit hk hex,by have:=zKQ A k; omega,Nat.le_refl _⟩
          · exact ⟨zIE A k,q + 1,_,_,_,_,_,rfl,ha.hit hk hex,by have:=zKQ A k; omega,Nat.le_refl _⟩
        refine zE4 (d:=mat (A.filter fun r=>decide (r.getD k 0 = 0))) ?_ ?_ ?_ ?_
        · exact hcf 0 _ _ _ _
        · simp
          exact hcf 0 _ _ _ _
        · subst hb
          exact fin2 _ _
        · subst hb
          exact fin2 _ _
      · have hex:∀ r∈A,r.getD k 0≠1:=fun r hr h1=>h (List.length_pos_of_mem (List.mem_filter.mpr ⟨hr,by simpa [-List.getD_eq_getElem?_getD] using h1⟩))
        rw [zET,show tB (eB (cmpD fun i j=>decide (j < i)) (eBi lenD (aCons (eV 4) aNil)) (eC (.int 0))) (full [some (mat T,0),some (mat A,l1),some (.int (q:Nat),l2),some (.int (k:Nat),0),some (mat (A.filter fun r=>decide (r.getD k 0 = 1)),l4),o5]) = okR false by simp [-List.getD_eq_getElem?_getD,h],zA0,if_neg (by simp [-List.getD_eq_getElem?_getD])]
        exact ⟨A,q,_,_,_,_,_,rfl,ha.miss hk hex,hlA,hl2⟩
    refine zE4 (d:=mat (A.filter fun r=>decide (r.getD k 0 = 1))) ?_ ?_ ?_ ?_
    · exact hcf 1 _ _ _ _
    · simp
      exact hcf 1 _ _ _ _
    · subst hb
      exact fin _ _ _ _ hl2
    · subst hb
      exact fin _ _ _ _ hl2
  obtain ⟨r',h1,A,q,l1,l2,o3,o4,o5,rfl,h2,h3,h4⟩:=zF9 (zNZ (j:=3) (n:=n) (r:=[some (mat T,0),some (mat T,2),some (.int 0,0),none,none,none]) _ ⟨T,0,2,0,none,none,none,rfl,Rk.start hr,by omega,by omega⟩ body (X:=RkS n T n) fun r h=>h)
  exact ⟨q,A,l1,l2,o3,o4,o5,h2,h4,h1⟩
end Mp

namespace Mp
open Mi PySem
noncomputable def zE3 (n i:Nat):List Int:=(List.range n).map fun j=>if j = i then 1 else 0
theorem zB6 {n k:Nat} {g:Nat→Int} (h:k < n):((List.range n).map g).getD k 0 = g k:=by
  simp [List.getD_eq_getElem?_getD,h]
theorem zJ1 (n i:Nat):RowN n (zE3 n i):=⟨by simp [zE3],fun x hx=>by
  obtain ⟨k,_,rfl⟩:=List.mem_map.mp hx
  show Bit (if _ then 1 else 0)
  split <;> simp [Bit]⟩
theorem zS7 {n i:Nat} {v:List Int} (hi:i < n) (hv:v.length = n):dot (zE3 n i) v = v.getD i 0:=by
  rw [zDR _ v n (by omega),zCF hi fun k hk hki=>?_]
  · rw [zE3,zB6 hi,if_pos rfl]; simp
  · rw [zE3,zB6 hk,if_neg hki]; simp
def aug (n:Nat) (T:List (List Int)):List (List Int):=(List.range n).map fun i=>T.getD i [] ++ zE3 n i
theorem zV7 {n:Nat} {T:List (List Int)} (hT:T.length = n) (hr:∀ r∈T,RowN n r) {u v:List Int} (hu:u.length = n) (hv:v.length = n):Ker (aug n T) (u ++ v) ↔ ∀ i,i < n→(dot (T.getD i []) u + v.getD i 0) % 2 = 0:=by
  have key:∀ i,i < n→dot (T.getD i [] ++ zE3 n i) (u ++ v) = dot (T.getD i []) u + v.getD i 0:=fun i hi=>by
    rw [zJS _ _ _ _ (by rw [(hr _ (zAM (by omega))).1,hu]),zS7 hi hv]
  constructor
  · intro h i hi
    rw [← key i hi]
    exact h _ (List.mem_map.mpr ⟨i,by simpa using hi,rfl⟩)
  · intro h r hr
    obtain ⟨i,hi,rfl⟩:=List.mem_map.mp hr
    have hi':i < n:=by simpa using hi
    rw [key i hi']
    exact h i hi'
theorem zSK {n:Nat} {T:List (List Int)} (hT:T.length = n) (hr:∀ r∈T,RowN n r) {u:List Int} (hu:u.length = n) (h:Ker (aug n T) u):Ker T u:=by
  intro r hrt
  obtain ⟨i,hi,rfl⟩:=zEO (d:=[]) hrt
  have:=h _ (List.mem_map.mpr ⟨i,by simp; omega,rfl⟩)
  rw [← List.append_nil u,zJS _ _ _ _ (by rw [(hr _ (zAM hi)).1,hu]),zUX] at this
  simpa using this
structure Un (n:Nat) (T A:List (List Int)) (c:Nat):Prop where
  len:A.length = n
  rows:∀ r∈A,RowN (n + n) r
  unit:zV9 A c
  ker:∀ x,(∀ y∈x,Bit y)→(Ker A x ↔ Ker (aug n T) x)
theorem Un.none {n c:Nat} {T A:List (List Int)} (a:Un n T A c) (hT:T.length = n) (hr:∀ r∈T,RowN n r) (hc:c < n) (h:∀ t,c≤t→t < n→ent A t c≠1):∃ x,RowN n x∧Ker T x∧∃ j,j < n∧x.getD j 0 = 1:=by
  let x:List Int:=(List.range n).map fun k=>if k < c then ent A k c else if k = c then 1 else 0
  have hx:∀ k,k < n→x.getD k 0 = if k < c then ent A k c else if k = c then 1 else 0:=fun k hk=>zB6 hk
  have hl:=a.len
  have hxr:RowN n x:=⟨by simp [x],fun y hy=>by
    obtain ⟨k,hk,rfl⟩:=List.mem_map.mp hy
    have hk':k < n:=by simpa using hk
    show Bit (if k < c then ent A k c else if k = c then 1 else 0)
    split
    · exact zHR a.rows (by omega) (by omega)
    · split <;> simp [Bit]⟩
  refine ⟨x,hxr,zSK hT hr hxr.1 ((a.ker x hxr.2).mp fun r hrA=>?_),c,hc,by rw [hx c hc,if_neg (by omega),if_pos rfl]⟩
  obtain ⟨i,hi,rfl⟩:=zEO (d:=[]) hrA
  rw [zDR _ x n (by rw [hxr.1]; exact Nat.le_refl _)]
  by_cases hic:i < c
  · rw [zQZ hic hc fun k hk h1 h2=>?_]
    · rw [hx i (by omega),if_pos hic,hx c hc,if_neg (by omega),if_pos rfl]
      have:=a.unit i i hi hic
      rw [if_pos rfl] at this
      show (ent A i i * ent A i c + ent A i c * 1) % 2 = 0
      rw [this]
      omega
    · rw [hx k hk]
      by_cases hkc:k < c
      · have:=a.unit i k hi hkc
        rw [if_neg (fun z=>h1 z.symm)] at this
        show ent A i k * _ = 0
        rw [this]
        simp
      · rw [if_neg hkc,if_neg h2]; simp
  · rw [zBT fun k hk=>?_]
    · rfl
    · rw [hx k hk]
      by_cases hkc:k < c
      · have:=a.unit i k hi hkc
        rw [if_neg (by omega)] at this
        show ent A i k * _ = 0
        rw [this]
        simp
      · rw [if_neg hkc]
        by_cases h2:k = c
        · subst h2
          have hb:=zHR (k:=k) a.rows hi (by omega)
          have:ent A i k = 0:=hb.elim (fun z=>z) fun z=>absurd z (h i (by omega) (by omega))
          show ent A i k * _ = 0
          rw [this]
          simp
        · rw [if_neg h2]; simp
theorem Un.full {n:Nat} {T A:List (List Int)} (a:Un n T A n) (hT:T.length = n) (hr:∀ r∈T,RowN n r) {u v:List Int} (hu:RowN n u) (hv:RowN n v) :
    (∀ i,i < n→(dot (T.getD i []) u + v.getD i 0) % 2 = 0) ↔ ∀ i,i < n→(u.getD i 0 + dot ((A.map (List.drop n)).getD i []) v) % 2 = 0:=by
  have hl:=a.len
  rw [← zV7 hT hr hu.1 hv.1,← a.ker (u ++ v) fun y hy=>(List.mem_append.mp hy).elim (hu.2 y) (hv.2 y)]
  have key:∀ i,i < n→dot (A.getD i []) (u ++ v) = u.getD i 0 + dot ((A.map (List.drop n)).getD i []) v:=fun i hi=>by
    have hrow:=a.rows _ (zAM (d:=[]) (i:=i) (by omega))
    rw [zEP (d:=[]) (by omega)]
    conv=>lhs; rw [← List.take_append_drop n (A.getD i [])]
    rw [zJS _ _ _ _ (by rw [hu.1,List.length_take,hrow.1]; omega)]
    congr 1
    rw [zDR _ u n (by rw [hu.1]; exact Nat.le_refl _)]
    have e:∀ k,k < n→((A.getD i []).take n).getD k 0 = if i = k then 1 else 0:=fun k hk=>by
      have:=a.unit i k (by omega) hk
      unfold ent at this
      rw [← this]
      generalize A.getD i [] = row
      rw [List.getD_eq_getElem?_getD,List.getD_eq_getElem?_getD,List.getElem?_take_of_lt hk]
    rw [zCF hi fun k hk hki=>by rw [e k hk,if_neg (fun z=>hki z.symm)]; simp,e i hi,if_pos rfl]
    simp
  constructor
  · intro h i hi
    rw [← key i hi]
    exact h _ (zAM (by omega))
  · intro h r hrA
    obtain ⟨i,hi,rfl⟩:=zEO (d:=[]) hrA
    rw [key i (by omega)]
    exact h i (by omega)
theorem Un.start {n:Nat} {T:List (List Int)} (hT:T.length = n) (hr:∀ r∈T,RowN n r):Un n T (aug n T) 0:=by
  refine ⟨by simp [aug],fun r hrA=>?_,fun i k _ hk=>by omega,fun _ _=>Iff.rfl⟩
  obtain ⟨i,hi,rfl⟩:=List.mem_map.mp hrA
  have h1:=hr _ (zAM (d:=[]) (i:=i) (by rw [hT]; simpa using hi))
  have h2:=zJ1 n i
  exact ⟨by rw [List.length_append,h1.1,h2.1],fun x hx=>(List.mem_append.mp hx).elim (h1.2 x) (h2.2 x)⟩
theorem Un.step {n c t:Nat} {T A:List (List Int)} (a:Un n T A c) (hc:c < n) (ht:c≤t) (htn:t < n) (h:ent A t c = 1):Un n T (clr A c t) (c + 1):=by
  have hl:=a.len
  exact ⟨by rw [zHZ,a.len],zSG a.rows (by omega) ht,zSF a.rows (by omega) ht h (by omega) a.unit,fun x hx=>(zV5 a.rows (by omega) ht x hx).trans (a.ker x hx)⟩
end Mp

namespace Mp
open Mi PySem
def eiR (x:R Out) (P:Ro→Prop) (Q:Dt→Prop):Prop:=(∃ r,x = okR (.nx r)∧P r)∨∃ d,x = okR (.rt d)∧Q d
theorem zD2 {x:R Out} {P:Ro→Prop} {Q:Dt→Prop} (h:nxR x P):eiR x P Q:=.inl (zF9 h)
theorem zYQ {j n:Nat} {b:SM} {r:Ro} (Pv:Nat→Ro→Prop) (Q:Dt→Prop) (h:Pv 0 r) (hs:∀ k,k < n→∀ r,Pv k r→eiR (b (r.set j (some (.int (k:Nat),0)))) (Pv (k + 1)) Q):eiR (forGo (.one j) b (nums 0 n) r) (Pv n) Q:=by
  have go:∀ (m k:Nat) (r:Ro),k + m = n→Pv k r→eiR (forGo (.one j) b ((List.range' k m).map fun i:Nat=>Dt.int (i:Int)) r) (Pv n) Q:=by
    intro m
    induction m with
    | zero=>intro k r hk hp; exact .inl ⟨r,rfl,by rw [← hk]; exact hp⟩
    | succ m ih =>
      intro k r hk hp
      rw [List.range'_succ,List.map_cons,forGo]
      show eiR (zA3 (b (r.set j (some (.int (k:Nat),0)))) _) _ _
      rcases hs k (by omega) r hp with ⟨r',e,h'⟩ | ⟨d,e,hq⟩
      · rw [e,zA0]
        exact ih (k + 1) r' (by omega) h'
      · rw [e,zA0]
        exact .inr ⟨d,rfl,hq⟩
  rw [zD7,List.range_eq_range']
  exact go n 0 r (by omega) h
theorem zBS {a b:SM} {r:Ro} {P P':Ro→Prop} {Q:Dt→Prop} (h:eiR (a r) P Q) (hb:∀ r',P r'→eiR (b r') P' Q):eiR (sSeq a b r) P' Q:=by
  unfold sSeq
  rcases h with ⟨r',e,h'⟩ | ⟨d,e,hq⟩
  · rw [e,zA0]; exact hb r' h'
  · rw [e,zA0]; exact .inr ⟨d,rfl,hq⟩
theorem zQL {n:Nat} {a b:List Int} (h:RowN n a) (h':RowN n b) (hn:n≤1000):zG8 [rowD a,rowD b] = okR (rowD (addB a b)):=by
  rw [zIY h.1 h'.1]
  unfold zG8 zQJ
  have hc:eComp (iR1 (aCons (eBi lenD (aCons (eV 0) aNil)) aNil)) 1 (.one 2) Mi.tYes (eB xorD (eB ixD (eV 0) (eV 2)) (eB ixD (eV 1) (eV 2))) [some (rowD a),some (rowD b)] = okR (rowD ((List.range n).map fun j=>(a.getD j 0 + b.getD j 0) % 2)):=by
    refine zNF _ rfl (by omega) (zDL (by simp [-List.getD_eq_getElem?_getD,h.1]) (by omega)) fun j hj=>?_
    have i1:=zIF a j (by rw [h.1]; exact hj)
    have i2:=zIF b j (by rw [h'.1]; exact hj)
    simp [-List.getD_eq_getElem?_getD,i1,i2,zTD (zBN (k:=j) h) (zBN (k:=j) h')]
  simp [hc]
theorem zOM (n i:Nat) (hn:n≤1000):zCV [.int (n:Int),.int (i:Int)] = okR (rowD (zE3 n i)):=by
  unfold zCV zIV
  have hc:eComp (iR1 (aCons (eV 0) aNil)) 1 (.one 2) Mi.tYes (eIf (tB (eB eqD (eV 2) (eV 1))) (eC (.int 1)) (eC (.int 0))) [some (.int (n:Int)),some (.int (i:Int))] = okR (rowD (zE3 n i)):=by
    refine zNF _ rfl (by omega) (zDL (by simp) (by omega)) fun j hj=>?_
    by_cases h:j = i
    · subst h; simp
    · simp [h,show ¬ (j:Int) = (i:Int) by omega]
  simp [hc]
theorem zL6 {A:List (List Int)} {c t m:Nat} (hm:∀ r∈A,RowN m r) (ht:t < A.length) (hc:c≤t) (hcm:c < m) (hz:m≤1000) (hA:A.length≤1000):zDH [mat A,.int (c:Int),.int (t:Int)] = okR (mat (clr A c t)):=by
  have hlr:=hm _ (zAM (d:=[]) ht)
  have hcomp:∀ o2 o4:Option Dt,eComp (iSq (eV 0)) 1 (.one 5) Mi.tYes (eIf (tB (eB eqD (eB ixD (eV 5) (eV 1)) (eC (.int 1)))) (eCall zG8 (aCons (eV 5) (aCons (eV 3) aNil))) (eV 5)) [some (mat A),some (.int (c:Int)),o2,some (rowD (A.getD t [])),o4] = okR (mat (oth A c (A.getD t []))):=by
    intro o2 o4
    refine Eq.trans (zC3 (i:=5) rowD (fun r=>rowD (if r.getD c 0 = 1 then addB r (A.getD t []) else r)) A rfl rfl (fun r hr=>?_) _ (by simp [mat]) (by omega)) ?_
    · have h1:=hm r hr
      have i1:=zIF r c (by rw [h1.1]; exact hcm)
      have a1:=zQL h1 hlr hz
      by_cases h:r.getD c 0 = 1
      · simp [-List.getD_eq_getElem?_getD,i1,h,a1]
      · simp [-List.getD_eq_getElem?_getD,i1,h]
    · unfold mat oth; rw [List.map_map]; rfl
  have i0:=zPR A t ht
  unfold zDH zLF
  refine zD5 rfl (zBR fun bb hb=>?_)
  simp [startO,i0]
  subst hb
  refine zBR fun bb hb=>?_
  have fin:∀ l0 l1 l2 l3,bb [some (mat A,l0),some (.int (c:Int),l1),some (.int (t:Int),l2),some (rowD (A.getD t []),l3),some (mat (oth A c (A.getD t [])),1)] = okR (.rt (mat (clr A c t))):=by
    intro l0 l1 l2 l3
    subst hb
    have hol:=zHD A c (A.getD t [])
    have i1:itA ((oth A c (A.getD t [])).map rowD) (c:Int) = some (rowD ((oth A c (A.getD t [])).getD c [])):=zPR (oth A c (A.getD t [])) c (by omega)
    have q1:ixA (oth A c (A.getD t [])).length (t:Int) = some t:=by rw [zIN (by omega) (by omega)]; simp
    refine zBR fun bb hb=>?_
    refine zB5 (r:=[some (mat A,l0),some (.int (c:Int),l1),some (.int (t:Int),l2),some (rowD (A.getD t []),l3),some (mat ((oth A c (A.getD t [])).set t ((oth A c (A.getD t [])).getD c [])),1)]) ?_ ?_
    · unfold sItemS
      simp only [low,mat,List.getElem?_cons_succ,List.getElem?_cons_zero,List.set_cons_succ,List.set_cons_zero]
      simp [-List.getD_eq_getElem?_getD,i1,q1]
    subst hb
    refine zBR fun bb hb=>?_
    have q2:ixA (oth A c (A.getD t [])).length (c:Int) = some c:=by rw [zIN (by omega) (by omega)]; simp [-List.getD_eq_getElem?_getD]
    refine zB5 (r:=[some (mat A,l0),some (.int (c:Int),l1),some (.int (t:Int),l2),some (rowD (A.getD t []),0),some (mat (clr A c t),1)]) ?_ ?_
    · unfold sItemF
      simp only [low,mat,List.getElem?_cons_succ,List.getElem?_cons_zero,List.set_cons_succ,List.set_cons_zero]
      simp [-List.getD_eq_getElem?_getD,q2,clr]
    subst hb
    simp [sRetV]
  exact zE4 (hcomp _ _) (by simp; exact hcomp _ _) (fin _ _ _ _) (fin _ _ _ _)
def UnD (n:Nat) (T:List (List Int)) (d:Dt):Prop :=
  (d = .non∧∃ x,RowN n x∧Ker T x∧∃ j,j < n∧x.getD j 0 = 1)∨∃ R,d = mat R∧R.length = n∧(∀ r∈R,RowN n r)∧∀ u v,RowN n u→RowN n v→((∀ i,i < n→(dot (T.getD i []) u + v.getD i 0) % 2 = 0) ↔ ∀ i,i < n→(u.getD i 0 + dot (R.getD i []) v) % 2 = 0)
def UnS (n:Nat) (T:List (List Int)) (c:Nat) (r:Ro):Prop:=∃ A l0 l2 o3 o4,r = [some (mat T,l0),some (.int (n:Int),0),some (mat A,l2),o3,o4]∧Un n T A c
theorem zK4 (n:Nat) (T:List (List Int)) (hT:T.length = n) (hr:∀ r∈T,RowN n r) (hn:n≤10):∃ d,zDG [mat T] = okR d∧UnD n T d:=by
  suffices h:eiR (zI2 [some (mat T,0),none,none,none,none]) (fun _=>False) (UnD n T) by
    rcases h with ⟨_,_,z⟩ | ⟨d,h1,h2⟩
    · exact z.elim
    · exact ⟨d,zD5 rfl h1,h2⟩
  unfold zI2
  refine zBS (P:=fun r=>r = [some (mat T,0),some (.int (n:Int),0),none,none,none]) (zD2 (by simp [hT])) ?_
  rintro r rfl
  refine zBS (P:=UnS n T 0) (zD2 ?_) ?_
  · have hc:∀ o2 o3 o4:Option Dt,eComp (iR1 (aCons (eV 1) aNil)) 1 (.one 5) Mi.tYes (eB addD (eB ixD (eV 0) (eV 5)) (eCall zCV (aCons (eV 1) (aCons (eV 5) aNil)))) [some (mat T),some (.int (n:Int)),o2,o3,o4] = okR (mat (aug n T)):=by
      intro o2 o3 o4
      refine Eq.trans (zDK (fun i=>rowD (T.getD i [] ++ zE3 n i)) n rfl rfl (fun i hi=>?_) _ (zDL (by simp [-List.getD_eq_getElem?_getD]) (by omega)) (by omega)) ?_
      · have i0:=zPR T i (by omega)
        have u0:=zOM n i (by omega)
        have a0:=addR (T.getD i []) (zE3 n i) (by rw [(hr _ (zAM (by omega))).1,(zJ1 n i).1]; omega)
        simp [-List.getD_eq_getElem?_getD,i0,u0,a0]
      · unfold mat aug; rw [List.map_map]; rfl
    exact zE4 (hc _ _ _) (by simp; exact hc _ _ _) ⟨aug n T,_,_,_,_,rfl,Un.start hT hr⟩ ⟨aug n T,_,_,_,_,rfl,Un.start hT hr⟩
  intro r hr0
  refine zBS (P:=UnS n T n) ?_ ?_
  · obtain ⟨A,l0,l2,o3,o4,rfl,ha⟩:=hr0
    rw [zE2]
    rw [zDL (n:=n) (by simp) (by omega),zA0]
    refine zYQ (UnS n T) (UnD n T) ⟨A,l0,l2,o3,o4,rfl,ha⟩ ?_
    rintro c hc r ⟨A,l0,l2,o3,o4,rfl,ha⟩
    have hlA:=ha.len
    let ls:List Nat:=((List.range (n - c)).map fun k=>c + k).filter fun t=>decide (ent A t c = 1)
    have hls:∀ o0 o4:Option Dt,eComp (iR2 (aCons (eV 3) (aCons (eV 1) aNil))) 1 (.one 5) (tB (eB eqD (eB ixD (eB ixD (eV 2) (eV 5)) (eV 3)) (eC (.int 1)))) (eV 5) [o0,some (.int (n:Int)),some (mat A),some (.int (c:Nat)),o4] = okR (.lst (ls.map fun t:Nat=>Dt.int (t:Int))):=by
      intro o0 o4
      refine zBA (fun t:Nat=>Dt.int (t:Int)) _ (fun t=>decide (ent A t c = 1)) ((List.range (n - c)).map fun k=>c + k) rfl (fun t ht=>?_) (fun t ht _=>by simp) _ ?_ (by simp; omega)
      · obtain ⟨k,hk,rfl⟩:=List.mem_map.mp ht
        have hk':k < n - c:=by simpa using hk
        have i1:=zPR A (c + k) (by omega)
        have i2:=zIF (A.getD (c + k) []) c (by rw [(ha.rows _ (zAM (by omega))).1]; omega)
        have i1':ixD (mat A) (.int ((c:Int) + (k:Int))) = some (rowD (A.getD (c + k) [])):=by rw [← i1]; congr 2
        simp [-List.getD_eq_getElem?_getD,i1',i2,ent]
        rfl
      · unfold iR2
        simp
        rw [if_pos (by omega)]
        unfold nums
        congr 2
    refine zBS (P:=fun r=>∃ l0 l2 o4,r = [some (mat T,l0),some (.int (n:Int),0),some (mat A,l2),some (.int (c:Nat),0),some (.lst (ls.map fun t:Nat=>Dt.int (t:Int)),o4)]) (zD2 ?_) ?_
    · exact zE4 (hls _ _) (by simp; exact hls _ _) ⟨_,_,_,rfl⟩ ⟨_,_,_,rfl⟩
    rintro r ⟨l0,l2,l4,rfl⟩
    cases hlz:ls with
    | nil =>
      refine .inr ⟨.non,zVR ?_,.inl ⟨rfl,ha.none hT hr hc fun t h1 h2 h3=>?_⟩⟩
      · simp
      · have:t∈ls:=List.mem_filter.mpr ⟨List.mem_map.mpr ⟨t - c,by simp; omega,by omega⟩,by simpa using h3⟩
        rw [hlz] at this
        simp at this
    | cons t l =>
      have ht:t∈ls:=by rw [hlz]; simp
      obtain ⟨g1,g2⟩:=List.mem_filter.mp ht
      obtain ⟨k,g3,rfl⟩:=List.mem_map.mp g1
      have g4:k < n - c:=by simpa using g3
      have g5:ent A (c + k) c = 1:=by simpa using g2
      refine zBS (P:=fun r=>r = [some (mat T,l0),some (.int (n:Int),0),some (mat A,l2),some (.int (c:Nat),0),some (.lst (((c + k) :: l).map fun t:Nat=>Dt.int (t:Int)),l4)]) (zD2 (by simp)) ?_
      rintro r rfl
      clear hls
      have i0:ixD (.lst (((c + k) :: l).map fun t:Nat=>Dt.int (t:Int))) (.int 0) = some (.int ((c + k:Nat):Int)):=zEE (i:=0) rfl (by simp)
      have cl:=zL6 (A:=A) (c:=c) (t:=c + k) ha.rows (by omega) (by omega) (by omega) (by omega) (by omega)
      generalize Dt.lst (((c + k) :: l).map fun t:Nat=>Dt.int (t:Int)) = L at i0
      have he:∀ o0 o1:Option Dt,eCall zDH (aCons (eV 2) (aCons (eV 3) (aCons (eB ixD (eV 4) (eC (.int 0))) aNil))) [o0,o1,some (mat A),some (.int (c:Nat)),some L] = okR (mat (clr A c (c + k))):=by
        intro o0 o1
        simp only [zGX,zF1,zGY,x_eV,x_eB,x_eC,List.getElem?_cons_succ,List.getElem?_cons_zero,zA0,i0,zAB]
        exact cl
      exact zD2 (zE4 (he _ _) (by simp [i0,← Int.natCast_add,cl]) ⟨_,_,_,_,_,rfl,ha.step hc (by omega) (by omega) g5⟩ ⟨_,_,_,_,_,rfl,ha.step hc (by omega) (by omega) g5⟩)
  · rintro r ⟨A,l0,l2,o3,o4,rfl,ha⟩
    have hlA:=ha.len
    have hc:∀ o0 o3 o4:Option Dt,eComp (iSq (eV 2)) 1 (.one 5) Mi.tYes (eSl (eV 5) (oE (eV 1)) oNo) [o0,some (.int (n:Int)),some (mat A),o3,o4] = okR (mat (A.map (List.drop n))):=by
      intro o0 o3 o4
      refine Eq.trans (zC3 (i:=5) rowD (fun r=>rowD (r.drop n)) A rfl rfl (fun r hrA=>?_) _ (by simp [mat]) (by omega)) ?_
      · simp [zQB,zND]
      · unfold mat; rw [List.map_map]; rfl
    have hd:=zDT (A.map (List.drop n))
    refine .inr ⟨mat (A.map (List.drop n)),?_,.inr ⟨_,rfl,by simp [hlA],fun r hrA=>?_,fun u v hu hv=>ha.full hT hr hu hv⟩⟩
    · simp [hc,hd]
    · obtain ⟨q,hq,rfl⟩:=List.mem_map.mp hrA
      have h1:=ha.rows q hq
      exact ⟨by rw [List.length_drop,h1.1]; omega,fun x hx=>h1.2 x (List.mem_of_mem_drop hx)⟩
end Mp

namespace Mp
open Mi PySem
theorem zL2 {ρ:Rh} {e:EM} {i j:Nat} (xs:List Dt) (g:Nat→Dt) (hi:i = ρ.length) (hj:j = ρ.length + 1) (it:IM) (hit:it ρ = okR (enumD 0 xs)) (hn:xs.length≤100000) (h:∀ k x,xs[k]? = some x→e (ρ ++ [some (.int (k:Nat)),some x]) = okR (g k)):eComp it 2 (.tup [i,j]) tYes e ρ = okR (.lst ((List.range xs.length).map g)):=by
  subst hi hj
  unfold eComp
  rw [hit,zA0,if_pos ⟨by rw [zN7]; exact hn,by simp [Tg.idx]⟩]
  have go:∀ (m k:Nat) (acc:List Dt),k + m = xs.length→compGo ρ 2 (.tup [ρ.length,ρ.length + 1]) tYes e (enumD k (xs.drop k)) acc = okR (acc ++ (List.range' k m).map g):=by
    intro m
    induction m with
    | zero =>
      intro k acc hk
      rw [List.drop_of_length_le (by omega)]
      simp [enumD,compGo]
    | succ m ih =>
      intro k acc hk
      have hx:xs[k]? = some xs[k]:=List.getElem?_eq_getElem (by omega)
      rw [List.drop_eq_getElem_cons (by omega),enumD,compGo]
      have es:zB0 (ρ ++ List.replicate 2 none) [(ρ.length,.int (k:Nat)),(ρ.length + 1,xs[k])] = ρ ++ [some (.int (k:Nat)),some xs[k]]:=by
        simp [zB0]
      show zA3 (tYes (zB0 (ρ ++ List.replicate 2 none) [(ρ.length,.int (k:Nat)),(ρ.length + 1,xs[k])])) _ = _
      rw [es]
      show zA3 (okR true) _ = _
      rw [zA0,if_pos rfl]
      show zA3 (e (zB0 (ρ ++ List.replicate 2 none) [(ρ.length,.int (k:Nat)),(ρ.length + 1,xs[k])])) _ = _
      rw [es,h k _ hx,zA0,ih (k + 1) _ (by omega),List.range'_succ]
      simp
  have:=go xs.length 0 [] (by omega)
  rw [List.drop_zero] at this
  rw [this,zA0,List.range_eq_range']
  simp
noncomputable def rowF (i j:Nat) (f:Nat→Nat→Int):Nat→Nat→Int:=fun a b=>if a = j then (f a b + f i b) % 2 else f a b
noncomputable def colF (i j:Nat) (f:Nat→Nat→Int):Nat→Nat→Int:=fun a b=>if b = j then (f a j + f a i) % 2 else f a b
theorem zTR {n j:Nat} {g:Nat→Int} {v:Int} (hj:j < n):(((List.range n).map g).map Dt.int).set j (.int v) = ((List.range n).map fun b=>if b = j then v else g b).map Dt.int:=by
  apply List.ext_getElem?
  intro y
  rw [List.getElem?_set]
  by_cases hy:j = y
  · subst hy; simp [hj]
  · rw [if_neg hy]
    by_cases h:y < n
    · simp [h,show ¬ y = j by omega]
    · simp [h]
theorem zH9 {ρ:Rh} {r:Nat} {e1 e2:EM} (f g:Nat→Dt):∀ l:List Nat,(∀ a∈l,rowSet ρ r e1 e2 (f a) = some (g a))→rowsSet ρ r e1 e2 (l.map f) = some (l.map g)
  | [],_=>rfl
  | a :: l,h=>by
    rw [List.map_cons,rowsSet,h a (by simp)]
    dsimp only
    rw [zH9 f g l fun b hb=>h b (by simp [hb])]
    rfl
theorem zP0 {ρ:Rh} {r p:Nat} {e1 e2:EM} {ds:List Dt} {v z:Int} (h2:e2 (ρ.set r (some (.lst ds))) = okR (.int v)) (h1:e1 (ρ.set r (some (.lst ds))) = okR (.int z)) (hp:ixA ds.length z = some p):rowSet ρ r e1 e2 (.lst ds) = some (.lst (ds.set p (.int v))):=by
  unfold rowSet
  dsimp only
  rw [h2,h1]
  show (match ixA ds.length z with | some p=>some (Dt.lst (ds.set p (.int v))) | none=>none) = _
  rw [hp]
theorem zO1 (n:Nat) (f:Nat→Nat→Int) (c:Int) (h1:1 < n) (hn:n≤10):∃ i j,i < n∧j < n∧i≠j∧zBG [mat (tab n f),.int c] = okR (mat (tab n (colF i j (rowF i j f)))):=by
  have hnp:(0:Int) < (n:Int):=by omega
  have hn1:(0:Int) < (n:Int) - 1:=by omega
  obtain ⟨i,hi⟩:∃ i:Nat,c % (n:Int) = (i:Int):=⟨(c % (n:Int)).toNat,by have:=Int.emod_nonneg c (show (n:Int)≠0 by omega); omega⟩
  have hin:i < n:=by have:=Int.emod_lt_of_pos c hnp; omega
  obtain ⟨m,hm⟩:∃ m:Nat,c / (n:Int) % ((n:Int) - 1) = (m:Int):=⟨(c / (n:Int) % ((n:Int) - 1)).toNat,by have:=Int.emod_nonneg (c / (n:Int)) (show (n:Int) - 1≠0 by omega); omega⟩
  have hmn:(m:Int) < (n:Int) - 1:=by have:=Int.emod_lt_of_pos (c / (n:Int)) hn1; omega
  obtain ⟨j,hj⟩:∃ j:Nat,((i:Int) + 1 + (m:Int)) % (n:Int) = (j:Int):=⟨(((i:Int) + 1 + (m:Int)) % (n:Int)).toNat,by have:=Int.emod_nonneg ((i:Int) + 1 + (m:Int)) (show (n:Int)≠0 by omega); omega⟩
  have hjn:j < n:=by have:=Int.emod_lt_of_pos ((i:Int) + 1 + (m:Int)) hnp; omega
  have hij:i≠j:=by
    intro z
    subst z
    have e:=Int.mul_ediv_add_emod ((i:Int) + 1 + (m:Int)) (n:Int)
    rw [hj] at e
    generalize hq:((i:Int) + 1 + (m:Int)) / (n:Int) = q at e
    have h2:(n:Int) * q = 1 + m:=by omega
    have h3:0 < q:=by
      by_cases h:0 < q
      · exact h
      · have:=Int.mul_nonneg (show (0:Int)≤(n:Int) by omega) (show 0≤-q by omega)
        rw [Int.mul_neg] at this
        omega
    have h4:(n:Int) * 1≤(n:Int) * q:=Int.mul_le_mul_of_nonneg_left (by omega) (by omega)
    omega
  refine ⟨i,j,hin,hjn,hij,?_⟩
  unfold zBG zEI
  refine zD5 rfl (zBR fun bb hb=>?_)
  simp [startO,zC4]
  subst hb
  refine zBR fun bb hb=>?_
  simp [show 0 < n by omega,hi]
  subst hb
  refine zBR fun bb hb=>?_
  have d1:divD (.int c) (.int (n:Int)) = some (.int (c / (n:Int))):=by simp [hnp,show (n:Int) < 1000000000000000000000000 by omega]; omega
  have d2:modD (.int (c / (n:Int))) (.int ((n:Int) - 1)) = some (.int (m:Int)):=by simp [hn1,hm]; omega
  have d3:modD (.int ((i:Int) + 1 + (m:Int))) (.int (n:Int)) = some (.int (j:Int)):=by simp [show 0 < n by omega,hj]
  simp only [zFD,x_eB,x_eV,x_eC,zF0,zFY,List.getElem?_cons_succ,List.getElem?_cons_zero,Option.map_some,Option.map_none,zA0]
  simp only [d1,d2,zAB,zA0,zTH,zY3,d3]
  simp
  subst hb
  refine zBR fun bb hb=>?_
  have hc:eComp (iEn (aCons (eV 0) aNil)) 2 (.tup [6,7]) Mi.tYes (eIf (tB (eB eqD (eV 6) (eV 4))) (eCall zAN (aCons (eV 7) (aCons (eB ixD (eV 0) (eV 3)) aNil))) (eBi listD (aCons (eV 7) aNil))) [some (mat (tab n f)),some (.int c),some (.int (n:Int)),some (.int (i:Int)),some (.int (j:Int)),none] = okR (mat (tab n (rowF i j f))):=by
    refine Eq.trans (zL2 ((tab n f).map rowD) (fun a=>rowD ((List.range n).map fun b=>rowF i j f a b)) rfl rfl _ (by simp [mat]) (by simp [zC4]; omega) fun k x hx=>?_) ?_
    · have hk:k < n:=by have:=(List.getElem?_eq_some_iff.mp hx).1; simpa [zC4] using this
      rw [List.getElem?_map,zF2 hk] at hx
      cases hx
      have i0:=ixM (f:=f) hin
      have a0:=zFK n (fun b=>f k b) (fun b=>f i b) hn
      by_cases h:k = j
      · subst h
        simp [i0,a0,rowF]
      · simp [h,show ¬ (k:Int) = (j:Int) by omega,rowF]
    · rw [List.length_map,zC4]
      unfold mat tab
      rw [List.map_map]
      rfl
  have hd:=zDT (tab n (rowF i j f))
  rw [zFD]
  show nxR (zA3 (eComp _ _ _ _ _ [some (mat (tab n f)),some (.int c),some (.int (n:Int)),some (.int (i:Int)),some (.int (j:Int)),none]) _) _
  rw [hc,zA0,if_pos hd]
  subst hb
  show sSeq _ _ [some (mat (tab n (rowF i j f)),2),some (.int c,0),some (.int (n:Int),0),some (.int (i:Int),0),some (.int (j:Int),0),none] = _
  refine zBR fun bb hb=>?_
  refine zB5 (r:=[some (mat (tab n (colF i j (rowF i j f))),2),some (.int c,0),some (.int (n:Int),0),some (.int (i:Int),0),some (.int (j:Int),0),none]) ?_ ?_
  · generalize rowF i j f = g
    have hrs:=zH9 (ρ:=[none,some (.int c),some (.int (n:Int)),some (.int (i:Int)),some (.int (j:Int)),none]) (r:=5) (e1:=eV 4) (e2:=eB modD (eB addD (eB ixD (eV 5) (eV 4)) (eB ixD (eV 5) (eV 3))) (eC (.int 2))) (fun a=>rowD ((List.range n).map fun b=>g a b)) (fun a=>rowD ((List.range n).map fun b=>colF i j g a b)) (List.range n) fun a _=>by
      have i1:=ixR (g:=fun b=>g a b) hjn
      have i2:=ixR (g:=fun b=>g a b) hin
      have hr:rowD ((List.range n).map fun b=>g a b) = .lst (((List.range n).map fun b=>g a b).map Dt.int):=rfl
      have e2:eB modD (eB addD (eB ixD (eV 5) (eV 4)) (eB ixD (eV 5) (eV 3))) (eC (.int 2)) [none,some (.int c),some (.int (n:Int)),some (.int (i:Int)),some (.int (j:Int)),some (rowD ((List.range n).map fun b=>g a b))] = okR (.int ((g a j + g a i) % 2)):=by
        simp [i1,i2]
      have q1:ixA (((List.range n).map fun b=>g a b).map Dt.int).length (j:Int) = some j:=by rw [zIN (by omega) (by simp; omega)]; simp
      have:=zP0 (ρ:=[none,some (.int c),some (.int (n:Int)),some (.int (i:Int)),some (.int (j:Int)),none]) (r:=5) (e1:=eV 4) (ds:=((List.range n).map fun b=>g a b).map Dt.int) (z:=(j:Int)) e2 (by simp) q1
      rw [zTR hjn] at this
      exact this
    unfold sForSet
    show (match rowsSet [none,some (.int c),some (.int (n:Int)),some (.int (i:Int)),some (.int (j:Int)),none] 5 (eV 4) (eB modD (eB addD (eB ixD (eV 5) (eV 4)) (eB ixD (eV 5) (eV 3))) (eC (.int 2))) ((tab n g).map rowD) with | some rs'=>_ | none=>_) = _
    have ht:((tab n g).map rowD) = (List.range n).map fun a=>rowD ((List.range n).map fun b=>g a b):=by unfold tab; rw [List.map_map]; rfl
    have ht2:mat (tab n (colF i j g)) = .lst ((List.range n).map fun a=>rowD ((List.range n).map fun b=>colF i j g a b)):=by unfold mat tab; rw [List.map_map]; rfl
    rw [ht,hrs]
    simp [ht2]
  subst hb
  simp [sRetV]
end Mp

namespace Mp
open Mi PySem
theorem zFS {n:Nat} {g:Nat→Int} {x:List Int} (hx:x.length = n):dot ((List.range n).map g) x = sumN n fun k=>g k * x.getD k 0:=by
  rw [zDR _ x n (by omega)]
  unfold sumN
  congr 1
  refine List.map_congr_left fun k hk=>?_
  rw [zB6 (by simpa using hk)]
def NS (n:Nat) (f:Nat→Nat→Int):Prop:=∀ x,RowN n x→(∀ a,a < n→sumN n (fun b=>f a b * x.getD b 0) % 2 = 0)→∀ j,x.getD j 0 = 0
theorem zBE {n:Nat} {f g:Nat→Int} (h:∀ k,k < n→f k = g k):sumN n f = sumN n g:=by
  unfold sumN
  congr 1
  exact List.map_congr_left fun k hk=>h k (by simpa using hk)
theorem zMR {n i:Nat} {f g:Nat→Int} (hi:i < n) (h:∀ k,k < n→k≠i→f k = g k):sumN n f = sumN n g + (f i - g i):=by
  induction n with
  | zero=>omega
  | succ n ih =>
    rw [zAW,zAW]
    by_cases z:i = n
    · subst z; rw [zBE fun k hk=>h k (by omega) (by omega)]; omega
    · rw [ih (by omega) fun k hk=>h k (by omega),h n (by omega) (fun y=>z y.symm)]; omega
theorem zOT {n:Nat} {f g h:Nat→Int} (e:∀ k,k < n→f k % 2 = (g k + h k) % 2):sumN n f % 2 = (sumN n g + sumN n h) % 2:=by
  induction n with
  | zero=>rfl
  | succ n ih =>
    rw [zAW,zAW,zAW]
    have h1:=ih fun k hk=>e k (by omega)
    have h2:=e n (by omega)
    omega
theorem zRP {n i j:Nat} {f:Nat→Nat→Int} (hb:Bits n f) (hi:i < n):Bits n (colF i j (rowF i j f)):=by
  have hr:Bits n (rowF i j f):=fun a b ha hb'=>by
    unfold rowF
    split
    · exact zFB _
    · exact hb a b ha hb'
  intro a b ha hb'
  unfold colF
  split
  · exact zFB _
  · exact hr a b ha hb'
theorem zUK {n i j:Nat} {f:Nat→Nat→Int} (hs:Sym n f) (hi:i < n) (hj:j < n) (hij:i≠j):Sym n (colF i j (rowF i j f)):=by
  intro a b ha hb
  unfold colF rowF
  by_cases h1:a = j
  · by_cases h2:b = j
    · rw [h1,h2]
    · subst h1
      simp [h2,hij]
      rw [hs a b ha hb,hs i b hi hb]
  · by_cases h2:b = j
    · subst h2
      simp [h1,hij]
      rw [hs a b ha hb,hs a i ha hi]
    · simp [h1,h2]
      exact hs a b ha hb
structure BI (n p:Nat) (fl:Bool) (f:Nat→Nat→Int):Prop where
  le:p≤n
  bits:Bits n f
  sym:Sym n f
  out:∀ a b,a < n→b < n→p≤a∨p≤b→f a b = 0
  ns:fl = true→∀ x,RowN n x→(∀ a,a < p→sumN n (fun b=>f a b * x.getD b 0) % 2 = 0)→∀ b,b < p→x.getD b 0 = 0
theorem BI.start (n:Nat) (fl:Bool):BI n 0 fl fun _ _=>0 :=
  ⟨Nat.zero_le _,fun _ _ _ _=>.inl rfl,fun _ _ _ _=>rfl,fun _ _ _ _ _=>rfl,fun _ _ _ _ b hb=>by omega⟩
theorem BI.skip {n p:Nat} {f:Nat→Nat→Int} (a:BI n p false f) (hp:p < n):BI n (p + 1) false f :=
  ⟨hp,a.bits,a.sym,fun x y hx hy h=>a.out x y hx hy (by omega),fun z=>by cases z⟩
noncomputable def put1 (p q:Nat) (f:Nat→Nat→Int):Nat→Nat→Int:=fun x y=>if x = p∧y = q then 1 else f x y
theorem BI.one {n p:Nat} {fl:Bool} {f:Nat→Nat→Int} (a:BI n p fl f) (hp:p < n):BI n (p + 1) fl (put1 p p f):=by
  refine ⟨hp,fun x y hx hy=>?_,fun x y hx hy=>?_,fun x y hx hy h=>?_,fun hf x hx hk b hb=>?_⟩
  · unfold put1; split
    · exact .inr rfl
    · exact a.bits x y hx hy
  · unfold put1
    rw [a.sym x y hx hy]
    by_cases h:x = p∧y = p
    · rw [if_pos h,if_pos ⟨h.2,h.1⟩]
    · rw [if_neg h,if_neg fun z=>h ⟨z.2,z.1⟩]
  · unfold put1
    rw [if_neg (by omega)]
    exact a.out x y hx hy (by omega)
  · by_cases hbp:b = p
    · subst hbp
      have:=hk b (by omega)
      rw [zCF hp fun k hk' hkb=>?_] at this
      · unfold put1 at this
        rw [if_pos ⟨rfl,rfl⟩] at this
        rcases zBN (k:=b) hx with w | w
        · exact w
        · rw [w] at this; simp at this
      · unfold put1
        rw [if_neg fun z=>hkb z.2,a.out b k hp hk' (by omega)]
        simp
    · refine a.ns hf x hx (fun c hc=>?_) b (by omega)
      have:=hk c (by omega)
      rw [zBE (g:=fun b=>f c b * x.getD b 0) fun k _=>by unfold put1; rw [if_neg (by omega)]] at this
      exact this
theorem BI.two {n p:Nat} {fl:Bool} {f:Nat→Nat→Int} (a:BI n p fl f) (hp:p + 1 < n):BI n (p + 2) fl (put1 (p + 1) p (put1 p (p + 1) f)):=by
  refine ⟨hp,fun x y hx hy=>?_,fun x y hx hy=>?_,fun x y hx hy h=>?_,fun hf x hx hk b hb=>?_⟩
  · unfold put1; split
    · exact .inr rfl
    · split
      · exact .inr rfl
      · exact a.bits x y hx hy
  · unfold put1
    rw [a.sym x y hx hy]
    by_cases h1:x = p + 1∧y = p
    · rw [if_pos h1,if_neg (by omega),if_pos (by omega)]
    · rw [if_neg h1]
      by_cases h2:x = p∧y = p + 1
      · rw [if_pos h2,if_pos (by omega)]
      · rw [if_neg h2,if_neg (by omega),if_neg (by omega)]
  · unfold put1
    rw [if_neg (by omega),if_neg (by omega)]
    exact a.out x y hx hy (by omega)
  · by_cases hbp:b = p
    · subst hbp
      have:=hk (b + 1) (by omega)
      rw [zCF (j:=b) (by omega) fun k hk' hkb=>?_] at this
      · unfold put1 at this
        rw [if_pos ⟨rfl,rfl⟩] at this
        rcases zBN (k:=b) hx with w | w
        · exact w
        · rw [w] at this; simp at this
      · unfold put1
        rw [if_neg (by omega),if_neg (by omega),a.out (b + 1) k hp hk' (by omega)]
        simp
    · by_cases hbq:b = p + 1
      · subst hbq
        have:=hk p (by omega)
        rw [zCF (j:=p + 1) hp fun k hk' hkb=>?_] at this
        · unfold put1 at this
          rw [if_neg (by omega),if_pos ⟨rfl,rfl⟩] at this
          rcases zBN (k:=p + 1) hx with w | w
          · exact w
          · rw [w] at this; simp at this
        · unfold put1
          rw [if_neg (by omega),if_neg (by omega),a.out p k (by omega) hk' (by omega)]
          simp
      · refine a.ns hf x hx (fun c hc=>?_) b (by omega)
        have:=hk c (by omega)
        rw [zBE (g:=fun b=>f c b * x.getD b 0) fun k _=>by unfold put1; rw [if_neg (by omega),if_neg (by omega)]] at this
        exact this
end Mp

namespace Mp
open Mi PySem
noncomputable def allv:Nat→List (List Int)
  | 0=>[[]]
  | n + 1=>(allv n).map (List.cons 0) ++ (allv n).map (List.cons 1)
noncomputable def cnt (n:Nat) (P:List Int→Prop):Nat:=by
  classical exact ((allv n).filter fun x=>decide (P x)).length
def Ev (n:Nat) (g:Nat→Int) (x:List Int):Prop:=sumN n (fun k=>g k * x.getD k 0) % 2 = 0
structure BC (n p q:Nat) (f:Nat→Nat→Int):Prop where
  out:∀ a b,a < n→b < n→p≤a∨p≤b→f a b = 0
  num:cnt n (fun x=>∀ a,a < p→Ev n (f a) x) * 2 ^ p = 2 ^ (n + q)
section
variable {n i j:Nat} {f:Nat→Nat→Int} (hb:Bits n f) (hi:i < n) (hj:j < n) (hij:i≠j)
include hi in
include hi hij in
include hb hi hj hij in
include hb hi hj hij in
end
end Mp

namespace Mp
open Mi PySem
noncomputable def frz0 (o:Option Sl):Option Dt:=match o with
  | some (d,n)=>if n = 0∨d.dep = 0 then some d else none
  | none=>none
theorem zS2 (o:Option Sl) (r:Ro):frz (o :: r) = frz0 o :: frz r:=rfl
noncomputable def zO0 (i:Nat) (r:Ro):Nat:=match r[i]? with
  | some (some (.int z,_))=>z.toNat
  | _=>0
end Mp

namespace Mp
open Mi PySem
noncomputable def zV1 (i j:Nat):Int:=if i = j then 1 else 0
theorem zR6 {n:Nat} {R:List (List Int)} (h:R.length = n) (hr:∀ r∈R,RowN n r):R = tab n (ent R):=by
  apply List.ext_getElem
  · simp [h,tab]
  · intro i h1 h2
    have e1:R[i] = R.getD i []:=by simp [List.getD_eq_getElem?_getD,List.getElem?_eq_getElem h1]
    have e2:=hr R[i] (List.getElem_mem h1)
    rw [e1] at e2 ⊢
    rw [zFG e2.1]
    simp [tab,ent]
theorem zJ3 {n i:Nat} {f:Nat→Nat→Int} (h:i < n):(tab n f).getD i [] = (List.range n).map fun j=>f i j:=by
  rw [List.getD_eq_getElem?_getD,zF2 h]; rfl
theorem zM4 {n:Nat} {f:Nat→Nat→Int} {x:List Int} (hx:x.length = n):Ker (tab n f) x ↔ ∀ a,a < n→sumN n (fun b=>f a b * x.getD b 0) % 2 = 0:=by
  constructor
  · intro h a ha
    have:=h _ (zAM (d:=[]) (i:=a) (by rw [zC4]; exact ha))
    rw [zJ3 ha,zFS hx] at this
    exact this
  · intro h r hr
    obtain ⟨i,hi,rfl⟩:=zEO (d:=[]) hr
    rw [zC4] at hi
    rw [zJ3 hi,zFS hx]
    exact h i hi
theorem zQ6 {n j:Nat} {r:List Int} (hj:j < n):dot r (zE3 n j) = r.getD j 0:=by
  rw [zDR _ _ n (by simp [zE3]),zCF hj fun k hk hkj=>?_]
  · rw [zE3,zB6 hj,if_pos rfl]; simp
  · rw [zE3,zB6 hk,if_neg hkj]; simp
theorem zQS {n:Nat} {f:Nat→Nat→Int} {R:List (List Int)} (hb:Bits n f) (hl:R.length = n) (hr:∀ r∈R,RowN n r) (h:∀ u v,RowN n u→RowN n v→((∀ i,i < n→(dot ((tab n f).getD i []) u + v.getD i 0) % 2 = 0) ↔ ∀ i,i < n→(u.getD i 0 + dot (R.getD i []) v) % 2 = 0)) :
    ∀ i j,i < n→j < n→prod n f (ent R) i j = zV1 i j:=by
  intro i j hi hj
  let u:List Int:=(List.range n).map fun k=>ent R k j
  have hu:RowN n u:=⟨by simp [u],fun x hx=>by
    obtain ⟨k,hk,rfl⟩:=List.mem_map.mp hx
    exact zHR hr (by rw [hl]; simpa using hk) hj⟩
  have gu:∀ k,k < n→u.getD k 0 = ent R k j:=fun k hk=>zB6 hk
  have:=(h u (zE3 n j) hu (zJ1 n j)).mpr (fun k hk=>by
    rw [gu k hk,zQ6 hj]
    show (ent R k j + ent R k j) % 2 = 0
    omega) i hi
  rw [zJ3 hi,zFS hu.1,zE3,zB6 hi] at this
  unfold prod zV1
  rw [zBE (g:=fun k=>f i k * u.getD k 0) fun k hk=>by rw [gu k hk]]
  by_cases hij:i = j
  · rw [if_pos hij] at this ⊢; omega
  · rw [if_neg hij] at this ⊢; omega
theorem zVI {n:Nat} {f:Nat→Nat→Int} {R:List (List Int)} (h:∀ u v,RowN n u→RowN n v→((∀ i,i < n→(dot ((tab n f).getD i []) u + v.getD i 0) % 2 = 0) ↔ ∀ i,i < n→(u.getD i 0 + dot (R.getD i []) v) % 2 = 0)):NS n f:=by
  intro x hx hk j
  have hz:RowN n (List.replicate n 0):=⟨by simp,fun y hy=>.inl (List.eq_of_mem_replicate hy)⟩
  have gz:∀ k,(List.replicate n (0:Int)).getD k 0 = 0:=fun k=>by
    rw [List.getD_eq_getElem?_getD,List.getElem?_replicate]; split <;> rfl
  by_cases hj:j < n
  · have:=(h x (List.replicate n 0) hx hz).mp (fun i hi=>by
      rw [zJ3 hi,zFS hx.1,gz]
      have:=hk i hi
      omega) j hj
    rw [zDR _ (List.replicate n 0) n (by simp),zBT fun k _=>by rw [gz]; simp] at this
    rcases zBN (k:=j) hx with w | w
    · exact w
    · rw [w] at this; simp at this
  · simp [List.getD_eq_getElem?_getD,List.getElem?_eq_none (show x.length≤j by rw [hx.1]; omega)]
theorem zQR (n:Nat) (f:Nat→Nat→Int) (hn:n≤10) (hb:Bits n f):∃ q:Nat,zCB [mat (tab n f)] = okR (.int (q:Int))∧q≤n∧((q < n∧zDG [mat (tab n f)] = okR .non)∨(q = n∧∃ g,Bits n g∧NS n f∧(∀ i j,i < n→j < n→prod n f g i j = zV1 i j)∧zDG [mat (tab n f)] = okR (mat (tab n g)))):=by
  have hT:=zC4 n f
  have hr:=zMP hb
  obtain ⟨q,r1,A,r2⟩:=zMW n (tab n f) hT hr hn
  obtain ⟨d,u1,u2⟩:=zK4 n (tab n f) hT hr hn
  refine ⟨q,r1,r2.le,?_⟩
  rcases u2 with ⟨rfl,x,x1,x2,j,x3,x4⟩ | ⟨R,rfl,g1,g2,g3⟩
  · left
    refine ⟨?_,u1⟩
    rcases Nat.lt_or_ge q n with h | h
    · exact h
    · have:=(r2.all (Nat.le_antisymm r2.le h) x x1 x2).2 (fun k hk=>by
        simp [List.getD_eq_getElem?_getD,List.getElem?_eq_none (show x.length≤k by rw [x1.1]; omega)]) j
      rw [x4] at this
      simp at this
  · right
    have hns:=zVI g3
    refine ⟨?_,ent R,?_,hns,zQS hb g1 g2 g3,?_⟩
    · rcases Nat.lt_or_ge q n with h | h
      · obtain ⟨x,x1,x2,j,x3,x4⟩:=r2.some h
        have:=hns x x1 ((zM4 x1.1).mp x2) j
        rw [x4] at this
        simp at this
      · exact Nat.le_antisymm r2.le h
    · intro i j hi hj
      exact zHR g2 (by rw [g1]; exact hi) hj
    · rw [← zR6 g1 g2]; exact u1
end Mp

namespace Mp
open Mi PySem
noncomputable def fst1:List Int→Nat
  | []=>0
  | a :: r=>if a = 1 then 0 else fst1 r + 1
section
variable {n:Nat}
def Lds (ls:List (List Int)):Prop:=ls.Pairwise fun l s=>s.getD (fst1 l) 0 = 0
structure GP (n:Nat) (T ls:List (List Int)) (k:Nat):Prop where
  rows:∀ l∈ls,RowN n l∧1∈l
  lds:Lds ls
  le:ls.length≤k
  ker:∀ x,RowN n x→(Ker ls x ↔ Ker (T.take k) x)
structure GK (n:Nat) (T:List (List Int)) (ks:List Nat) (k:Nat):Prop where
  lt:∀ j∈ks,j < k
  up:ks.Pairwise (· < ·)
  ker:∀ x,RowN n x→(Ker (ks.map fun j=>T.getD j []) x ↔ Ker (T.take k) x)
end
end Mp

namespace Mp
open Mi PySem
end Mp

namespace Mp
open Mi PySem
theorem zXB {n:Nat} {g:Nat→Int} {x y:List Int} (hx:RowN n x) (hy:RowN n y):sumN n (fun k=>g k * (addB x y).getD k 0) % 2 = (sumN n (fun k=>g k * x.getD k 0) + sumN n (fun k=>g k * y.getD k 0)) % 2:=by
  refine zOT fun k hk=>?_
  rw [zDA x y k (by rw [hx.1,hy.1]) (by rw [hx.1]; exact hk)]
  rcases zBN (k:=k) hx with a | a <;> rcases zBN (k:=k) hy with b | b <;> rw [a,b] <;> simp <;> omega
theorem zMQ {n:Nat} {g:Nat→Int}:∀ {ks:List Nat},ks.Nodup→(∀ k∈ks,k < n)→(∀ k,k < n→k ∉ ks→g k = 0)→sumN n g = (ks.map g).sum
  | [],_,_,h=>by rw [zBT fun k hk=>h k hk (by simp)]; rfl
  | a :: r,hd,hk,h=>by
    rw [List.nodup_cons] at hd
    have ha:=hk a (by simp)
    have ih:=zMQ (n:=n) (g:=fun k=>if k = a then 0 else g k) (ks:=r) hd.2 (fun k hk'=>hk k (by simp [hk'])) fun k hkn hkr=>by
      split
      · rfl
      · rename_i z; exact h k hkn (by simp [z,hkr])
    have u:=zMR (f:=g) (g:=fun k=>if k = a then 0 else g k) ha fun k _ hka=>by rw [if_neg hka]
    rw [u,ih,if_pos rfl]
    have e:(r.map fun k=>if k = a then 0 else g k) = r.map g:=List.map_congr_left fun k hk'=>by rw [if_neg fun z=>hd.1 (by rw [← z]; exact hk')]
    rw [e,List.map_cons,List.sum_cons]
    omega
theorem zQY {ks:List Nat} {g:Nat→Int}:(ks.map g).sum = sumN ks.length fun b=>g (ks.getD b 0):=by
  unfold sumN
  rw [zHI ks g]
theorem zIR {ks:List Nat} {k:Nat} (h:k∈ks):∃ b,b < ks.length∧ks.getD b 0 = k:=zEO h
theorem zR0 (n:Nat) (f g:Nat→Int):sumN n (fun k=>f k + g k) = sumN n f + sumN n g:=by
  induction n with
  | zero=>rfl
  | succ n ih=>rw [zAW,zAW,zAW,ih]; omega
theorem zMS (n:Nat) (c:Int) (f:Nat→Int):sumN n (fun k=>c * f k) = c * sumN n f:=by
  induction n with
  | zero=>simp [sumN]
  | succ n ih=>rw [zAW,zAW,ih,Int.mul_add]
theorem zK5 (n m:Nat) (G:Nat→Nat→Int):sumN n (fun i=>sumN m fun b=>G b i) = sumN m fun b=>sumN n fun i=>G b i:=by
  induction n with
  | zero=>rw [zBT fun k hk=>by omega,zBT fun b _=>zBT fun k hk=>by omega]
  | succ n ih =>
    rw [zAW,ih,← zR0]
    exact zBE fun b _=>(zAW n fun i=>G b i).symm
theorem zMT {n:Nat} {f g:Nat→Int} (h:∀ k,k < n→f k % 2 = g k % 2):sumN n f % 2 = sumN n g % 2:=by
  induction n with
  | zero=>rfl
  | succ n ih =>
    rw [zAW,zAW]
    have h1:=ih fun k hk=>h k (by omega)
    have h2:=h n (by omega)
    omega
def spr (n:Nat) (ks:List Nat) (e:List Int):List Int:=(List.range n).map fun k=>sumN ks.length (fun b=>if ks.getD b 0 = k then e.getD b 0 else 0) % 2
theorem zTM (n:Nat) (ks:List Nat) (e:List Int):RowN n (spr n ks e):=⟨by simp [spr],fun x hx=>by
  obtain ⟨k,_,rfl⟩:=List.mem_map.mp hx
  exact zFB _⟩
theorem zTL {n:Nat} {ks:List Nat} (hk:∀ k∈ks,k < n) (g:Nat→Int) (e:List Int):sumN n (fun k=>g k * (spr n ks e).getD k 0) % 2 = sumN ks.length (fun b=>g (ks.getD b 0) * e.getD b 0) % 2:=by
  have h1:sumN n (fun k=>g k * (spr n ks e).getD k 0) % 2 = sumN n (fun k=>sumN ks.length fun b=>if ks.getD b 0 = k then g k * e.getD b 0 else 0) % 2:=by
    refine zMT fun k hkn=>?_
    have e1:(spr n ks e).getD k 0 = sumN ks.length (fun b=>if ks.getD b 0 = k then e.getD b 0 else 0) % 2:=zB6 hkn
    have e2:(sumN ks.length fun b=>if ks.getD b 0 = k then g k * e.getD b 0 else 0) = g k * sumN ks.length (fun b=>if ks.getD b 0 = k then e.getD b 0 else 0):=by
      rw [← zMS]
      exact zBE fun b _=>by split <;> simp
    rw [e1,e2,Int.mul_emod,Int.emod_emod,← Int.mul_emod]
  rw [h1,zK5]
  congr 1
  refine zBE fun b hb=>?_
  rw [zCF (j:=ks.getD b 0) (zCD hk hb) fun k _ hkb=>by rw [if_neg fun z=>hkb z.symm],if_pos rfl]
theorem zGQ {ks:List Nat} (h:ks.Pairwise (· < ·)):ks.Nodup:=List.Pairwise.imp (fun {a b} hab z=>by omega) h
end Mp

namespace Mp
open Mi PySem
theorem zHH (k:Int) {m:Nat} (hm:0 < m):modD (.int k) (.int (m:Int)) = some (.int (k % (m:Int))):=by simp [hm]
theorem zO2 (ns:List Int) (k:Int) (h0:0≤k) (h1:k < 100000):∃ c:Int,zC5 [.scr ns,.int k] = okR (.int c):=by
  have m1:mulD (.int 104729) (.int (k + 1)) = some (.int (104729 * (k + 1))):=zRO (by omega) (by omega)
  have m2:∀ z:Int,mulD (.int z) (.int 48271) = some (.int (z * 48271)):=fun z=>zUI (by decide) (by decide)
  have m3:∀ z:Int,mulD (.int z) (.int 69621) = some (.int (z * 69621)):=fun z=>zUI (by decide) (by decide)
  have d1:∀ z:Int,modD (.int z) (.int 2147483629) = some (.int (z % 2147483629)):=fun z=>by simp
  have d2:∀ z:Int,modD (.int z) (.int 2147483647) = some (.int (z % 2147483647)):=fun z=>by simp
  have go:∀ z:Int,∃ c:Int,sSeq (sSet 3 0 [2,1] (eB modD (eB mulD (eB addD (eB modD (eV 2) (eC (.int 2147483629))) (eB mulD (eC (.int 104729)) (eB addD (eV 1) (eC (.int 1))))) (eC (.int 48271))) (eC (.int 2147483647)))) (sRet 0 0 [3] (eB modD (eB mulD (eV 3) (eC (.int 69621))) (eC (.int 2147483629)))) [some (.scr ns,0),some (.int k,0),some (.int z,0),none] = okR (.rt (.int c)):=fun z =>
    ⟨_,sg (b2 (b2 (b2 (b2 rfl rfl (d1 z)) (b2 rfl (b2 rfl rfl rfl) m1) rfl) rfl (m2 _)) rfl (d2 _)) (Nat.le_refl 0) (sr (b2 (b2 rfl rfl (m3 _)) rfl (d1 _)) ⟨Nat.le_refl 0,Nat.le_refl 0⟩)⟩
  suffices h:∃ c:Int,zCZ [some (.scr ns,0),some (.int k,0),none,none] = okR (.rt (.int c)) from h.imp fun c h=>zD5 rfl h
  unfold zCZ
  by_cases hk:0 < ns.length
  · have hk':(0:Int) < (ns.length:Int):=Int.natCast_pos.mpr hk
    have i1:=zUQ (Int.emod_nonneg k (Int.ne_of_gt hk')) (Int.emod_lt_of_pos k hk')
    have d3:=zHH k hk
    obtain ⟨c,hc⟩:=go (ns[(k % (ns.length:Int)).toNat]?.getD 0)
    refine ⟨c,sg rfl (Nat.le_refl 0) (st (r':=[some (.scr ns,0),some (.int k,0),some (.int (ns[(k % (ns.length:Int)).toNat]?.getD 0),0),none]) (tb1 (b2 (bi1 rfl rfl) rfl (tl rfl (decide_eq_true hk')))) (ss (b2 rfl (b2 rfl (bi1 rfl rfl) d3) ?_) (Nat.le_refl 0)) hc)⟩
    show (itA ns _).map _ = _
    rw [i1]
    rfl
  · have hk':¬ (0:Int) < (ns.length:Int):=fun z=>hk (Int.natCast_pos.mp z)
    obtain ⟨c,hc⟩:=go 0
    exact ⟨c,sg rfl (Nat.le_refl 0) (sp (tb1 (b2 (bi1 rfl rfl) rfl (tl rfl (decide_eq_false hk')))) hc)⟩
def B2S (n:Nat) (r:Ro):Prop:=∃ c:Int,∃ f p l0 l3 o4,r = [some (.int c,l0),some (.int (n:Int),0),some (mat (tab n f),2),some (.int (p:Nat),l3),o4,none]∧BI n p false f
def M2S (n:Nat) (r:Ro):Prop:=∃ c:Int,∃ f l0 l2 o3 o4 o5,r = [some (.int c,l0),some (.int (n:Int),0),some (mat (tab n f),l2),o3,o4,o5]∧Bits n f∧Sym n f
theorem zUZ (k:Int) {m:Nat} (hm:0 < m) (hz:m < 1000000):divD (.int k) (.int (m:Int)) = some (.int (k / (m:Int))):=by
  have:(m:Int) < 1000000000000000000000000:=by omega
  simp [hm,this]
theorem zMH (c:Int) (n:Nat) (hn:n≤10):∃ f,Bits n f∧Sym n f∧zC6 [.int c,.int (n:Int)] = okR (mat (tab n f)):=by
  suffices h:eiR (zD0 [some (.int c,0),some (.int (n:Int),0),none,none,none,none]) (fun _=>False) (fun d=>∃ f,d = mat (tab n f)∧Bits n f∧Sym n f) by
    rcases h with ⟨_,_,z⟩ | ⟨d,h1,f,rfl,h2,h3⟩
    · exact z.elim
    · exact ⟨f,h2,h3,zD5 rfl h1⟩
  unfold zD0
  refine zBS (P:=fun r=>r = [some (.int c,0),some (.int (n:Int),0),some (mat (tab n fun _ _=>0),2),none,none,none]) (zD2 ?_) ?_
  · have hc:eComp (iR1 (aCons (eV 1) aNil)) 1 (.one 6) Mi.tYes (eComp (iR1 (aCons (eV 1) aNil)) 1 (.one 7) Mi.tYes (eC (.int 0))) [some (.int c),some (.int (n:Int)),none,none,none,none] = okR (mat (tab n fun _ _=>0)) :=
      zJU _ rfl rfl (by omega) (zDL (by simp) (by omega)) (fun a=>zDL (by simp) (by omega)) fun a b ha hb=>by simp
    have hd:=zDT (tab n fun _ _=>0)
    simp [hc,hd]
  rintro r rfl
  refine zBS (P:=fun r=>r = [some (.int c,0),some (.int (n:Int),0),some (mat (tab n fun _ _=>0),2),some (.int 0,0),none,none]) (zD2 (by simp)) ?_
  rintro r rfl
  refine zBS (P:=M2S n) (zD2 ?_) ?_
  · refine zN1 (B2S n) (fun r=>n - zO0 3 r) (fun r=>B2S n r∧n≤zO0 3 r) ⟨c,_,0,0,0,none,rfl,BI.start n false⟩ (by omega) ?_ ?_
    · rintro r ⟨c,f,p,l0,l3,o4,rfl,a⟩
      by_cases hp:p < n
      · refine .inr ⟨by simp [hp],?_⟩
        refine zDF fun bb hb=>?_
        simp
        subst hb
        refine zDF fun bb hb=>?_
        simp
        generalize c / 4 = c'
        generalize c % 4 = k
        subst hb
        refine zDF fun bb hb=>?_
        rw [zET]
        by_cases h2:1 < k∧p + 1 < n
        · rw [show tAn (tB (eB (cmpD fun i j=>decide (j < i)) (eV 4) (eC (.int 1)))) (tB (eB (cmpD fun i j=>decide (i < j)) (eB addD (eV 3) (eC (.int 1))) (eV 1))) (full [some (.int c',0),some (.int (n:Int),0),some (mat (tab n f),2),some (.int (p:Nat),l3),some (.int k,0),none]) = okR true by simp [h2.1,show (p:Int) + 1 < (n:Int) by omega],zA0,if_pos rfl]
          refine zDF fun b2 hb2=>?_
          refine zB5 (zED (l:=0) (a:=p) (b:=p + 1) (v:=1) rfl (by simp) (by simp) (by simp) hp h2.2) ?_
          subst hb2
          refine zDF fun b2 hb2=>?_
          refine zB5 (zED (l:=0) (a:=p + 1) (b:=p) (v:=1) rfl (by simp) (by simp) (by simp) h2.2 hp) ?_
          subst hb2
          refine zB5 (r:=[some (.int c',0),some (.int (n:Int),0),some (mat (tab n (put1 (p + 1) p (put1 p (p + 1) f))),2),some (.int ((p + 1:Nat):Int),1),some (.int k,0),none]) (by simp; rfl) ?_
          subst hb
          refine zB5 (r:=[some (.int c',0),some (.int (n:Int),0),some (mat (tab n (put1 (p + 1) p (put1 p (p + 1) f))),2),some (.int ((p + 2:Nat):Int),1),some (.int k,0),none]) (by simp; omega) ?_
          exact ⟨⟨c',_,p + 2,_,_,_,rfl,a.two h2.2⟩,by simp [zO0]; omega⟩
        · rw [show tAn (tB (eB (cmpD fun i j=>decide (j < i)) (eV 4) (eC (.int 1)))) (tB (eB (cmpD fun i j=>decide (i < j)) (eB addD (eV 3) (eC (.int 1))) (eV 1))) (full [some (.int c',0),some (.int (n:Int),0),some (mat (tab n f),2),some (.int (p:Nat),l3),some (.int k,0),none]) = okR false by
            by_cases z:1 < k
            · simp [z,show ¬ (p:Int) + 1 < (n:Int) by omega]
            · simp [z],zA0,if_neg (by simp),zET]
          by_cases h3:0 < k
          · rw [show tB (eB (cmpD fun i j=>decide (j < i)) (eV 4) (eC (.int 0))) (full [some (.int c',0),some (.int (n:Int),0),some (mat (tab n f),2),some (.int (p:Nat),l3),some (.int k,0),none]) = okR true by simp [h3],zA0,if_pos rfl]
            refine zB5 (zED (l:=0) (a:=p) (b:=p) (v:=1) rfl (by simp) (by simp) (by simp) hp hp) ?_
            subst hb
            refine zB5 (r:=[some (.int c',0),some (.int (n:Int),0),some (mat (tab n (put1 p p f)),2),some (.int ((p + 1:Nat):Int),1),some (.int k,0),none]) (by simp; rfl) ?_
            exact ⟨⟨c',_,p + 1,_,_,_,rfl,a.one hp⟩,by simp [zO0]; omega⟩
          · rw [show tB (eB (cmpD fun i j=>decide (j < i)) (eV 4) (eC (.int 0))) (full [some (.int c',0),some (.int (n:Int),0),some (mat (tab n f),2),some (.int (p:Nat),l3),some (.int k,0),none]) = okR false by simp [h3],zA0,if_neg (by simp)]
            refine zB5 (r:=[some (.int c',0),some (.int (n:Int),0),some (mat (tab n f),2),some (.int (p:Nat),l3),some (.int k,0),none]) rfl ?_
            subst hb
            refine zB5 (r:=[some (.int c',0),some (.int (n:Int),0),some (mat (tab n f),2),some (.int ((p + 1:Nat):Int),1),some (.int k,0),none]) (by simp) ?_
            exact ⟨⟨c',_,p + 1,_,_,_,rfl,a.skip hp⟩,by simp [zO0]; omega⟩
      · exact .inl ⟨by simp [hp],⟨c,f,p,l0,l3,o4,rfl,a⟩,by simp [zO0]; omega⟩
    · rintro r ⟨⟨c,f,p,l0,l3,o4,rfl,a⟩,h⟩
      exact ⟨c,f,_,_,_,_,_,rfl,a.bits,a.sym⟩
  intro r hr
  refine zBS (P:=M2S n) (zD2 ?_) ?_
  · rw [zE2,show iR1 (aCons (eC (.int 14)) aNil) (full r) = okR (nums 0 14) from zDL (n:=14) (by simp) (by omega),zA0]
    refine zNZ (fun _=>M2S n) hr (fun k hk r hr=>?_) fun r h=>h
    obtain ⟨c,f,l0,l2,o3,o4,o5,rfl,h1,h2⟩:=hr
    rw [zET]
    by_cases h:1 < n
    · rw [show tB (eB (cmpD fun i j=>decide (j < i)) (eV 1) (eC (.int 1))) (full ([some (.int c,l0),some (.int (n:Int),0),some (mat (tab n f),l2),o3,o4,o5].set 5 (some (.int (k:Nat),0)))) = okR true by simp; omega,zA0,if_pos rfl]
      have m1:mulD (.int (n:Int)) (.int ((n:Int) - 1)) = some (.int ((n * (n - 1):Nat):Int)):=by
        rw [zRO (by omega) (by omega)]
        congr 2
        rw [Int.natCast_mul]
        congr 1
        omega
      have hpos:0 < n * (n - 1):=Nat.mul_pos (by omega) (by omega)
      have hle:n * (n - 1)≤10 * 10:=Nat.mul_le_mul (by omega) (by omega)
      generalize n * (n - 1) = N at m1 hpos hle
      have d1:=zHH c hpos
      have d2:=zUZ c hpos (by omega)
      obtain ⟨i,j,hi,hj,hij,hm⟩:=zO1 n f (c % (N:Int)) h hn
      have he:∀ o3 o4 o5:Option Dt,eCall zBG (aCons (eV 2) (aCons (eB modD (eV 0) (eB mulD (eV 1) (eB subD (eV 1) (eC (.int 1))))) aNil)) [some (.int c),some (.int (n:Int)),some (mat (tab n f)),o3,o4,o5] = okR (mat (tab n (colF i j (rowF i j f)))):=by
        intro o3 o4 o5
        simp only [zGX,zF1,zGY,x_eV,x_eB,x_eC,List.getElem?_cons_succ,List.getElem?_cons_zero,zA0,zTH,zAB,m1,d1]
        exact hm
      refine zDF fun bb hb=>?_
      have fin:∀ l0 l2 o3 o4 o5,nxR (bb [some (.int c,l0),some (.int (n:Int),0),some (mat (tab n (colF i j (rowF i j f))),l2),o3,o4,o5]) (M2S n):=by
        intro l0 l2 o3 o4 o5
        subst hb
        refine zB5 (r:=[some (.int (c / (N:Int)),0),some (.int (n:Int),0),some (mat (tab n (colF i j (rowF i j f))),l2),o3,o4,o5]) ?_ ⟨_,_,_,_,_,_,_,rfl,zRP h1 hi,zUK h2 hi hj hij⟩
        simp only [zFD,zF0,zFY,x_eV,x_eB,x_eC,List.getElem?_cons_succ,List.getElem?_cons_zero,Option.map_some,zA0,zTH,zAB,m1,d2]
        simp
      exact zE4 (he _ _ _) (by simp [zS2,frz0,m1,d1,hm,-zTI]) (fin _ _ _ _ _) (fin _ _ _ _ _)
    · rw [show tB (eB (cmpD fun i j=>decide (j < i)) (eV 1) (eC (.int 1))) (full ([some (.int c,l0),some (.int (n:Int),0),some (mat (tab n f),l2),o3,o4,o5].set 5 (some (.int (k:Nat),0)))) = okR false by simp; omega,zA0,if_neg (by simp)]
      exact ⟨_,_,_,_,_,_,_,rfl,h1,h2⟩
  rintro r ⟨c,f,l0,l2,o3,o4,o5,rfl,h1,h2⟩
  exact .inr ⟨mat (tab n f),by simp [sRetV],f,rfl,h1,h2⟩
end Mp

namespace Mp
open Mi PySem
noncomputable def putv (i j:Nat) (v:Int) (f:Nat→Nat→Int):Nat→Nat→Int:=fun x y=>if x = j∧y = i then v else if x = i∧y = j then v else f x y
theorem zP8 {n i j:Nat} {v:Int} {f:Nat→Nat→Int} (h:Bits n f) (hv:Bit v):Bits n (putv i j v f):=fun x y hx hy=>by
  unfold putv
  split
  · exact hv
  · split
    · exact hv
    · exact h x y hx hy
theorem zRB {n i j:Nat} {v:Int} {f:Nat→Nat→Int} (h:Sym n f):Sym n (putv i j v f):=fun x y hx hy=>by
  unfold putv
  rw [h x y hx hy]
  by_cases h1:x = j∧y = i
  · rw [if_pos h1]
    by_cases h2:y = j∧x = i
    · rw [if_pos h2]
    · rw [if_neg h2,if_pos ⟨h1.2,h1.1⟩]
  · rw [if_neg h1]
    by_cases h2:x = i∧y = j
    · rw [if_pos h2,if_pos ⟨h2.2,h2.1⟩]
    · rw [if_neg h2,if_neg fun z=>h2 ⟨z.2,z.1⟩,if_neg fun z=>h1 ⟨z.2,z.1⟩]
theorem zRV {r:Ro} {i m l a:Nat} {xs:List Int} {v:Int} {e1 e2:EM} (h:r[i]? = some (some (rowD xs,l + 1))) (h2:e2 (full r) = okR (.int v)) (h1:e1 (full r) = okR (.int (a:Nat))) (ha:a < xs.length):sItem i m e1 e2 r = okR (.nx (r.set i (some (rowD (xs.set a v),l + 1)))):=by
  unfold sItem
  rw [h2,zA0,h]
  show zA3 (e1 (full r)) _ = _
  rw [h1,zA0]
  dsimp only
  rw [zIN (by omega) (by simp; omega)]
  dsimp only
  rw [if_pos ⟨Nat.zero_le _,Nat.zero_le _⟩,Int.toNat_natCast]
  unfold rowD
  rw [List.map_set]
end Mp

namespace Mp
open Mi PySem
def Fe (n:Nat) (f:Nat→Nat→Int) (S:Nat→Prop):Prop:=∀ x,RowN n x→(∀ i,i < n→¬ S i→x.getD i 0 = 0)→(∀ i,i < n→S i→Ev n (f i) x)→∀ i,i < n→x.getD i 0 = 0
theorem zN5 {n:Nat} {f:Nat→Nat→Int} {S T:Nat→Prop} (h:∀ i,i < n→(S i ↔ T i)):Fe n f S ↔ Fe n f T:=by
  have one:∀ {S T:Nat→Prop},(∀ i,i < n→(S i ↔ T i))→Fe n f S→Fe n f T:=fun {S T} h a x hx h1 h2 =>
    a x hx (fun i hi hs=>h1 i hi fun z=>hs ((h i hi).mpr z)) fun i hi hs=>h2 i hi ((h i hi).mp hs)
  exact ⟨one h,one fun i hi=>(h i hi).symm⟩
theorem zYP {n:Nat} {f:Nat→Nat→Int} {ks:List Nat} (hd:ks.Nodup) (hk:∀ k∈ks,k < n):NS ks.length (sub ks f) ↔ Fe n f (·∈ks):=by
  constructor
  · intro hns x hx h1 h2 i hi
    let e:List Int:=(List.range ks.length).map fun a=>x.getD (ks.getD a 0) 0
    have he:RowN ks.length e:=⟨by simp [e],fun v hv=>by
      obtain ⟨a,_,rfl⟩:=List.mem_map.mp hv
      exact zBN hx⟩
    have ge:∀ a,a < ks.length→e.getD a 0 = x.getD (ks.getD a 0) 0:=fun a ha=>zB6 ha
    have h0:=hns e he fun a ha=>by
      have hka:=zCD hk ha
      have hm:ks.getD a 0∈ks:=zAM ha
      have e1:=h2 _ hka hm
      have e4:=zMQ (n:=n) (g:=fun k=>f (ks.getD a 0) k * x.getD k 0) hd hk fun k hkn hkk=>by rw [h1 k hkn hkk]; simp
      unfold Ev at e1
      rw [e4,zQY] at e1
      rw [zBE (g:=fun b=>f (ks.getD a 0) (ks.getD b 0) * x.getD (ks.getD b 0) 0) fun b hb=>by rw [ge b hb]; rfl]
      exact e1
    by_cases hi':i∈ks
    · obtain ⟨b,hb,rfl⟩:=zIR hi'
      rw [← ge b hb]
      exact h0 b
    · exact h1 i hi hi'
  · intro hf e he h j
    by_cases hj:j < ks.length
    · have hg:∀ b,b < ks.length→(spr n ks e).getD (ks.getD b 0) 0 = e.getD b 0:=fun b hb=>by
        have e1:(spr n ks e).getD (ks.getD b 0) 0 = sumN ks.length (fun c=>if ks.getD c 0 = ks.getD b 0 then e.getD c 0 else 0) % 2:=zB6 (zCD hk hb)
        rw [e1,zCF (j:=b) hb fun c hc hcb=>by
          rw [if_neg fun z=>hcb ?_]
          have hc':ks[c]? = some ks[c]:=List.getElem?_eq_getElem hc
          have hb':ks[b]? = some ks[b]:=List.getElem?_eq_getElem hb
          rw [List.getD_eq_getElem?_getD,List.getD_eq_getElem?_getD,hc',hb'] at z
          exact (List.getElem_inj hd).mp (by simpa using z),if_pos rfl]
        rcases zBN (k:=b) he with w | w <;> rw [w] <;> rfl
      have h0:=hf (spr n ks e) (zTM n ks e) (fun i hi hik=>by
        have e1:(spr n ks e).getD i 0 = sumN ks.length (fun c=>if ks.getD c 0 = i then e.getD c 0 else 0) % 2:=zB6 hi
        rw [e1,zBT fun c hc=>by rw [if_neg fun z=>hik (by rw [← z]; exact zAM hc)]]
        rfl) (fun i hi hik=>by
        obtain ⟨a,ha,rfl⟩:=zIR hik
        unfold Ev
        rw [zTL hk]
        exact h a ha)
      rw [← hg j hj]
      exact h0 _ (zCD hk hj)
    · simp [List.getD_eq_getElem?_getD,List.getElem?_eq_none (show e.length≤j by rw [he.1]; omega)]
def img (n:Nat) (f:Nat→Nat→Int) (x:List Int) (i:Nat):Int:=sumN n (fun k=>f i k * x.getD k 0) % 2
theorem zM6 (n:Nat) (f:Nat→Nat→Int) (x:List Int) (i:Nat):Bit (img n f x i):=zFB _
theorem zXS {n:Nat} {f:Nat→Nat→Int} (hs:Sym n f) (x y:List Int):sumN n (fun i=>x.getD i 0 * img n f y i) % 2 = sumN n (fun i=>y.getD i 0 * img n f x i) % 2:=by
  have one:∀ x y:List Int,sumN n (fun i=>x.getD i 0 * img n f y i) % 2 = sumN n (fun i=>sumN n fun k=>x.getD i 0 * (f i k * y.getD k 0)) % 2:=fun x y=>by
    refine zMT fun i hi=>?_
    rw [zMS]
    unfold img
    rw [Int.mul_emod,Int.emod_emod,← Int.mul_emod]
  rw [one x y,one y x,zK5]
  congr 1
  refine zBE fun b hb=>zBE fun i hi=>?_
  rw [hs i b hi hb,Int.mul_left_comm,Int.mul_left_comm (y.getD b 0),Int.mul_comm (y.getD b 0)]
theorem zT3 {n:Nat} {f:Nat→Nat→Int} {S:Nat→Prop} (h:¬ Fe n f S):∃ x,RowN n x∧(∀ i,i < n→¬ S i→x.getD i 0 = 0)∧(∀ i,i < n→S i→img n f x i = 0)∧∃ i,i < n∧x.getD i 0≠0:=by
  unfold Fe at h
  simp only [Classical.not_forall] at h
  obtain ⟨x,hx,h1,h2,i,hi,h3⟩:=h
  exact ⟨x,hx,h1,h2,i,hi,h3⟩
theorem zUU {n:Nat} {f:Nat→Nat→Int} {x y:List Int} (hx:RowN n x) (hy:RowN n y) (i:Nat):img n f (addB x y) i = (img n f x i + img n f y i) % 2:=by
  unfold img
  rw [zXB hx hy]
  omega
theorem zQ2 {n:Nat} {f:Nat→Nat→Int} {S T:Nat→Prop} {u:Nat} (hs:Sym n f) (hS:Fe n f S) (hT:Fe n f T) (hu:u < n) (hd:S u ↔ ¬ T u):∃ v,v < n∧(S v ↔ ¬ T v)∧Fe n f (fun i=>if i = u∨i = v then ¬ S i else S i):=by
  by_cases hU:Fe n f (fun i=>if i = u then ¬ S i else S i)
  · refine ⟨u,hu,hd,(zN5 fun i hi=>?_).mp hU⟩
    by_cases h:i = u <;> simp [h]
  obtain ⟨x,hx,x1,x2,p,hp,x3⟩:=zT3 hU
  have x1':∀ i,i < n→i≠u→¬ S i→x.getD i 0 = 0:=fun i hi hiu hsi=>x1 i hi (by rw [if_neg hiu]; exact hsi)
  have x2':∀ i,i < n→i≠u→S i→img n f x i = 0:=fun i hi hiu hsi=>x2 i hi (by rw [if_neg hiu]; exact hsi)
  have u1:S u→x.getD u 0 = 0:=fun h=>x1 u hu (by rw [if_pos rfl]; exact fun z=>z h)
  have u2:¬ S u→img n f x u = 0:=fun h=>x2 u hu (by rw [if_pos rfl]; exact h)
  have hv:∃ v,v < n∧((¬ T v∧x.getD v 0≠0)∨(T v∧img n f x v≠0)):=by
    rcases Classical.em (∃ v,v < n∧((¬ T v∧x.getD v 0≠0)∨(T v∧img n f x v≠0))) with h | h
    · exact h
    · exact absurd (hT x hx (fun i hi hti=>Classical.byContradiction fun z=>h ⟨i,hi,.inl ⟨hti,z⟩⟩) (fun i hi hti=>Classical.byContradiction fun z=>h ⟨i,hi,.inr ⟨hti,z⟩⟩) p hp) x3
  obtain ⟨v,hvn,hv⟩:=hv
  have hvu:v≠u:=by
    rintro rfl
    rcases hv with ⟨a,b⟩ | ⟨a,b⟩
    · exact b (u1 (hd.mpr a))
    · exact b (u2 fun z=>hd.mp z a)
  have hdv:S v ↔ ¬ T v:=by
    rcases hv with ⟨a,b⟩ | ⟨a,b⟩
    · exact ⟨fun _=>a,fun _=>Classical.byContradiction fun z=>b (x1' v hvn hvu z)⟩
    · exact ⟨fun z=>absurd (x2' v hvn hvu z) b,fun z=>absurd a z⟩
  refine ⟨v,hvn,hdv,Classical.byContradiction fun hno=>?_⟩
  obtain ⟨y,hy,y1,y2,q,hq,y3⟩:=zT3 hno
  have y1':∀ i,i < n→i≠u→i≠v→¬ S i→y.getD i 0 = 0:=fun i hi hiu hiv hsi=>y1 i hi (by rw [if_neg (by simp [hiu,hiv])]; exact hsi)
  have y2':∀ i,i < n→i≠u→i≠v→S i→img n f y i = 0:=fun i hi hiu hiv hsi=>y2 i hi (by rw [if_neg (by simp [hiu,hiv])]; exact hsi)
  have yu1:S u→y.getD u 0 = 0:=fun h=>y1 u hu (by rw [if_pos (.inl rfl)]; exact fun z=>z h)
  have yu2:¬ S u→img n f y u = 0:=fun h=>y2 u hu (by rw [if_pos (.inl rfl)]; exact h)
  have yv1:S v→y.getD v 0 = 0:=fun h=>y1 v hvn (by rw [if_pos (.inr rfl)]; exact fun z=>z h)
  have yv2:¬ S v→img n f y v = 0:=fun h=>y2 v hvn (by rw [if_pos (.inr rfl)]; exact h)
  have hf:=zXS hs x y
  have e1:sumN n (fun i=>x.getD i 0 * img n f y i) = sumN n (fun i=>y.getD i 0 * img n f x i) + (x.getD v 0 * img n f y v - y.getD v 0 * img n f x v):=by
    refine zMR hvn fun i hi hiv=>?_
    by_cases hiu:i = u
    · subst hiu
      by_cases z:S i
      · rw [u1 z,yu1 z]; simp
      · rw [u2 z,yu2 z]; simp
    · by_cases z:S i
      · rw [x2' i hi hiu z,y2' i hi hiu hiv z]; simp
      · rw [x1' i hi hiu z,y1' i hi hiu hiv z]; simp
  have yv:y.getD v 0 = 0∧img n f y v = 0:=by
    by_cases z:S v
    · have a:=yv1 z
      refine ⟨a,?_⟩
      have b:x.getD v 0 = 1:=by
        rcases hv with ⟨_,b⟩ | ⟨a',b⟩
        · rcases zBN (k:=v) hx with w | w
          · exact absurd w b
          · exact w
        · exact absurd a' (hdv.mp z)
      rw [a,b] at e1
      rcases zM6 n f y v with w | w
      · exact w
      · rw [w] at e1; simp only [Int.one_mul,Int.zero_mul] at e1; omega
    · have a:=yv2 z
      refine ⟨?_,a⟩
      have b:img n f x v = 1:=by
        rcases hv with ⟨a',b⟩ | ⟨_,b⟩
        · exact absurd (hdv.mpr a') z
        · rcases zM6 n f x v with w | w
          · exact absurd w b
          · exact w
      rw [a,b] at e1
      rcases zBN (k:=v) hy with w | w
      · exact w
      · rw [w] at e1; simp only [Int.mul_one,Int.mul_zero] at e1; omega
  have nz:∀ w,RowN n w→(∀ i,i < n→i≠u→¬ S i→w.getD i 0 = 0)→(∀ i,i < n→i≠u→S i→img n f w i = 0)→(S u→w.getD u 0 = 0)→(¬ S u→img n f w u = 0)→(∃ i,i < n∧w.getD i 0≠0)→(S u→img n f w u = 1)∧(¬ S u→w.getD u 0 = 1):=by
    intro w hw w1 w2 w3 w4 ⟨i,hi,w5⟩
    refine ⟨fun z=>?_,fun z=>?_⟩
    · rcases zM6 n f w u with b | b
      · exact absurd (hS w hw (fun j hj hsj=>w1 j hj (fun e=>hsj (by rw [e]; exact z)) hsj) (fun j hj hsj=>by
          by_cases e:j = u
          · rw [e]; exact b
          · exact w2 j hj e hsj) i hi) w5
      · exact b
    · rcases zBN (k:=u) hw with b | b
      · exact absurd (hS w hw (fun j hj hsj=>by
          by_cases e:j = u
          · rw [e]; exact b
          · exact w1 j hj e hsj) (fun j hj hsj=>w2 j hj (fun e=>z (by rw [← e]; exact hsj)) hsj) i hi) w5
      · exact b
  have ax:=nz x hx x1' x2' u1 u2 ⟨p,hp,x3⟩
  have ay:=nz y hy (fun i hi hiu hsi=>by
    by_cases hiv:i = v
    · rw [hiv]; exact yv.1
    · exact y1' i hi hiu hiv hsi) (fun i hi hiu hsi=>by
    by_cases hiv:i = v
    · rw [hiv]; exact yv.2
    · exact y2' i hi hiu hiv hsi) yu1 yu2 ⟨q,hq,y3⟩
  have hz:=hS (addB x y) (zJZ hx hy) (fun i hi hsi=>by
    rw [zDA x y i (by rw [hx.1,hy.1]) (by rw [hx.1]; exact hi)]
    by_cases hiu:i = u
    · subst hiu
      rw [ax.2 hsi,ay.2 hsi]; rfl
    · rw [x1' i hi hiu hsi]
      by_cases hiv:i = v
      · rw [hiv,yv.1]; rfl
      · rw [y1' i hi hiu hiv hsi]; rfl) (fun i hi hsi=>by
    show img n f (addB x y) i = 0
    rw [zUU hx hy]
    by_cases hiu:i = u
    · subst hiu
      rw [ax.1 hsi,ay.1 hsi]; rfl
    · rw [x2' i hi hiu hsi]
      by_cases hiv:i = v
      · rw [hiv,yv.2]; rfl
      · rw [y2' i hi hiu hiv hsi]; rfl)
  have hxy:∀ i,i < n→x.getD i 0 = y.getD i 0:=fun i hi=>by
    have e:=hz i hi
    rw [zDA x y i (by rw [hx.1,hy.1]) (by rw [hx.1]; exact hi)] at e
    rcases zBN (k:=i) hx with a | a <;> rcases zBN (k:=i) hy with b | b <;> rw [a,b] at e ⊢ <;> omega
  have himg:∀ i,img n f x i = img n f y i:=fun i=>by
    unfold img
    rw [zBE fun k hk=>by rw [hxy k hk]]
  rcases hv with ⟨_,b⟩ | ⟨_,b⟩
  · exact b ((hxy v hvn).trans yv.1)
  · exact b ((himg v).trans yv.2)
end Mp

namespace Mp
open Mi PySem
theorem zGT (ns:List Int) (k:Nat) (hk:k < 100):∃ N:Int,zAY [.scr ns,.int (k:Int)] = okR (.int N):=by
  suffices h:eiR (zDV [some (.scr ns,0),some (.int (k:Int),0),none,none]) (fun _=>False) (fun d=>∃ N:Int,d = .int N) by
    rcases h with ⟨_,_,z⟩ | ⟨d,h1,N,rfl⟩
    · exact z.elim
    · exact ⟨N,zD5 rfl h1⟩
  have pw:powD (.int 10) (.int 60) = some (.int 1000000000000000000000000000000000000000000000000000000000000):=by simp
  unfold zDV
  refine zBS (P:=fun r=>r = [some (.scr ns,0),some (.int (k:Int),0),some (.int 0,0),none]) (zD2 (zB5 (ss rfl (Nat.le_refl 0)) rfl)) ?_
  rintro r rfl
  refine zBS (P:=fun r=>r = [some (.scr ns,0),some (.int (k:Int),0),some (.int 0,0),none]) ?_ ?_
  · cases ns with
    | nil=>exact .inl ⟨_,by rw [zET,ta0 (tb1 (k:=false) (b2 (bi1 rfl rfl) rfl rfl)),zA0,if_neg (by simp)]; rfl,rfl⟩
    | cons a t =>
      have i1:ixD (.scr (a :: t)) (.int 0) = some (.int a):=by
        show (itA (a :: t) 0).map _ = _
        rw [show itA (a :: t) 0 = some a from zEE (j:=0) rfl rfl]
        rfl
      have hA:tB (eB (cmpD fun i j=>decide (j < i)) (eBi lenD (aCons (eV 0) aNil)) (eC (.int 0))) (full [some (.scr (a :: t),0),some (.int (k:Int),0),some (.int 0,0),none]) = okR true:=tb1 (b2 (bi1 rfl rfl) rfl (tl rfl (decide_eq_true (Int.natCast_pos.mpr (Nat.succ_pos _)))))
      have p2:mulD (.int 2) (.int 1000000000000000000000000000000000000000000000000000000000000) = some (.int 2000000000000000000000000000000000000000000000000000000000000):=by rw [zRO (by decide) (by decide)]; rfl
      have hm2:modD (.int a) (.int 2) = some (.int (a % 2)):=by simp
      by_cases hp:a % 2 = 1
      · have hB:tB (eB eqD (eB modD (eB ixD (eV 0) (eC (.int 0))) (eC (.int 2))) (eC (.int 1))) (full [some (.scr (a :: t),0),some (.int (k:Int),0),some (.int 0,0),none]) = okR true:=tb1 (b2 (b2 (b2 rfl rfl i1) rfl hm2) rfl (by simp [hp]))
        have hC:tB (eB (cmpD fun i j=>decide (i < j)) (eV 1) (eBi lenD (aCons (eV 0) aNil))) (full [some (.scr (a :: t),0),some (.int (k:Int),0),some (.int 0,0),none]) = okR (decide ((k:Int) < ((a :: t).length:Int))):=tb1 (b2 rfl (bi1 rfl rfl) rfl)
        have rv:∀ z:Int,sRetV 1 2 [some (.scr (a :: t),0),some (.int (k:Int),0),some (.int z,0),none] = okR (.rt (.int z)):=fun z=>by simp
        by_cases hl:k < (a :: t).length
        · obtain ⟨c,hc⟩:∃ c,itA (a :: t) (k:Int) = some c:=⟨_,zEE (j:=k) rfl (List.getElem?_eq_getElem hl)⟩
          have hc':ixD (.scr (a :: t)) (.int (k:Int)) = some (.int c):=by
            show (itA (a :: t) (k:Int)).map _ = _
            rw [hc]
            rfl
          obtain ⟨q,hq,hq1,hq2⟩:∃ q:Int,subD (.int 2) (.int (if (1:Int) < (k:Int) then 1 else (k:Int))) = some (.int q)∧0 < q∧q < 1000000000000000000000000:=⟨2 - (if (1:Int) < (k:Int) then 1 else (k:Int)),rfl,by split <;> omega,by split <;> omega⟩
          have d1:∀ z:Int,divD (.int z) (.int q) = some (.int (z / q)):=fun z=>by simp [hq1,hq2]
          have d2:modD (.int c) (.int 2000000000000000000000000000000000000000000000000000000000000) = some (.int (c % 2000000000000000000000000000000000000000000000000000000000000)):=by simp
          refine .inr ⟨.int (c % 2000000000000000000000000000000000000000000000000000000000000 / q),?_,_,rfl⟩
          rw [zET,ta1 hA hB,zA0,if_pos rfl]
          rw [decide_eq_true (Int.ofNat_lt.mpr hl)] at hC
          exact st (r':=[some (.scr (a :: t),0),some (.int (k:Int),0),some (.int (c % 2000000000000000000000000000000000000000000000000000000000000 / q),0),none]) hC (ss (b2 (b2 (b2 rfl rfl hc') (b2 rfl (b2 rfl rfl pw) p2) d2) (b2 rfl (bi2 rfl rfl rfl) hq) (d1 _)) (Nat.le_refl 0)) (rv _)
        · refine .inr ⟨.int 0,?_,_,rfl⟩
          rw [zET,ta1 hA hB,zA0,if_pos rfl]
          rw [decide_eq_false fun z=>hl (Int.ofNat_lt.mp z)] at hC
          exact sp hC (rv 0)
      · refine .inl ⟨_,?_,rfl⟩
        have hB:tB (eB eqD (eB modD (eB ixD (eV 0) (eC (.int 0))) (eC (.int 2))) (eC (.int 1))) (full [some (.scr (a :: t),0),some (.int (k:Int),0),some (.int 0,0),none]) = okR false:=tb1 (b2 (b2 (b2 rfl rfl i1) rfl hm2) rfl (by simp [hp]))
        rw [zET,ta1 hA hB,zA0,if_neg (by simp)]
        rfl
  rintro r rfl
  refine zBS (P:=fun r=>∃ N:Int,∃ l2 o3,r = [some (.scr ns,0),some (.int (k:Int),0),some (.int N,l2),o3]) (zD2 ?_) ?_
  · rw [zE2,show iR1 (aCons (eC (.int 7)) aNil) (full [some (.scr ns,0),some (.int (k:Int),0),some (.int 0,0),none]) = okR (nums 0 7) from zDL (n:=7) (by simp) (by decide),zA0]
    refine zNZ (fun _ r=>∃ N:Int,∃ l2 o3,r = [some (.scr ns,0),some (.int (k:Int),0),some (.int N,l2),o3]) ⟨0,0,none,rfl⟩ (fun j hj r hr=>?_) fun r h=>h
    obtain ⟨N,l2,o3,rfl⟩:=hr
    obtain ⟨c,hc⟩:=zO2 ns (7 * (k:Int) + (j:Int)) (by omega) (by omega)
    have m2:mulD (.int N) (.int 2147483629) = some (.int (N * 2147483629)):=zUI (by decide) (by decide)
    have m3:mulD (.int 7) (.int (k:Int)) = some (.int (7 * (k:Int))):=by rw [zRO (by decide) (by decide)]
    exact zB5 (ss (b2 (b2 rfl rfl m2) (c2 rfl (b2 (b2 rfl rfl m3) rfl rfl) hc) rfl) (Nat.zero_le _)) ⟨_,_,_,rfl⟩
  rintro r ⟨N,l2,o3,rfl⟩
  have d3:modD (.int N) (.int 1000000000000000000000000000000000000000000000000000000000000) = some (.int (N % 1000000000000000000000000000000000000000000000000000000000000)):=by simp
  exact .inr ⟨_,sr (b2 rfl (b2 rfl rfl pw) d3) ⟨Nat.zero_le _,Nat.zero_le _⟩,_,rfl⟩
def KdT (N:Int) (n:Nat) (r:Ro):Prop:=∃ c:Int,∃ ks:List Nat,∃ l3 l4 o5,r = [some (.int N,0),some (.int 10,0),some (.int (n:Int),0),some (.int c,l3),some (rowD (numL ks),l4 + 1),o5,none,none,none]∧ks.length = n∧∀ k∈ks,k < n
def TbT (N:Int) (n:Nat) (ks:List Nat) (r:Ro):Prop:=∃ c:Int,∃ f l3 l4 o5 o7 o8,r = [some (.int N,0),some (.int 10,0),some (.int (n:Int),0),some (.int c,l3),some (rowD (numL ks),l4),o5,some (mat (tab n f),2),o7,o8]∧Bits n f∧Sym n f
theorem zOE (N:Int):∃ n f,n≤10∧Bits n f∧Sym n f∧zCP [.int N,.int 10] = okR (mat (tab n f)):=by
  obtain ⟨n,hn⟩:∃ n:Nat,N / 4 % 11 = (n:Int):=⟨(N / 4 % 11).toNat,by omega⟩
  have hn5:n≤10:=by omega
  suffices h:eiR (zDX [some (.int N,0),some (.int 10,0),none,none,none,none,none,none,none]) (fun _=>False) (fun d=>∃ f,d = mat (tab n f)∧Bits n f∧Sym n f) by
    rcases h with ⟨_,_,z⟩ | ⟨d,h1,f,rfl,h2,h3⟩
    · exact z.elim
    · exact ⟨n,f,hn5,h2,h3,zD5 rfl h1⟩
  have dv4:divD (.int N) (.int 4) = some (.int (N / 4)):=by simp
  have dv11:divD (.int (N / 4)) (.int (10 + 1)) = some (.int (N / 4 / 11)):=by simp
  have md11:modD (.int (N / 4)) (.int (10 + 1)) = some (.int (n:Int)):=by simp [hn]
  unfold zDX
  refine zBS (P:=fun r=>r = [some (.int N,0),some (.int 10,0),some (.int (n:Int),0),none,none,none,none,none,none]) (zD2 (zB5 (ss (b2 (b2 rfl rfl dv4) (b2 rfl rfl rfl) md11) (Nat.le_refl 0)) rfl)) ?_
  rintro r rfl
  refine zBS (P:=fun r=>r = [some (.int N,0),some (.int 10,0),some (.int (n:Int),0),some (.int (N / 4 / 11),0),none,none,none,none,none]) (zD2 (zB5 (ss (b2 (b2 rfl rfl dv4) (b2 rfl rfl rfl) dv11) (Nat.le_refl 0)) rfl)) ?_
  rintro r rfl
  generalize N / 4 / 11 = c
  refine zBS (P:=fun r=>r = [some (.int N,0),some (.int 10,0),some (.int (n:Int),0),some (.int c,0),none,none,none,none,none]) ?_ ?_
  · obtain ⟨f,h1,h2,h3⟩:=zMH c n (by omega)
    by_cases h:N % 4 = 3
    · exact .inr ⟨mat (tab n f),by simp [h,h3],f,rfl,h1,h2⟩
    · exact .inl ⟨_,by simp [h],rfl⟩
  rintro r rfl
  refine zBS (P:=fun r=>r = [some (.int N,0),some (.int 10,0),some (.int (n:Int),0),some (.int c,0),some (rowD (numL (List.range n)),1),none,none,none,none]) (zD2 ?_) ?_
  · have hr:rangeD [.int (n:Int)] = some (rowD (numL (List.range n))):=by
      unfold rangeD
      dsimp only
      rw [if_pos (by omega),numD,Int.toNat_natCast,zD7]
    simp [hr]
  rintro r rfl
  refine zBS (P:=KdT N n) (zD2 ?_) ?_
  · rw [zET]
    by_cases h:N % 4 = 2
    · rw [show tB (eB eqD (eB modD (eV 0) (eC (.int 4))) (eC (.int 2))) (full [some (.int N,0),some (.int 10,0),some (.int (n:Int),0),some (.int c,0),some (rowD (numL (List.range n)),1),none,none,none,none]) = okR true by simp [h],zA0,if_pos rfl]
      rw [zE2,show iR2 (aCons (eC (.int 1)) (aCons (eV 2) aNil)) (full [some (.int N,0),some (.int 10,0),some (.int (n:Int),0),some (.int c,0),some (rowD (numL (List.range n)),1),none,none,none,none]) = okR ((List.range (n - 1)).map fun k:Nat=>Dt.int (1 + (k:Int))) by
        unfold iR2
        simp
        rw [if_pos (by omega)]
        rfl,zA0]
      refine zUG (fun k:Nat=>Dt.int (1 + (k:Int))) (List.range (n - 1)) (fun _=>KdT N n) ⟨c,List.range n,0,0,none,rfl,by simp,fun k hk=>by simpa using hk⟩ (fun q k hq r hr=>?_) fun r h=>h
      obtain ⟨c,ks,l3,l4,o5,rfl,h1,h2⟩:=hr
      have hk:k < n - 1:=by have:=List.mem_of_getElem? hq; simpa using this
      have nl:(numL ks).length = n:=by simp [numL,h1]
      have hpos:0 < 1 + k:=by omega
      have d1:modD (.int c) (.int (1 + (k:Int))) = some (.int (c % ((1 + k:Nat):Int))):=by
        have:=zHH c hpos
        rwa [show ((1 + k:Nat):Int) = 1 + (k:Int) by omega] at this ⊢
      obtain ⟨w,hw1,hw2⟩:∃ w:Nat,w < n∧(eIf (tB (eB eqD (eB modD (eB divD (eV 3) (eC (.int 10))) (eC (.int 2))) (eC (.int 1)))) (eB ixD (eV 4) (eB modD (eV 3) (eV 5))) (eV 5)) [some (.int N),some (.int 10),some (.int (n:Int)),some (.int c),some (rowD (numL ks)),some (.int (1 + (k:Int))),none,none,none] = okR (.int (w:Int)):=by
        by_cases h:c / 10 % 2 = 1
        · obtain ⟨a,ha⟩:∃ a:Nat,c % ((1 + k:Nat):Int) = (a:Int):=⟨(c % ((1 + k:Nat):Int)).toNat,by have:=Int.emod_nonneg c (show ((1 + k:Nat):Int)≠0 by omega); omega⟩
          have han:a < n:=by have:=Int.emod_lt_of_pos c (show (0:Int) < ((1 + k:Nat):Int) by omega); omega
          have i1:=zIF (numL ks) a (by omega)
          have g:(numL ks).getD a 0 = ((ks.getD a 0:Nat):Int):=by unfold numL; rw [zEP (d:=0) (by omega)]
          rw [g] at i1
          rw [ha] at d1
          refine ⟨ks.getD a 0,zCD h2 (by omega),?_⟩
          simp [-List.getD_eq_getElem?_getD,h,d1,i1]
        · exact ⟨1 + k,by omega,by simp [h]⟩
      refine zDF fun bb hb=>?_
      refine zB5 (zRV (l:=l4) (a:=1 + k) (v:=(w:Int)) (xs:=numL ks) rfl hw2 (by simp) (by omega)) ?_
      subst hb
      refine zB5 (r:=[some (.int N,0),some (.int 10,0),some (.int (n:Int),0),some (.int (c / 20),0),some (rowD (numL (ks.set (1 + k) w)),l4 + 1),some (.int (1 + (k:Int)),0),none,none,none]) ?_ ⟨_,_,_,_,_,rfl,by simp [h1],fun j hj=>(List.mem_or_eq_of_mem_set hj).elim (h2 j) fun z=>by rw [z]; exact hw1⟩
      have e:numL (ks.set (1 + k) w) = (numL ks).set (1 + k) (w:Int):=by unfold numL; rw [List.map_set]
      simp [e]
    · rw [show tB (eB eqD (eB modD (eV 0) (eC (.int 4))) (eC (.int 2))) (full [some (.int N,0),some (.int 10,0),some (.int (n:Int),0),some (.int c,0),some (rowD (numL (List.range n)),1),none,none,none,none]) = okR false by simp [h],zA0,if_neg (by simp)]
      exact ⟨c,List.range n,0,0,none,rfl,by simp,fun k hk=>by simpa using hk⟩
  rintro r ⟨c,ks,l3,l4,o5,rfl,hkl,hkn⟩
  refine zBS (P:=TbT N n ks) (zD2 ?_) ?_
  · have hc:eComp (iR1 (aCons (eV 2) aNil)) 1 (.one 9) Mi.tYes (eComp (iR1 (aCons (eV 2) aNil)) 1 (.one 10) Mi.tYes (eC (.int 0))) [some (.int N),some (.int 10),some (.int (n:Int)),some (.int c),some (rowD (numL ks)),o5.map Prod.fst,none,none,none] = okR (mat (tab n fun _ _=>0)) :=
      zJU _ rfl rfl (by omega) (zDL (by simp) (by omega)) (fun a=>zDL (by simp) (by omega)) fun a b ha hb=>by simp
    have hd:=zDT (tab n fun _ _=>0)
    refine zB5 (r:=[some (.int N,0),some (.int 10,0),some (.int (n:Int),0),some (.int c,l3),some (rowD (numL ks),l4 + 1),o5,some (mat (tab n fun _ _=>0),2),none,none]) ?_ ⟨c,_,_,_,_,_,_,rfl,fun _ _ _ _=>.inl rfl,fun _ _ _ _=>rfl⟩
    exact ss hc hd
  intro r hr
  refine zBS (P:=TbT N n ks) (zD2 ?_) ?_
  · rw [zE2,show iR1 (aCons (eV 2) aNil) (full r) = okR (nums 0 n) by obtain ⟨c,f,l3,l4,o5,o7,o8,rfl,_⟩:=hr; exact zDL (by simp) (by omega),zA0]
    refine zNZ (fun _=>TbT N n ks) hr (fun i hi r hr=>?_) fun r h=>h
    rw [zE2,show iR1 (aCons (eB addD (eV 7) (eC (.int 1))) aNil) (full (r.set 7 (some (.int (i:Nat),0)))) = okR (nums 0 (i + 1)) by obtain ⟨c,f,l3,l4,o5,o7,o8,rfl,_⟩:=hr; exact zDL (by simp) (by omega),zA0]
    refine zNZ (fun _ r=>∃ c:Int,∃ f l3 l4 o5 o8,r = [some (.int N,0),some (.int 10,0),some (.int (n:Int),0),some (.int c,l3),some (rowD (numL ks),l4),o5,some (mat (tab n f),2),some (.int (i:Nat),0),o8]∧Bits n f∧Sym n f) ?_ (fun j hj r hr=>?_) fun r h=>?_
    · obtain ⟨c,f,l3,l4,o5,o7,o8,rfl,h1,h2⟩:=hr
      exact ⟨c,f,l3,l4,o5,o8,rfl,h1,h2⟩
    · obtain ⟨c,f,l3,l4,o5,o8,rfl,h1,h2⟩:=hr
      have md2:modD (.int c) (.int 2) = some (.int (c % 2)):=by simp
      have dv2:divD (.int c) (.int 2) = some (.int (c / 2)):=by simp
      refine zDF fun bb hb=>?_
      refine zB5 (zED (l:=0) (a:=i) (b:=j) (v:=c % 2) rfl rfl rfl (b2 rfl rfl md2) hi (by omega)) ?_
      subst hb
      refine zDF fun bb hb=>?_
      refine zB5 (zED (l:=0) (a:=j) (b:=i) (v:=c % 2) rfl rfl rfl (b2 rfl rfl md2) (by omega) hi) ?_
      subst hb
      refine zB5 (r:=[some (.int N,0),some (.int 10,0),some (.int (n:Int),0),some (.int (c / 2),0),some (rowD (numL ks),l4),o5,some (mat (tab n (putv i j (c % 2) f)),2),some (.int (i:Nat),0),some (.int (j:Nat),0)]) (ss (b2 rfl rfl dv2) (Nat.le_refl 0)) ?_
      exact ⟨_,_,_,_,_,_,rfl,zP8 h1 (zFB _),zRB h2⟩
    · obtain ⟨c,f,l3,l4,o5,o8,rfl,h1,h2⟩:=h
      exact ⟨c,f,l3,l4,o5,_,o8,rfl,h1,h2⟩
  rintro r ⟨c,f,l3,l4,o5,o7,o8,rfl,h1,h2⟩
  have hc:∀ o0 o1 o3 o5 o7 o8:Option Dt,eComp (iR1 (aCons (eV 2) aNil)) 1 (.one 9) Mi.tYes (eComp (iR1 (aCons (eV 2) aNil)) 1 (.one 10) Mi.tYes (eB ixD (eB ixD (eV 6) (eB ixD (eV 4) (eV 9))) (eB ixD (eV 4) (eV 10)))) [o0,o1,some (.int (n:Int)),o3,some (rowD (numL ks)),o5,some (mat (tab n f)),o7,o8] = okR (mat (tab n (sub ks f))):=by
    intro o0 o1 o3 o5 o7 o8
    refine zJU _ rfl rfl (by omega) (zDL (by simp) (by omega)) (fun a=>zDL (by simp) (by omega)) fun a b ha hb=>?_
    have nl:(numL ks).length = ks.length:=by simp [numL]
    have g:∀ a,a < n→(numL ks).getD a 0 = ((ks.getD a 0:Nat):Int):=fun a ha=>by
      unfold numL
      rw [zEP (d:=0) (by omega)]
    have i1:=zIF (numL ks) a (by omega)
    have i2:=zIF (numL ks) b (by omega)
    rw [g a ha] at i1
    rw [g b hb] at i2
    have k1:=zCD hkn (a:=a) (by omega)
    have k2:=zCD hkn (a:=b) (by omega)
    have i3:=ixM (f:=f) k1
    have i4:=ixR (g:=fun j=>f (ks.getD a 0) j) k2
    simp only [x_eB,x_eV]
    simp [-List.getD_eq_getElem?_getD,i1,i2,i3,i4,sub]
  refine .inr ⟨mat (tab n (sub ks f)),?_,sub ks f,rfl,fun i j hi hj=>h1 _ _ (zCD hkn (by omega)) (zCD hkn (by omega)),fun i j hi hj=>h2 _ _ (zCD hkn (by omega)) (zCD hkn (by omega))⟩
  unfold sRet
  show zA3 (eComp _ _ _ _ _ [some (.int N),some (.int 10),some (.int (n:Int)),some (.int c),some (rowD (numL ks)),o5.map Prod.fst,some (mat (tab n f)),o7.map Prod.fst,o8.map Prod.fst]) _ = _
  rw [hc,zA0]
  split
  · rfl
  · rw [if_pos rfl]
    rcases o7 with _ | ⟨d7,n7⟩ <;> rcases o8 with _ | ⟨d8,n8⟩ <;> exact congrArg (fun x=>zA3 x fun d'=>okR (Out.rt d')) (hc _ _ _ _ _ _)
end Mp

namespace Mp
open Mi PySem
noncomputable def pB (p:Prop):Bool:=@decide p (Classical.propDecidable p)
theorem zPH (p:Prop):pB p = true ↔ p:=by unfold pB; simp
theorem pB_t {p:Prop} (h:p):pB p = true:=(zPH p).mpr h
theorem pB_f {p:Prop} (h:¬ p):pB p = false:=by
  cases e:pB p
  · rfl
  · exact absurd ((zPH p).mp e) h
theorem zNL (ks:List Nat) (hz:ks.length≤1000):zCX [rowD (numL ks)] = okR (.bl true):=by
  unfold zCX zI4
  have hw:=zGK
  have hc:eComp (iSq (eV 0)) 1 (.one 1) Mi.tYes (eCall zBC (aCons (eV 1) aNil)) [some (rowD (numL ks))] = okR (.lst (ks.map fun _=>Dt.bl true)):=by
    refine zC3 (fun k:Nat=>Dt.int (k:Int)) _ ks rfl rfl (fun k _=>by simp [hw]) _ (by rw [numD]; simp) (by omega)
  have hb:=zOB ks
  simp [startO,hc,hb]
def Rise (n:Nat) (ks:List Nat):Prop:=ks = (List.range n).filter fun i=>decide (i∈ks)
theorem zHA (n:Nat) (p:Nat→Bool):Rise n ((List.range n).filter p):=by
  unfold Rise
  refine (List.filter_congr fun i hi=>?_)
  simp only [List.mem_filter,hi,true_and]
  cases p i <;> rfl
theorem zLQ:∀ {a b:List Nat},a.Pairwise (· < ·)→b.Pairwise (· < ·)→(∀ x,x∈a ↔ x∈b)→a = b
  | [],[],_,_,_=>rfl
  | [],y :: b,_,_,h=>by have:=(h y).mpr (by simp); simp at this
  | x :: a,[],_,_,h=>by have:=(h x).mp (by simp); simp at this
  | x :: a,y :: b,ha,hb,h=>by
    obtain ⟨a1,a2⟩:=List.pairwise_cons.mp ha
    obtain ⟨b1,b2⟩:=List.pairwise_cons.mp hb
    have hxy:x = y:=by
      have h1:=(h x).mp (by simp)
      have h2:=(h y).mpr (by simp)
      rcases List.mem_cons.mp h1 with z | z
      · exact z
      · rcases List.mem_cons.mp h2 with w | w
        · exact w.symm
        · have:=b1 x z; have:=a1 y w; omega
    subst hxy
    congr 1
    refine zLQ a2 b2 fun z=>⟨fun hz=>?_,fun hz=>?_⟩
    · rcases List.mem_cons.mp ((h z).mp (List.mem_cons_of_mem _ hz)) with e | e
      · have:=a1 z hz; omega
      · exact e
    · rcases List.mem_cons.mp ((h z).mpr (List.mem_cons_of_mem _ hz)) with e | e
      · have:=b1 z hz; omega
      · exact e
theorem zP2 {n:Nat} {ks:List Nat} (h1:ks.Pairwise (· < ·)) (h2:∀ k∈ks,k < n):Rise n ks:=by
  refine zLQ h1 (List.Pairwise.filter _ List.pairwise_lt_range) fun x=>?_
  simp only [List.mem_filter,List.mem_range,decide_eq_true_eq]
  exact ⟨fun h=>⟨h2 x h,h⟩,fun h=>h.2⟩
theorem Rise.up {n:Nat} {ks:List Nat} (h:Rise n ks):ks.Pairwise (· < ·):=by
  rw [h]; exact List.Pairwise.filter _ List.pairwise_lt_range
theorem Rise.lt {n:Nat} {ks:List Nat} (h:Rise n ks):∀ k∈ks,k < n:=fun k hk=>by
  rw [h] at hk
  simpa using (List.mem_filter.mp hk).1
theorem Rise.le {n:Nat} {ks:List Nat} (h:Rise n ks):ks.length≤n:=by
  rw [h]
  exact Nat.le_trans (List.length_filter_le _ _) (by simp)
theorem zN4 (i:Nat) (ks:List Nat):hasD (.int (i:Int)) ((numL ks).map Dt.int) = some (decide (i∈ks)):=by
  rw [hasD,if_pos ⟨rfl,zFT _⟩]
  congr 1
  unfold numL
  rw [List.map_map]
  induction ks with
  | nil=>rfl
  | cons k r ih =>
    rw [List.map_cons,List.any_cons,ih]
    by_cases h:i = k
    · subst h; simp
    · simp [h,show ¬ (k:Int) = (i:Int) by omega]
theorem zPY (i:Nat) (ks:List Nat):inD false (.int (i:Int)) (rowD (numL ks)) = some (.bl (decide (i∈ks))):=by
  show (hasD (.int (i:Int)) ((numL ks).map Dt.int)).map _ = _
  rw [zN4]
  rfl
theorem zEM (i:Nat) (ks:List Nat):inD true (.int (i:Int)) (rowD (numL ks)) = some (.bl (!decide (i∈ks))):=by
  show (hasD (.int (i:Int)) ((numL ks).map Dt.int)).map _ = _
  rw [zN4]
  rfl
theorem zR3 (n:Nat) (f:Nat→Nat→Int) (ks:List Nat) (hn:n≤10) (hr:Rise n ks):zFJ [mat (tab n f),rowD (numL ks)] = okR (.bl true):=by
  have hz:ks.length≤n:=hr.le
  have hw:=zNL ks (by omega)
  have hc:eComp (iR1 (aCons (eBi lenD (aCons (eV 0) aNil)) aNil)) 1 (.one 2) (tB (eB (inD false) (eV 2) (eV 1))) (eV 2) [some (mat (tab n f)),some (rowD (numL ks))] = okR (rowD (numL ks)):=by
    have:=zBA (ρ:=[some (mat (tab n f)),some (rowD (numL ks))]) (c:=tB (eB (inD false) (eV 2) (eV 1))) (e:=eV 2) (i:=2) (fun k:Nat=>Dt.int (k:Int)) (fun k:Nat=>Dt.int (k:Int)) (fun i=>decide (i∈ks)) (List.range n) rfl (fun i hi=>by simp [zPY]) (fun i _ _=>by simp) (iR1 (aCons (eBi lenD (aCons (eV 0) aNil)) aNil)) (by rw [zDL (n:=n) (by simp [zC4]) (by omega),zD7]) (by simp; omega)
    rw [this,numD]
    have hr':ks = (List.range n).filter fun i=>decide (i∈ks):=hr
    rw [← hr']
  unfold zFJ zNI
  have he:=zXC (numL ks) (numL ks)
  simp [startO,hw,hc,he]
theorem zTY {m:Nat} {g:Nat→Nat→Int} (hm:m≤10) (hb:Bits m g):∃ q:Nat,zCB [mat (tab m g)] = okR (.int (q:Int))∧(q = m ↔ NS m g):=by
  obtain ⟨q,r1,A,r2⟩:=zMW m (tab m g) (zC4 m g) (zMP hb) hm
  refine ⟨q,r1,fun h x hx hk j=>?_,fun h=>?_⟩
  · exact (r2.all h x hx ((zM4 hx.1).mpr hk)).2 (fun k hk=>by
      simp [List.getD_eq_getElem?_getD,List.getElem?_eq_none (show x.length≤k by rw [hx.1]; omega)]) j
  · rcases Nat.lt_or_ge q m with z | z
    · obtain ⟨x,x1,x2,j,x3,x4⟩:=r2.some z
      have:=h x x1 ((zM4 x1.1).mp x2) j
      rw [x4] at this
      simp at this
    · exact Nat.le_antisymm r2.le z
theorem zCU (n:Nat) (f:Nat→Nat→Int) (ks:List Nat) (hn:n≤10) (hb:Bits n f) (hr:Rise n ks):zB7 [mat (tab n f),rowD (numL ks)] = okR (.bl (pB (Fe n f (·∈ks))))∧zBW [mat (tab n f),rowD (numL ks)] = okR (.bl (pB (Fe n f (·∈ks)))):=by
  have hz:ks.length≤n:=hr.le
  have hk:∀ k∈ks,k < n:=hr.lt
  have hp:=zRI n f ks hk (by omega)
  have hbs:Bits ks.length (sub ks f):=fun i j hi hj=>hb _ _ (zCD hk hi) (zCD hk hj)
  obtain ⟨q,h1,h2,h3⟩:=zQR ks.length (sub ks f) (by omega) hbs
  obtain ⟨q',r1,r2⟩:=zTY (by omega) hbs
  have e:q' = q:=by rw [h1,zUE] at r1; injection r1 with r1; omega
  subst e
  rw [zYP (zGQ hr.up) hk] at r2
  have hs:=zR3 n f ks hn hr
  have hl:(numL ks).length = ks.length:=by simp [numL]
  refine ⟨?_,?_⟩
  · unfold zB7 zIX
    by_cases h:q' = ks.length
    · rw [pB_t (r2.mp h)]
      simp [startO,hp,h1,hl,h]
    · rw [pB_f fun z=>h (r2.mpr z)]
      simp [startO,hp,h1,hl]
      omega
  · unfold zBW zIW
    rcases h3 with ⟨h3,h4⟩ | ⟨h3,g,_,_,_,h4⟩
    · rw [pB_f fun z=>by have:=r2.mpr z; omega]
      simp [startO,hs,hp,h4]
    · have hm:mat (tab ks.length g) = .lst ((tab ks.length g).map rowD):=rfl
      rw [pB_t (r2.mp h3)]
      simp [startO,hs,hp,h4]
      try simp [hm]
noncomputable def sd (n:Nat) (a b:List Nat):List Nat:=(List.range n).filter fun i=>!decide (decide (i∈a) = decide (i∈b))
theorem zDM (n:Nat) (a b:List Nat):Rise n (sd n a b):=zHA n _
theorem sd_mem {n:Nat} {a b:List Nat} {i:Nat}:i∈sd n a b ↔ i < n∧(i∈a ↔ ¬ i∈b):=by
  unfold sd
  rw [List.mem_filter,List.mem_range]
  by_cases h1:i∈a <;> by_cases h2:i∈b <;> simp [h1,h2]
theorem zJX (n:Nat) (f:Nat→Nat→Int) (a b:List Nat) (hn:n≤10):zBI [mat (tab n f),rowD (numL a),rowD (numL b)] = okR (rowD (numL (sd n a b))):=by
  have hc:eComp (iR1 (aCons (eBi lenD (aCons (eV 0) aNil)) aNil)) 1 (.one 3) (tB (eB neD (eB (inD false) (eV 3) (eV 1)) (eB (inD false) (eV 3) (eV 2)))) (eV 3) [some (mat (tab n f)),some (rowD (numL a)),some (rowD (numL b))] = okR (rowD (numL (sd n a b))):=by
    rw [zBA (ρ:=[some (mat (tab n f)),some (rowD (numL a)),some (rowD (numL b))]) (c:=tB (eB neD (eB (inD false) (eV 3) (eV 1)) (eB (inD false) (eV 3) (eV 2)))) (e:=eV 3) (i:=3) (fun k:Nat=>Dt.int (k:Int)) (fun k:Nat=>Dt.int (k:Int)) (fun i=>!decide (decide (i∈a) = decide (i∈b))) (List.range n) rfl (fun i hi=>by simp [zPY]) (fun i _ _=>by simp) (iR1 (aCons (eBi lenD (aCons (eV 0) aNil)) aNil)) (by rw [zDL (n:=n) (by simp [zC4]) (by omega),zD7]) (by simp; omega),numD]
    rfl
  have hd:(rowD (numL (sd n a b))).dep≤1:=by unfold rowD; simp
  unfold zBI zGM
  simp [startO,hc,hd]
theorem num2 (u i:Nat):Dt.lst [.int (u:Int),.int (i:Int)] = rowD (numL [u,i]):=rfl
theorem zRJ (n:Nat) (f:Nat→Nat→Int) (a b:List Nat) (u:Nat) (hn:n≤10) (hb:Bits n f) (ha:Rise n a) (hb':Rise n b) (h:¬ (Fe n f (·∈a)∧Fe n f (·∈b)∧u∈sd n a b)):zAU [mat (tab n f),rowD (numL a),rowD (numL b),.int (u:Int)] = some (.error ⟨"NoSet","",.non⟩):=by
  have c1:=(zCU n f a hn hb ha).2
  have c2:=(zCU n f b hn hb hb').2
  have c3:=zJX n f a b hn
  have c4:=zEM u (sd n a b)
  have hd:(rowD (numL (sd n a b))).dep≤1:=by unfold rowD; simp
  unfold zAU
  refine zVW rfl ?_
  unfold zDD
  by_cases h1:Fe n f (·∈a)
  · by_cases h2:Fe n f (·∈b)
    · have h3:u ∉ sd n a b:=fun z=>h ⟨h1,h2,z⟩
      rw [pB_t h1] at c1
      rw [pB_t h2] at c2
      simp [startO,c1,c2,c3,c4,hd,h3,sRaise0]
    · rw [pB_t h1] at c1
      rw [pB_f h2] at c2
      simp [startO,c1,c2,sRaise0]
  · rw [pB_f h1] at c1
    simp [startO,c1,sRaise0]
theorem zPI (n:Nat) (f:Nat→Nat→Int) (a b:List Nat) (u:Nat) (hn:n≤10) (hb:Bits n f) (hs:Sym n f) (ha:Rise n a) (hb':Rise n b) (h1:Fe n f (·∈a)) (h2:Fe n f (·∈b)) (h3:u∈sd n a b) :
    ∃ v,v∈sd n a b∧Fe n f (·∈sd n a [u,v])∧zAU [mat (tab n f),rowD (numL a),rowD (numL b),.int (u:Int)] = okR (.int (v:Int)):=by
  have c1:=(zCU n f a hn hb ha).2
  have c2:=(zCU n f b hn hb hb').2
  have c3:=zJX n f a b hn
  have c4:=zEM u (sd n a b)
  have hd:(rowD (numL (sd n a b))).dep≤1:=by unfold rowD; simp
  rw [pB_t h1] at c1
  rw [pB_t h2] at c2
  have c5:∀ i:Nat,zBW [mat (tab n f),rowD (numL (sd n a [u,i]))] = okR (.bl (pB (Fe n f (·∈sd n a [u,i])))):=fun i=>(zCU n f _ hn hb (zDM _ _ _)).2
  have c6:∀ i:Nat,zBI [mat (tab n f),rowD (numL a),rowD (numL [u,i])] = okR (rowD (numL (sd n a [u,i]))):=fun i=>zJX n f a [u,i] hn
  have hlen:=(zDM n a b).le
  have c7:∀ o5,eComp (iSq (eV 4)) 1 (.one 6) (tM (eCallN zBW (aCons (eV 0) (aCons (eCallN zBI (aCons (eV 0) (aCons (eV 1) (aCons (eLst (aCons (eV 3) (aCons (eV 6) aNil))) aNil)))) aNil)))) (eV 6) [some (mat (tab n f)),some (rowD (numL a)),some (rowD (numL b)),some (.int (u:Int)),some (rowD (numL (sd n a b))),o5] = okR (rowD (numL ((sd n a b).filter fun i=>pB (Fe n f (·∈sd n a [u,i]))))):=by
    intro o5
    rw [numD ((sd n a b).filter _)]
    refine zBA (fun k:Nat=>Dt.int (k:Int)) (fun k:Nat=>Dt.int (k:Int)) (fun i=>pB (Fe n f (·∈sd n a [u,i]))) (sd n a b) rfl (fun i hi=>?_) (fun i _ _=>by simp) (iSq (eV 4)) (by rw [numD (sd n a b)]; simp) (by omega)
    have e1:=c5 i
    have e2:=c6 i
    simp [num2,e1,e2]
  obtain ⟨u1,u2⟩:=sd_mem.mp h3
  obtain ⟨v,v1,v2,v3⟩:=zQ2 hs h1 h2 u1 u2
  have hv:v∈(sd n a b).filter fun i=>pB (Fe n f (·∈sd n a [u,i])):=by
    rw [List.mem_filter]
    refine ⟨sd_mem.mpr ⟨v1,v2⟩,pB_t ((zN5 fun i hi=>?_).mp v3)⟩
    rw [sd_mem]
    by_cases h:i = u∨i = v
    · rw [if_pos h]
      simp [hi,h]
    · rw [if_neg h]
      have h':¬ i = u∧¬ i = v:=⟨fun z=>h (.inl z),fun z=>h (.inr z)⟩
      simp [hi,h'.1,h'.2]
  cases hl:(sd n a b).filter fun i=>pB (Fe n f (·∈sd n a [u,i])) with
  | nil=>rw [hl] at hv; simp at hv
  | cons w t =>
    have hw:w∈(sd n a b).filter fun i=>pB (Fe n f (·∈sd n a [u,i])):=by rw [hl]; simp
    rw [List.mem_filter] at hw
    refine ⟨w,hw.1,(zPH _).mp hw.2,?_⟩
    rw [hl] at c7
    have i0:ixD (rowD (numL (w :: t))) (.int 0) = some (.int (w:Int)):=by
      show itA _ 0 = _
      exact zEE (j:=0) rfl rfl
    have hd2:(rowD (numL (w :: t))).dep≤1:=by unfold rowD; simp
    unfold zAU
    refine zD5 rfl ?_
    unfold zDD
    refine zBR fun bb hbb=>?_
    simp [startO,c1,c2]
    subst hbb
    refine zBR fun bb hbb=>?_
    simp [c3,hd]
    subst hbb
    refine zBR fun bb hbb=>?_
    simp [c4,h3]
    subst hbb
    refine zBR fun bb hbb=>?_
    simp [c7,hd2]
    subst hbb
    simp [i0]
end Mp

namespace Mp
open Mi PySem
theorem zSL (T a b:Dt) (u:Int) (h:zAU [T,a,b,.int u] = some (.error ⟨"NoSet","",.non⟩)):zAZ [T,a,b,.int u] = okR (.tup [.non,.lst [.bl true,.bl true,.bl false,.bl false]]):=by
  unfold zAZ
  refine zD5 rfl ?_
  unfold zD1
  refine zBR fun bb hb=>?_
  simp
  subst hb
  refine zBR fun bb hb=>?_
  simp
  subst hb
  refine zBR fun bb hb=>?_
  rw [zTU (x:=⟨"NoSet","",.non⟩) _ _ _ (by simp [h]) (by simp)]
  simp
  subst hb
  simp
theorem zQK (T a b:Dt) (u v:Int) (h:zAU [T,a,b,.int u] = okR (.int v)):zAZ [T,a,b,.int u] = okR (.tup [.int v,.lst []]):=by
  unfold zAZ
  refine zD5 rfl ?_
  unfold zD1
  refine zBR fun bb hb=>?_
  simp
  subst hb
  refine zBR fun bb hb=>?_
  simp
  subst hb
  refine zBR fun bb hb=>?_
  rw [zTT _ _ _ (d:=.int v) (by simp [h])]
  simp
  subst hb
  simp
theorem zMB (c:Int) (n:Nat) (hn:n≤1000):∃ bs:List Int,bs.length = n∧zCO [.int c,.int 2,.int (n:Int)] = okR (rowD bs):=by
  suffices h:eiR (zDW [some (.int c,0),some (.int 2,0),some (.int (n:Int),0),none,none]) (fun _=>False) (fun d=>∃ bs:List Int,bs.length = n∧d = rowD bs) by
    rcases h with ⟨_,_,z⟩ | ⟨d,h1,bs,h2,rfl⟩
    · exact z.elim
    · exact ⟨bs,h2,zD5 rfl h1⟩
  unfold zDW
  refine zBS (P:=fun r=>∃ bs:List Int,∃ c:Int,∃ o4,r = [some (.int c,0),some (.int 2,0),some (.int (n:Int),0),some (rowD bs,9),o4]∧bs.length = 0) (zD2 ?_) ?_
  · exact zB5 (r:=[some (.int c,0),some (.int 2,0),some (.int (n:Int),0),some (rowD [],9),none]) (by simp [rowD]) ⟨[],c,none,rfl,rfl⟩
  rintro r ⟨bs,c,o4,rfl,hz⟩
  refine zBS (P:=fun r=>∃ bs:List Int,∃ c:Int,∃ o4,r = [some (.int c,0),some (.int 2,0),some (.int (n:Int),0),some (rowD bs,9),o4]∧bs.length = n) (zD2 ?_) ?_
  · rw [zE2,show iR1 (aCons (eV 2) aNil) (full [some (.int c,0),some (.int 2,0),some (.int (n:Int),0),some (rowD bs,9),o4]) = okR (nums 0 n) from zDL (n:=n) (by simp) (by omega),zA0]
    refine zNZ (fun k r=>∃ bs:List Int,∃ c:Int,∃ o4,r = [some (.int c,0),some (.int 2,0),some (.int (n:Int),0),some (rowD bs,9),o4]∧bs.length = k) ⟨bs,c,o4,rfl,hz⟩ (fun k hk r hr=>?_) fun r h=>h
    obtain ⟨bs,c,o4,rfl,hz⟩:=hr
    refine zDF fun bb hb=>?_
    refine zB5 (zY0 (ds:=bs.map Dt.int) (k:=8) (d:=.int (c % 2)) rfl (by simp) (by simp; omega) (by simp) (by simp)) ?_
    subst hb
    refine zB5 (r:=[some (.int (c / 2),0),some (.int 2,0),some (.int (n:Int),0),some (rowD (bs ++ [c % 2]),9),some (.int (k:Nat),0)]) (by simp [rowD]) ⟨_,_,_,rfl,by simp [hz]⟩
  rintro r ⟨bs,c,o4,rfl,hz⟩
  exact .inr ⟨rowD bs,by simp,bs,hz,rfl⟩
theorem zU4 {ks:List Nat} {n:Nat} (h:Rise n ks) (k:Nat):Rise n (ks.take k):=zP2 (h.up.sublist (List.take_sublist _ _)) fun x hx=>h.lt x (List.mem_of_mem_take hx)
theorem fe_nil (n:Nat) (f:Nat→Nat→Int):Fe n f (·∈([]:List Nat)):=fun x _ h _ i hi=>h i hi (by simp)
theorem zSD (ks:List Nat) (h:ks≠[]):cutA ((numL ks).map Dt.int) none (some (-1)) = (numL (ks.take (ks.length - 1))).map Dt.int:=by
  have hp:=List.length_pos_iff.mpr h
  unfold cutA cutIx
  simp [numL,List.map_take]
  congr 1
  omega
noncomputable def zWR (r:Ro):Nat:=match r[3]? with
  | some (some (Dt.lst ds,_))=>ds.length
  | _=>0
theorem zKS (c:Int) (n:Nat) (f:Nat→Nat→Int) (hn:n≤10) (hb:Bits n f):∃ ks,Rise n ks∧zDI [.int c,mat (tab n f)] = okR (rowD (numL ks)):=by
  suffices h:eiR (zGF [some (.int c,0),some (mat (tab n f),0),none,none]) (fun _=>False) (fun d=>∃ ks,Rise n ks∧d = rowD (numL ks)) by
    rcases h with ⟨_,_,z⟩ | ⟨d,h1,ks,h2,rfl⟩
    · exact z.elim
    · exact ⟨ks,h2,zD5 rfl h1⟩
  obtain ⟨bs,b1,b2⟩:=zMB (c / 8) n (by omega)
  have hd9:(rowD bs).dep≤9:=by unfold rowD; simp
  unfold zGF
  refine zBS (P:=fun r=>r = [some (.int c,0),some (mat (tab n f),0),some (rowD bs,9),none]) (zD2 ?_) ?_
  · simp [zC4,b2,hd9]
  rintro r rfl
  have hc:eComp (iR1 (aCons (eBi lenD (aCons (eV 1) aNil)) aNil)) 1 (.one 4) (tB (eB eqD (eB ixD (eV 2) (eV 4)) (eC (.int 1)))) (eV 4) [some (.int c),some (mat (tab n f)),some (rowD bs),none] = okR (rowD (numL ((List.range n).filter fun i=>decide (bs.getD i 0 = 1)))):=by
    rw [numD ((List.range n).filter _)]
    refine zBA (fun k:Nat=>Dt.int (k:Int)) (fun k:Nat=>Dt.int (k:Int)) (fun i=>decide (bs.getD i 0 = 1)) (List.range n) rfl (fun i hi=>?_) (fun i _ _=>by simp [-List.getD_eq_getElem?_getD]) _ (by rw [zDL (n:=n) (by simp [-List.getD_eq_getElem?_getD,zC4]) (by omega),zD7]) (by simp; omega)
    have hi':i < n:=by simpa using hi
    have i1:=zIF bs i (by omega)
    simp [-List.getD_eq_getElem?_getD,i1]
  have hr0:Rise n ((List.range n).filter fun i=>decide (bs.getD i 0 = 1)):=zHA n _
  generalize (List.range n).filter (fun i=>decide (bs.getD i 0 = 1)) = ks0 at hc hr0
  have hd1:∀ ks:List Nat,(rowD (numL ks)).dep≤1:=fun ks=>by unfold rowD; simp
  refine zBS (P:=fun r=>∃ ks l,Rise n ks∧r = [some (.int c,0),some (mat (tab n f),0),some (rowD bs,9),some (rowD (numL ks),l)]∧l = 1) (zD2 ?_) ?_
  · have:=hd1 ks0
    exact zB5 (r:=[some (.int c,0),some (mat (tab n f),0),some (rowD bs,9),some (rowD (numL ks0),1)]) (by simp [hc,this]) ⟨ks0,1,hr0,rfl,rfl⟩
  rintro r ⟨ks,l,hr,rfl,rfl⟩
  refine zBS (P:=fun r=>∃ ks l,Rise n ks∧r = [some (.int c,0),some (mat (tab n f),0),some (rowD bs,9),some (rowD (numL ks),l)]∧l = 1) (zD2 ?_) ?_
  · rw [zET]
    by_cases h8:0 < c % 8
    · rw [show tB (eB (cmpD fun i j=>decide (j < i)) (eB modD (eV 0) (eC (.int 8))) (eC (.int 0))) (full [some (.int c,0),some (mat (tab n f),0),some (rowD bs,9),some (rowD (numL ks),1)]) = okR true by simp [h8],zA0,if_pos rfl]
      refine zN1 (fun r=>∃ ks,Rise n ks∧r = [some (.int c,0),some (mat (tab n f),0),some (rowD bs,9),some (rowD (numL ks),1)]) (fun r=>zWR r) (fun r=>∃ ks l,Rise n ks∧r = [some (.int c,0),some (mat (tab n f),0),some (rowD bs,9),some (rowD (numL ks),l)]∧l = 1) ⟨ks,hr,rfl⟩ ?_ ?_ fun r h=>h
      · have:=hr.le
        show ((numL ks).map Dt.int).length < _
        simp [numL]
        omega
      · rintro r ⟨ks,hr,rfl⟩
        have hcan:=(zCU n f ks hn hb hr).1
        by_cases hF:Fe n f (·∈ks)
        · rw [pB_t hF] at hcan
          exact .inl ⟨by simp [hcan],ks,1,hr,rfl,rfl⟩
        · rw [pB_f hF] at hcan
          have hne:ks≠[]:=by rintro rfl; exact hF (fe_nil n f)
          have hcut:=zSD ks hne
          have hp:=List.length_pos_iff.mpr hne
          have hd:=hd1 (ks.take (ks.length - 1))
          refine .inr ⟨by simp [hcan],zB5 (r:=[some (.int c,0),some (mat (tab n f),0),some (rowD bs,9),some (rowD (numL (ks.take (ks.length - 1))),1)]) ?_ ⟨⟨_,zU4 hr _,rfl⟩,?_⟩⟩
          · have e:slD (rowD (numL ks)) none (some (-1)) = some (rowD (numL (ks.take (ks.length - 1)))):=by
              show some (Dt.lst (cutA _ _ _)) = _
              rw [hcut]
              rfl
            simp only [zFD,zF0,zFY,zXZ,zXY,x_oE,x_eU,x_eC,x_eV,List.getElem?_cons_succ,List.getElem?_cons_zero,Option.map_some,zA0,zY2,zAB,e]
            simp [hd]
          · show ((numL (ks.take (ks.length - 1))).map Dt.int).length < ((numL ks).map Dt.int).length
            simp [numL]
            omega
    · rw [show tB (eB (cmpD fun i j=>decide (j < i)) (eB modD (eV 0) (eC (.int 8))) (eC (.int 0))) (full [some (.int c,0),some (mat (tab n f),0),some (rowD bs,9),some (rowD (numL ks),1)]) = okR false by simp [h8],zA0,if_neg (by simp)]
      exact ⟨ks,1,hr,rfl,rfl⟩
  rintro r ⟨ks,l,hr,rfl,rfl⟩
  exact .inr ⟨rowD (numL ks),by simp,ks,hr,rfl⟩
theorem zKA:∀ {a b:List Int},a.Perm b→a.Pairwise (·≤·)→b.Pairwise (·≤·)→a = b
  | [],b,h,_,_=>by rw [List.nil_perm.mp h]
  | x :: a,[],h,_,_=>by have:=h.length_eq; simp at this
  | x :: a,y :: b,h,ha,hb=>by
    obtain ⟨a1,a2⟩:=List.pairwise_cons.mp ha
    obtain ⟨b1,b2⟩:=List.pairwise_cons.mp hb
    have hxy:x = y:=by
      have h1:x∈y :: b:=h.mem_iff.mp (by simp)
      have h2:y∈x :: a:=h.mem_iff.mpr (by simp)
      rcases List.mem_cons.mp h1 with z | z
      · exact z
      · rcases List.mem_cons.mp h2 with w | w
        · exact w.symm
        · have:=b1 x z; have:=a1 y w; omega
    subst hxy
    rw [zKA ((List.perm_cons x).mp h) a2 b2]
theorem zMO (n:Nat) (a b:List Nat) (hn:n≤10) (ha:Rise n a) (hb:Rise n b):zBL [rowD (numL a),rowD (numL b)] = okR (rowD (numL (sd n a b))):=by
  have c1:eComp (iSq (eV 0)) 1 (.one 2) (tB (eB (inD true) (eV 2) (eV 1))) (eV 2) [some (rowD (numL a)),some (rowD (numL b))] = okR (rowD (numL (a.filter fun i=>!decide (i∈b)))):=by
    rw [numD (a.filter _)]
    exact zBA (fun k:Nat=>Dt.int (k:Int)) (fun k:Nat=>Dt.int (k:Int)) (fun i=>!decide (i∈b)) a rfl (fun i hi=>by simp [-List.getD_eq_getElem?_getD,zEM]) (fun i _ _=>by simp [-List.getD_eq_getElem?_getD]) _ (by rw [numD a]; simp [-List.getD_eq_getElem?_getD]) (by have:=ha.le; omega)
  have c2:eComp (iSq (eV 1)) 1 (.one 2) (tB (eB (inD true) (eV 2) (eV 0))) (eV 2) [some (rowD (numL a)),some (rowD (numL b))] = okR (rowD (numL (b.filter fun i=>!decide (i∈a)))):=by
    rw [numD (b.filter _)]
    exact zBA (fun k:Nat=>Dt.int (k:Int)) (fun k:Nat=>Dt.int (k:Int)) (fun i=>!decide (i∈a)) b rfl (fun i hi=>by simp [-List.getD_eq_getElem?_getD,zEM]) (fun i _ _=>by simp [-List.getD_eq_getElem?_getD]) _ (by rw [numD b]; simp [-List.getD_eq_getElem?_getD]) (by have:=hb.le; omega)
  have l1:(a.filter fun i=>!decide (i∈b)).length≤10:=Nat.le_trans (List.length_filter_le _ _) (by have:=ha.le; omega)
  have l2:(b.filter fun i=>!decide (i∈a)).length≤10:=Nat.le_trans (List.length_filter_le _ _) (by have:=hb.le; omega)
  have hp:((a.filter fun i=>!decide (i∈b)) ++ (b.filter fun i=>!decide (i∈a))).Perm (sd n a b):=by
    refine (List.perm_ext_iff_of_nodup ?_ (zGQ (zDM n a b).up)).mpr fun x=>?_
    · rw [List.nodup_append]
      refine ⟨(zGQ ha.up).filter _,(zGQ hb.up).filter _,fun x hx y hy e=>?_⟩
      subst e
      rw [List.mem_filter] at hx hy
      have:=hx.2
      simp [hy.1] at this
    · rw [List.mem_append,List.mem_filter,List.mem_filter,sd_mem]
      have h1:=ha.lt x
      have h2:=hb.lt x
      by_cases z1:x∈a <;> by_cases z2:x∈b <;> simp [z1,z2]
      · exact h1 z1
      · exact h2 z2
  have hs:sortI (numL (a.filter fun i=>!decide (i∈b)) ++ numL (b.filter fun i=>!decide (i∈a))) = numL (sd n a b):=by
    refine zKA ((List.mergeSort_perm _ _).trans ?_) ?_ ?_
    · unfold numL
      rw [← List.map_append]
      exact hp.map _
    · have h:=List.pairwise_mergeSort (le:=fun a b:Int=>decide (a≤b)) (fun a b c h1 h2=>by simp at *; omega) (fun a b=>by simp; omega) (numL (a.filter fun i=>!decide (i∈b)) ++ numL (b.filter fun i=>!decide (i∈a)))
      exact h.imp fun h=>by simpa using h
    · unfold numL
      rw [List.pairwise_map]
      exact (zDM n a b).up.imp fun h=>by omega
  have hi:∀ ns:List Int,intsD (ns.map Dt.int) = some ns:=fun ns=>by
    induction ns with
    | nil=>rfl
    | cons x t ih=>simp [intsD,ih]
  generalize a.filter (fun i=>!decide (i∈b)) = p at *
  generalize b.filter (fun i=>!decide (i∈a)) = q at *
  have hsd:sortD [rowD (numL p ++ numL q)] = some (rowD (numL (sd n a b))):=by
    unfold sortD rowD
    dsimp only
    rw [hi]
    dsimp only
    rw [if_pos (by simp [numL]; omega),hs]
  have had:addD (rowD (numL p)) (rowD (numL q)) = some (rowD (numL p ++ numL q)):=by
    unfold rowD
    rw [zSP,if_pos (by simp [numL]; omega),List.map_append]
  have hd:(rowD (numL (sd n a b))).dep≤1:=by unfold rowD; simp
  unfold zBL zEZ
  simp [-List.getD_eq_getElem?_getD,-zSP,startO,c1,c2,had,hsd,hd]
theorem zTN (n u v:Nat) (hu:u < n) (hv:v < n):∃ ks,Rise n ks∧(∀ i,i∈ks ↔ i = u∨i = v)∧soiD [.lst [.int (u:Int),.int (v:Int)]] = some (rowD (numL ks)):=by
  have hm:∀ x,x∈soiL [(u:Int),(v:Int)] ↔ x = (u:Int)∨x = (v:Int):=fun x=>by rw [zR1]; simp
  have hn:numL ((soiL [(u:Int),(v:Int)]).map Int.toNat) = soiL [(u:Int),(v:Int)]:=by
    unfold numL
    rw [List.map_map]
    refine (List.map_congr_left fun x hx=>?_).trans (List.map_id _)
    rcases (hm x).mp hx with rfl | rfl <;> simp
  refine ⟨(soiL [(u:Int),(v:Int)]).map Int.toNat,zP2 ?_ ?_,fun i=>?_,?_⟩
  · rw [List.pairwise_map]
    refine List.Pairwise.imp_of_mem (fun {x y} hx hy h=>?_) (zTP [(u:Int),(v:Int)])
    have h1:=(hm x).mp hx
    have h2:=(hm y).mp hy
    omega
  · intro k hk
    obtain ⟨x,hx,rfl⟩:=List.mem_map.mp hk
    have:=(hm x).mp hx
    omega
  · rw [List.mem_map]
    constructor
    · rintro ⟨x,hx,rfl⟩
      have:=(hm x).mp hx
      omega
    · rintro (rfl | rfl)
      · exact ⟨_,(hm _).mpr (.inl rfl),by simp⟩
      · exact ⟨_,(hm _).mpr (.inr rfl),by simp⟩
  · rw [hn]
    unfold soiD
    simp [intsD]
    rfl
theorem zRQ (ns:List Int) (hl:ns.length≤63) (hw:∀ i∈ns,i.natAbs.log2 < 2 ^ 20):zHJ [.scr ns] = okR (.bl true):=by
  obtain ⟨N0,h0⟩:=zGT ns 0 (by decide)
  obtain ⟨N1,h1⟩:=zGT ns 1 (by decide)
  obtain ⟨N2,h2⟩:=zGT ns 2 (by decide)
  obtain ⟨N3,h3⟩:=zGT ns 3 (by decide)
  replace h0:zAY [.scr ns,.int 0] = okR (.int N0):=h0
  replace h1:zAY [.scr ns,.int 1] = okR (.int N1):=h1
  replace h2:zAY [.scr ns,.int 2] = okR (.int N2):=h2
  replace h3:zAY [.scr ns,.int 3] = okR (.int N3):=h3
  obtain ⟨n0,f0,hn0,hb0,hs0,ha0⟩:=zOE N0
  have hd0:¬ (mat (tab n0 f0)).dep≤0:=by unfold mat; simp
  have hd1:∀ ks:List Nat,(rowD (numL ks)).dep≤1:=fun ks=>by unfold rowD; simp
  have hlm:∀ n f,lenD [mat (tab n f)] = some (.int (n:Int)):=fun n f=>by unfold mat; simp [zC4]
  have hlk:∀ ks:List Nat,lenD [rowD (numL ks)] = some (.int (ks.length:Int)):=fun ks=>by unfold rowD; simp [numL]
  unfold zHJ
  refine zD5 rfl ?_
  show zI3 [some (.scr ns,0),none,none,none,none,none,none,none,none,none] = _
  unfold zI3
  refine sgf (d:=mat (tab n0 f0)) (c2 (c2 rfl rfl h0) rfl ha0) hd0 (c2 (c2 rfl rfl h0) rfl ha0) ?_
  show sSeq _ _ [some (.scr ns,0),some (mat (tab n0 f0),0),none,none,none,none,none,none,none,none] = _
  refine zBR fun bb hbb=>?_
  suffices key:∀ n f l1,1≤n→n≤10→Bits n f→Sym n f→bb [some (.scr ns,0),some (mat (tab n f),l1),none,none,none,none,none,none,none,none] = okR (.rt (.bl true)) by
    have hq:tB (eB eqD (eBi lenD (aCons (eV 1) aNil)) (eC (.int 0))) (full [some (.scr ns,0),some (mat (tab n0 f0),0),none,none,none,none,none,none,none,none]) = okR (decide (n0 = 0)):=by
      refine tb1 (b2 (bi1 rfl (hlm n0 f0)) rfl ?_)
      simp
    rw [zET,hq,zA0]
    by_cases hz:n0 = 0
    · rw [if_pos (decide_eq_true hz)]
      exact zB5 (r:=[some (.scr ns,0),some (mat (tab 1 fun _ _=>1),2),none,none,none,none,none,none,none,none]) (by
        rw [zFD,show eLst (aCons (eLst (aCons (eC (.int 1)) aNil)) aNil) (full [some (.scr ns,0),some (mat (tab n0 f0),0),none,none,none,none,none,none,none,none]) = okR (mat (tab 1 fun _ _=>1)) from el1 (el1 rfl),zA0,if_pos (zDT _)]
        rfl) (key 1 (fun _ _=>1) 2 (by decide) (by decide) (fun _ _ _ _=>.inr rfl) (fun _ _ _ _=>rfl))
    · rw [if_neg (by simp [hz])]
      exact zB5 rfl (key n0 f0 0 (Nat.pos_of_ne_zero hz) hn0 hb0 hs0)
  subst hbb
  intro n f l1 hn1 hn hb hs
  obtain ⟨a,ra,ha⟩:=zKS N1 n f hn hb
  obtain ⟨b,rb,hb'⟩:=zKS N2 n f hn hb
  have ht:=zMO n a b hn ra rb
  have hda:=hd1 a
  have hdb:=hd1 b
  have hdt:=hd1 (sd n a b)
  refine sg (d:=rowD (numL a)) (c2 (c2 rfl rfl h1) rfl ha) hda (sg (d:=rowD (numL b)) (c2 (c2 rfl rfl h2) rfl hb') hdb (sg (d:=rowD (numL (sd n a b))) (c2 rfl rfl ht) hdt (sg (d:=.int N3) (c2 rfl rfl h3) (Nat.zero_le _) ?_)))
  show sSeq _ _ [some (.scr ns,0),some (mat (tab n f),l1),some (rowD (numL a),1),some (rowD (numL b),1),some (rowD (numL (sd n a b)),1),some (.int N3,1),none,none,none,none] = _
  have hpos:(0:Int) < (n:Int):=Int.natCast_pos.mpr hn1
  obtain ⟨u0,hu0⟩:∃ u:Nat,N3 / 8 % (n:Int) = (u:Int):=⟨(N3 / 8 % (n:Int)).toNat,(Int.toNat_of_nonneg (Int.emod_nonneg _ (Int.ne_of_gt hpos))).symm⟩
  have hun0:u0 < n:=by have:=Int.emod_lt_of_pos (N3 / 8) hpos; omega
  have dv:divD (.int N3) (.int 8) = some (.int (N3 / 8)):=by simp
  have md:modD (.int (N3 / 8)) (.int (n:Int)) = some (.int (u0:Int)):=by rw [zHH _ hn1,hu0]
  refine sg (d:=.int (u0:Int)) (b2 (b2 rfl rfl dv) (bi1 rfl (hlm n f)) md) (Nat.zero_le _) ?_
  show sSeq _ _ [some (.scr ns,0),some (mat (tab n f),l1),some (rowD (numL a),1),some (rowD (numL b),1),some (rowD (numL (sd n a b)),1),some (.int N3,1),some (.int (u0:Int),0),none,none,none] = _
  refine zBR fun bb hbb=>?_
  suffices key:∀ u:Nat,u < n→bb [some (.scr ns,0),some (mat (tab n f),l1),some (rowD (numL a),1),some (rowD (numL b),1),some (rowD (numL (sd n a b)),1),some (.int N3,1),some (.int (u:Int),0),none,none,none] = okR (.rt (.bl true)) by
    have md8:modD (.int N3) (.int 8) = some (.int (N3 % 8)):=by simp
    have t1:tB (eB (cmpD fun i j=>decide (j < i)) (eBi lenD (aCons (eV 4) aNil)) (eC (.int 0))) (full [some (.scr ns,0),some (mat (tab n f),l1),some (rowD (numL a),1),some (rowD (numL b),1),some (rowD (numL (sd n a b)),1),some (.int N3,1),some (.int (u0:Int),0),none,none,none]) = okR (decide (0 < ((sd n a b).length:Int))):=tb1 (b2 (bi1 rfl (hlk _)) rfl rfl)
    have t2:tB (eB (cmpD fun i j=>decide (j < i)) (eB modD (eV 5) (eC (.int 8))) (eC (.int 0))) (full [some (.scr ns,0),some (mat (tab n f),l1),some (rowD (numL a),1),some (rowD (numL b),1),some (rowD (numL (sd n a b)),1),some (.int N3,1),some (.int (u0:Int),0),none,none,none]) = okR (decide (0 < N3 % 8)):=tb1 (b2 (b2 rfl rfl md8) rfl rfl)
    rw [zET]
    by_cases z1:0 < ((sd n a b).length:Int)
    · rw [decide_eq_true z1] at t1
      by_cases z2:0 < N3 % 8
      · rw [decide_eq_true z2] at t2
        obtain ⟨j,hj⟩:∃ j:Nat,N3 / 8 % ((sd n a b).length:Int) = (j:Int):=⟨(N3 / 8 % ((sd n a b).length:Int)).toNat,(Int.toNat_of_nonneg (Int.emod_nonneg _ (Int.ne_of_gt z1))).symm⟩
        have hjn:j < (sd n a b).length:=by have:=Int.emod_lt_of_pos (N3 / 8) z1; omega
        have i1:=zIF (numL (sd n a b)) j (by unfold numL; rw [List.length_map]; exact hjn)
        have g:(numL (sd n a b)).getD j 0 = (((sd n a b).getD j 0:Nat):Int):=by unfold numL; rw [zEP (d:=0) hjn]
        rw [g] at i1
        have m2:modD (.int (N3 / 8)) (.int ((sd n a b).length:Int)) = some (.int (j:Int)):=by rw [zHH _ (Int.natCast_pos.mp z1),hj]
        rw [ta1 t1 t2,zA0,if_pos rfl]
        refine zB5 (r:=[some (.scr ns,0),some (mat (tab n f),l1),some (rowD (numL a),1),some (rowD (numL b),1),some (rowD (numL (sd n a b)),1),some (.int N3,1),some (.int ((sd n a b).getD j 0:Nat),0),none,none,none]) ?_ (key _ ((zDM n a b).lt _ (zAM hjn)))
        rw [zFD,b2 rfl (b2 (b2 rfl rfl dv) (bi1 rfl (hlk _)) m2) i1,zA0,if_pos (show (Dt.int _).dep≤0 from Nat.le_refl 0)]
        rfl
      · rw [decide_eq_false z2] at t2
        rw [ta1 t1 t2,zA0,if_neg (by simp)]
        exact zB5 rfl (key u0 hun0)
    · rw [decide_eq_false z1] at t1
      rw [ta0 t1,zA0,if_neg (by simp)]
      exact zB5 rfl (key u0 hun0)
  subst hbb
  intro u hu
  have hcp:=zSE (tab n f) (by rw [zC4]; omega)
  have e2:Dt.lst [rowD (numL a),rowD (numL b)] = mat [numL a,numL b]:=rfl
  have hdm:=zDT [numL a,numL b]
  have ca:=(zCU n f a hn hb ra).1
  have cb:=(zCU n f b hn hb rb).1
  have cu:=zEM u (sd n a b)
  have i0:ixD (Dt.lst [rowD (numL a),rowD (numL b)]) (.int 0) = some (rowD (numL a)):=zEE (j:=0) rfl rfl
  have i1:ixD (Dt.lst [rowD (numL a),rowD (numL b)]) (.int 1) = some (rowD (numL b)):=zEE (j:=1) rfl rfl
  have hne:neD (Dt.lst [rowD (numL a),rowD (numL b)]) (Dt.lst [rowD (numL a),rowD (numL b)]) = some (.bl false):=by
    rw [e2]
    have heq:=zXD [numL a,numL b] [numL a,numL b]
    have hdl:(mat [numL a,numL b]).dep≤40:=by omega
    generalize mat [numL a,numL b] = H at *
    simp [hdl,heq]
  have hla:listD [rowD (numL a)] = some (rowD (numL a)):=rfl
  have hlb:listD [rowD (numL b)] = some (rowD (numL b)):=rfl
  refine sg (d:=.lst [rowD (numL a),rowD (numL b)]) (by simp [hla,hlb]) (by rw [e2]; exact hdm) ?_
  show sSeq _ _ [some (.scr ns,0),some (mat (tab n f),l1),some (rowD (numL a),1),some (rowD (numL b),1),some (rowD (numL (sd n a b)),1),some (.int N3,1),some (.int (u:Int),0),some (.lst [rowD (numL a),rowD (numL b)],2),none,none] = _
  have run:∀ x y:Dt,zAZ [mat (tab n f),rowD (numL a),rowD (numL b),.int (u:Int)] = okR (.tup [x,y])→∀ t:SM,t [some (.scr ns,0),some (mat (tab n f),0),some (rowD (numL a),1),some (rowD (numL b),1),some (rowD (numL (sd n a b)),1),some (.int N3,1),some (.int (u:Int),0),some (.lst [rowD (numL a),rowD (numL b)],0),some (x,0),some (y,0)] = okR (.rt (.bl true))→sSeq (sUnp [8,9] [6,1,7] (eCall zAZ (aCons (eCall zCC (aCons (eV 1) aNil)) (aCons (eB ixD (eV 7) (eC (.int 0))) (aCons (eB ixD (eV 7) (eC (.int 1))) (aCons (eV 6) aNil)))))) (sSeq (sIf (tB (eB neD (eV 7) (eLst (aCons (eV 2) (aCons (eV 3) aNil))))) (sRet 0 0 [] (eC (.bl false))) sNil) t) [some (.scr ns,0),some (mat (tab n f),l1),some (rowD (numL a),1),some (rowD (numL b),1),some (rowD (numL (sd n a b)),1),some (.int N3,1),some (.int (u:Int),0),some (.lst [rowD (numL a),rowD (numL b)],2),none,none] = okR (.rt (.bl true)):=fun x y hq t h =>
    su (ds:=[x,y]) (c4 (c1 rfl hcp) (b2 rfl rfl i0) (b2 rfl rfl i1) rfl hq) rfl (sp (tb1 (b2 (d2:=.lst [rowD (numL a),rowD (numL b)]) rfl (el2 rfl rfl) hne)) h)
  by_cases good:Fe n f (·∈a)∧Fe n f (·∈b)∧u∈sd n a b
  · obtain ⟨g1,g2,g3⟩:=good
    obtain ⟨v,v1,v2,v3⟩:=zPI n f a b u hn hb hs ra rb g1 g2 g3
    have hq:=zQK _ _ _ _ _ v3
    rw [pB_t g1] at ca
    rw [pB_t g2] at cb
    have cv:=zEM v (sd n a b)
    have hvn:=(zDM n a b).lt v v1
    obtain ⟨ks,k1,k2,k3⟩:=zTN n u v hu hvn
    have ht2:=zMO n a ks hn ra k1
    have e3:sd n a ks = sd n a [u,v]:=by
      refine zLQ (zDM _ _ _).up (zDM _ _ _).up fun x=>?_
      rw [sd_mem,sd_mem,k2]
      simp
    have cf:=(zCU n f (sd n a [u,v]) hn hb (zDM _ _ _)).1
    rw [pB_t v2] at cf
    rw [e3] at ht2
    have hwv:=zGK (v:Int)
    rw [show (!decide (u∈sd n a b)) = false by simp [g3]] at cu
    rw [show (!decide (v∈sd n a b)) = false by simp [v1]] at cv
    refine run _ _ hq _ (sp (to0 (tn1 (tm1 (c2 rfl rfl ca))) (to0 (tn1 (tm1 (c2 rfl rfl cb))) (tb1 (b2 rfl rfl cu)))) (sp (to0 (tb1 (k:=false) (b2 (d1:=.lst []) (d2:=.lst []) rfl (by simp) (by simp [Dt.eqL]))) (to0 (tn1 (tm1 (c1 rfl hwv))) (tb1 (b2 rfl rfl cv)))) ?_))
    simp [k3,ht2,cf]
  · have hq:=zSL _ _ _ _ (zRJ n f a b u hn hb ra rb good)
    have fin:∀ t:SM,Mi.tOr (tNo (tM (eCall zB7 (aCons (eV 1) (aCons (eV 2) aNil))))) (Mi.tOr (tNo (tM (eCall zB7 (aCons (eV 1) (aCons (eV 3) aNil))))) (tB (eB (inD true) (eV 6) (eV 4)))) (full [some (.scr ns,0),some (mat (tab n f),0),some (rowD (numL a),1),some (rowD (numL b),1),some (rowD (numL (sd n a b)),1),some (.int N3,1),some (.int (u:Int),0),some (.lst [rowD (numL a),rowD (numL b)],0),some (.non,0),some (.lst [.bl true,.bl true,.bl false,.bl false],0)]) = okR true→sSeq (sIf (Mi.tOr (tNo (tM (eCall zB7 (aCons (eV 1) (aCons (eV 2) aNil))))) (Mi.tOr (tNo (tM (eCall zB7 (aCons (eV 1) (aCons (eV 3) aNil))))) (tB (eB (inD true) (eV 6) (eV 4))))) (sRet 0 0 [9] (eB eqD (eV 9) (eLst (aCons (eC (.bl true)) (aCons (eC (.bl true)) (aCons (eC (.bl false)) (aCons (eC (.bl false)) aNil))))))) sNil) t [some (.scr ns,0),some (mat (tab n f),0),some (rowD (numL a),1),some (rowD (numL b),1),some (rowD (numL (sd n a b)),1),some (.int N3,1),some (.int (u:Int),0),some (.lst [rowD (numL a),rowD (numL b)],0),some (.non,0),some (.lst [.bl true,.bl true,.bl false,.bl false],0)] = okR (.rt (.bl true)):=fun t h=>by
      rw [zIH,zET,h,zA0,if_pos rfl,zSO,b2 (d1:=.lst [.bl true,.bl true,.bl false,.bl false]) (d2:=.lst [.bl true,.bl true,.bl false,.bl false]) (d:=.bl true) rfl (by simp) (by simp [Dt.eqL]),zA0,if_pos ⟨Nat.le_refl _,Nat.le_refl _⟩,zA0]
    refine run _ _ hq _ (fin _ ?_)
    by_cases g1:Fe n f (·∈a)
    · rw [pB_t g1] at ca
      by_cases g2:Fe n f (·∈b)
      · have g3:u ∉ sd n a b:=fun z=>good ⟨g1,g2,z⟩
        rw [pB_t g2] at cb
        rw [show (!decide (u∈sd n a b)) = true by simp [g3]] at cu
        exact to0 (tn1 (tm1 (c2 rfl rfl ca))) (to0 (tn1 (tm1 (c2 rfl rfl cb))) (tb1 (b2 rfl rfl cu)))
      · rw [pB_f g2] at cb
        exact to0 (tn1 (tm1 (c2 rfl rfl ca))) (to1 (tn1 (tm1 (c2 rfl rfl cb))))
    · rw [pB_f g1] at ca
      exact to1 (tn1 (tm1 (c2 rfl rfl ca)))
end Mp

set_option maxHeartbeats 4000000
namespace Q69
open PySem PyProof.Rows
open L2 hiding Rep RepL
open L3
open Mp
noncomputable def top (i:Nat):Stmt:=PySem.Challenge.pw_fourway_k69_whole_numbers_exchanged.main.body.getD i (.Pass ⟨0,0,0,0⟩)
abbrev zEA:Stmt:=top 24
theorem zLJ:FnScope ["_law_one","_law_other"] ["_law_one","_law_other"] (zAC zEA):=⟨rfl,rfl,rfl,by decide +kernel,rfl,by decide +kernel,by decide +kernel⟩
abbrev zCW:Stmt:=top 25
theorem S__law_mixed_up:FnScope ["_law_table","_law_cell","_law_size","_law_i","_law_j","_law_row"] ["_law_table","_law_cell"] (zAC zCW):=⟨rfl,rfl,rfl,by decide +kernel,rfl,by decide +kernel,by decide +kernel⟩
abbrev zE8:Stmt:=top 26
theorem S__law_built:FnScope ["_law_rest","_law_size","_law_table","_law_place","_law_kind","_law_k"] ["_law_rest","_law_size"] (zAC zE8):=⟨rfl,rfl,rfl,by decide +kernel,rfl,by decide +kernel,by decide +kernel⟩
abbrev zG4:Stmt:=top 27
theorem S__law_any:FnScope ["_law_number_here","_law_most","_law_size","_law_rest","_law_kind","_law_k","_law_table","_law_i","_law_j"] ["_law_number_here","_law_most"] (zAC zG4):=⟨rfl,rfl,rfl,by decide +kernel,rfl,by decide +kernel,by decide +kernel⟩
abbrev zG0:Stmt:=top 6
theorem zOG:FnScope ["thing"] ["thing"] (zAC zG0):=⟨rfl,rfl,rfl,by decide +kernel,rfl,by decide +kernel,by decide +kernel⟩
abbrev zF3:Stmt:=top 15
theorem zMJ:FnScope ["numbers"] ["numbers"] (zAC zF3):=⟨rfl,rfl,rfl,by decide +kernel,rfl,by decide +kernel,by decide +kernel⟩
abbrev zJ9:Stmt:=top 12
theorem zSN:FnScope ["table","numbers"] ["table","numbers"] (zAC zJ9):=⟨rfl,rfl,rfl,by decide +kernel,rfl,by decide +kernel,by decide +kernel⟩
abbrev zH7:Stmt:=top 8
theorem zQM:FnScope ["table","numbers"] ["table","numbers"] (zAC zH7):=⟨rfl,rfl,rfl,by decide +kernel,rfl,by decide +kernel,by decide +kernel⟩
abbrev zLP:Stmt:=top 9
theorem zVA:FnScope ["one","other"] ["one","other"] (zAC zLP):=⟨rfl,rfl,rfl,by decide +kernel,rfl,by decide +kernel,by decide +kernel⟩
abbrev zH8:Stmt:=top 13
theorem S_cleared:FnScope ["rows","column","at","lead","others"] ["rows","column","at"] (zAC zH8):=⟨rfl,rfl,rfl,by decide +kernel,rfl,by decide +kernel,by decide +kernel⟩
abbrev zFZ:Stmt:=top 14
theorem zOF:FnScope ["size","number"] ["size","number"] (zAC zFZ):=⟨rfl,rfl,rfl,by decide +kernel,rfl,by decide +kernel,by decide +kernel⟩
abbrev zH6:Stmt:=top 11
theorem S_undoing:FnScope ["table","size","rows","column","leads"] ["table"] (zAC zH6):=⟨rfl,rfl,rfl,by decide +kernel,rfl,by decide +kernel,by decide +kernel⟩
abbrev zG1:Stmt:=top 17
theorem zOH:FnScope ["table","numbers"] ["table","numbers"] (zAC zG1):=⟨rfl,rfl,rfl,by decide +kernel,rfl,by decide +kernel,by decide +kernel⟩
abbrev zE5:Stmt:=top 19
theorem zLH:FnScope ["table","one","other"] ["table","one","other"] (zAC zE5):=⟨rfl,rfl,rfl,by decide +kernel,rfl,by decide +kernel,by decide +kernel⟩
abbrev zDB:Stmt:=top 18
theorem S_other_number:FnScope ["table","one","other","number","unlike","fitting"] ["table","one","other","number"] (zAC zDB):=⟨rfl,rfl,rfl,by decide +kernel,rfl,by decide +kernel,by decide +kernel⟩
abbrev zE9:Stmt:=top 35
theorem S__law_asked:FnScope ["_law_table","_law_one","_law_other","_law_number_here","_law_kinds","_law_found","e"] ["_law_table","_law_one","_law_other","_law_number_here"] (zAC zE9):=⟨rfl,rfl,rfl,by decide +kernel,rfl,by decide +kernel,by decide +kernel⟩
abbrev zF5:Stmt:=top 29
theorem zMK:FnScope ["_law_table","_law_numbers"] ["_law_table","_law_numbers"] (zAC zF5):=⟨rfl,rfl,rfl,by decide +kernel,rfl,by decide +kernel,by decide +kernel⟩
abbrev zF4:Stmt:=top 30
theorem S__law_rank:FnScope ["_law_table","_law_rows","_law_many","_law_place","_law_some","_law_rest"] ["_law_table"] (zAC zF4):=⟨rfl,rfl,rfl,by decide +kernel,rfl,by decide +kernel,by decide +kernel⟩
abbrev zG3:Stmt:=top 32
theorem zOI:FnScope ["_law_table","_law_some"] ["_law_table","_law_some"] (zAC zG3):=⟨rfl,rfl,rfl,by decide +kernel,rfl,by decide +kernel,by decide +kernel⟩
abbrev zF6:Stmt:=top 28
theorem zML:FnScope ["_law_table"] ["_law_table"] (zAC zF6):=⟨rfl,rfl,rfl,by decide +kernel,rfl,by decide +kernel,by decide +kernel⟩
abbrev zE7:Stmt:=top 22
theorem S__law_mixed:FnScope ["_law_script","_law_k","_law_cell","_law_mixed_here"] ["_law_script","_law_k"] (zAC zE7):=⟨rfl,rfl,rfl,by decide +kernel,rfl,by decide +kernel,by decide +kernel⟩
abbrev zDN:Stmt:=top 23
theorem S__law_number:FnScope ["_law_script","_law_k","_law_number_here","_law_turn"] ["_law_script","_law_k"] (zAC zDN):=⟨rfl,rfl,rfl,by decide +kernel,rfl,by decide +kernel,by decide +kernel⟩
abbrev zDO:Stmt:=top 33
theorem S__law_digits:FnScope ["_law_rest","_law_base","_law_many","_law_row","_law_k"] ["_law_rest","_law_base","_law_many"] (zAC zDO):=⟨rfl,rfl,rfl,by decide +kernel,rfl,by decide +kernel,by decide +kernel⟩
abbrev zG2:Stmt:=top 34
theorem S__law_set:FnScope ["_law_rest","_law_table","_law_bits","_law_some"] ["_law_rest","_law_table"] (zAC zG2):=⟨rfl,rfl,rfl,by decide +kernel,rfl,by decide +kernel,by decide +kernel⟩
abbrev zDC:Stmt:=top 31
theorem zIG:FnScope ["_law_some","_law_numbers"] ["_law_some","_law_numbers"] (zAC zDC):=⟨rfl,rfl,rfl,by decide +kernel,rfl,by decide +kernel,by decide +kernel⟩
abbrev zE6:Stmt:=top 21
theorem zLI:FnScope ["_law_found"] ["_law_found"] (zAC zE6):=⟨rfl,rfl,rfl,by decide +kernel,rfl,by decide +kernel,by decide +kernel⟩
abbrev zJ8:Stmt:=top 36
theorem S_law:FnScope ["_law_script","_law_table","_law_one","_law_other","_law_apart","_law_rest","_law_number_here","_law_handed","_law_found","_law_kinds"] ["_law_script"] (zAC zJ8):=⟨rfl,rfl,rfl,by decide +kernel,rfl,by decide +kernel,by decide +kernel⟩
section
variable {P:Program} {w:World} {K:PySem.W.Frag} {mg:Str→Option Value} {base:Heap}
theorem zJI (D:Def K mg "_law_added" zEA) (b_zip:mg "zip" = none):Has P w K mg base "_law_added" 1 ["_law_one","_law_other"] (sp0 K mg 1 zAN):=by
  letI:Kc:=⟨K⟩
  refine D.ok zLJ (fun _ _ _ _ _ _=>uw2 fun _ _=>rfl) (fun vs H Q E h=>zB2 h) (fun f cdv A outer s H vs Q E hr h=>?_)
  have hu:=hr.units
  exact ⟨_,(zAD (zB4 (zB8 rfl (cn ["0","1","_law_a","_law_b"] 2 (by kernel_rfl)) (zWB (K:=K) rfl b_zip (zA1 (pn 0) (zA1 (pn 1) zA5))) (fun _ _ _ _=>zLW (K:=K) rfl (zEL (zAH (i:=2) (by show List.Nodup (["0","1","_law_a","_law_b"]:List Str); decide +kernel) rfl oi) (zEL (zAH (i:=3) (by show List.Nodup (["0","1","_law_a","_law_b"]:List Str); decide +kernel) rfl oi) zLV))) (fun _ _ _ _=>zBD) (fun _ _ _ _=>(zAK zCG (zAK zDE (pn 2) (pn 3)) zA7))))),
    (zBF (N:=["_law_one","_law_other"]) (zBJ (n:=1) [0,1] (zAT (n:=0) (zXJ (zA2 (de_v 0) (zA2 (de_v 1) zA6))) (zOP (zEJ 2 (zEJ 3 zLL)) rfl) zC0 (zA9 zBH (zA9 zC2 (de_v 2) (de_v 3)) (dz zA8)))) h)⟩
theorem zGP (D:Def K mg "_law_mixed_up" zCW) (h__law_added:Has P w K mg base "_law_added" 1 ["_law_one","_law_other"] (sp0 K mg 1 zAN)) (b_enumerate:mg "enumerate" = none) (b_len:mg "len" = none) (b_list:mg "list" = none):Has P w K mg base "_law_mixed_up" 2 ["_law_table","_law_cell"] (sp0 K mg 0 zBG):=by
  letI:Kc:=⟨K⟩
  refine D.ok S__law_mixed_up (fun _ _ _ _ _ _=>uw2 fun _ _=>rfl) (fun vs H Q E h=>zB2 h) (fun f cdv A outer s H vs Q E hr h=>?_)
  have hu:=hr.units
  exact ⟨_,(zA4 (zAL (i:=2) S__law_mixed_up.nd rfl oi (zAJ (zC7 (K:=K)) rfl b_len boot_len (zA1 (pn 0) zA5)))
      (zA4 (zAL (i:=3) S__law_mixed_up.nd rfl oi (zAK zCG (pn 1) (pn 2)))
      (zA4 (zAL (i:=4) S__law_mixed_up.nd rfl oi (zAK zCG (zAK zDE (zAK zDE (pn 3) zA7) (zAK zCG (zAK zD4 (pn 1) (pn 2)) (zAK zQT (pn 2) zA7))) (pn 2)))
      (zA4 (zAL (i:=0) S__law_mixed_up.nd rfl oi (zB8 rfl (cn ["_law_table","1","2","_law_i","_law_j","5","_law_k","_law_row"] 2 (by kernel_rfl)) (zRF (K:=K) rfl b_enumerate (zA1 (pn 0) zA5)) (fun _ _ _ _=>zLW (K:=K) rfl (zEL (zAH (i:=6) (by show List.Nodup (["_law_table","1","2","_law_i","_law_j","5","_law_k","_law_row"]:List Str); decide +kernel) rfl oi) (zEL (zAH (i:=7) (by show List.Nodup (["_law_table","1","2","_law_i","_law_j","5","_law_k","_law_row"]:List Str); decide +kernel) rfl oi) zLV))) (fun _ _ _ _=>zBD) (fun _ _ _ _=>(zGS (zBY (u_eq hu) (pn 6) (pn 4) (zB9 _)) (zBP h__law_added (by decide) hr rfl (zA1 (pn 7) (zA1 (zBO (zBM (K:=K)) (pn 0) (pn 3) (fun _ _=>rfl)) zA5))) (zCI (zG9 (K:=K) rfl) rfl b_list boot_list (zA1 (pn 7) zA5))))))
      (zA4 (zDQ PassesOwn.never rfl (zCM (K:=K) (pn 0)) (zAH (i:=5) S__law_mixed_up.nd rfl oi) (zAD (zEV (zAK zCG (zAK zDE (zBO (zBM (K:=K)) (pn 5) (pn 4) (fun _ _=>rfl)) (zBO (zBM (K:=K)) (pn 5) (pn 3) (fun _ _=>rfl))) zA7) (zFH (pn 5) (pn 4) zJ2))))
      (zAD (zB4 (pn 0)))))))),
    (zBF (N:=["_law_table","_law_cell","_law_size","_law_i","_law_j","_law_row"]) (zAF (zAI (n:=0) [0] (zCK zC8 (zA2 (de_v 0) zA6)))
      (zAF (zAI (n:=0) [1,2] (zA9 zBH (de_v 1) (de_v 2)))
      (zAF (zAI (n:=0) [2,3,1] (zA9 zBH (zA9 zC2 (zA9 zC2 (de_v 3) (dz zA8)) (dz (zA9 zBH (dz (zA9 zD6 (de_v 1) (de_v 2))) (dz (zA9 zMU (de_v 2) (dz zA8)))))) (de_v 2)))
      (zAF (zAI (n:=2) [4,5,0,3] (zAT (n:=1) (zYR (zA2 (de_v 0) zA6)) (zOP (zEJ 6 (zEJ 7 zLL)) rfl) zC0 (zNB (dt_b (dz (zA9 zF7 (de_v 6) (de_v 4)))) (zAQ (zA2 (de_v 7) (zA2 (zA9 zC1 (de_v 0) (de_v 3)) zA6))) (zCK zI0 (zA2 (de_v 7) zA6)))))
      (zAF (zQ5 0 5 (de_v 4) (dz (zA9 zBH (zA9 zC2 (zA9 zC1 (de_v 5) (de_v 4)) (zA9 zC1 (de_v 5) (de_v 3))) (dz zA8))))
      (zFA 0)))))) h)⟩
theorem zJG (D:Def K mg "_law_built" zE8) (h__law_mixed_up:Has P w K mg base "_law_mixed_up" 2 ["_law_table","_law_cell"] (sp0 K mg 0 zBG)) (b_range:mg "range" = none):Has P w K mg base "_law_built" 3 ["_law_rest","_law_size"] (sp0 K mg 0 zC6):=by
  letI:Kc:=⟨K⟩
  refine D.ok S__law_built (fun _ _ _ _ _ _=>uw2 fun _ _=>rfl) (fun vs H Q E h=>zB2 h) (fun f cdv A outer s H vs Q E hr h=>?_)
  have hu:=hr.units
  exact ⟨_,(zA4 (zC9 (i:=2) S__law_built.nd rfl oi rfl (cn ["0","_law_size","2","3","4","5","_law_i"] 1 (by kernel_rfl)) (zAX rfl b_range (zA1 (pn 1) zA5)) (fun _ _ _ _=>(zAH (i:=6) (by show List.Nodup (["0","_law_size","2","3","4","5","_law_i"]:List Str); decide +kernel) rfl oi)) (fun _ _ _ _=>zBD) (fun _ _ _ _=>(zB8 rfl (cn ["0","1","2","3","4","5","6","_law_j"] 1 (by kernel_rfl)) (zAX rfl b_range (zA1 (pn 1) zA5)) (fun _ _ _ _=>(zAH (i:=7) (by show List.Nodup (["0","1","2","3","4","5","6","_law_j"]:List Str); decide +kernel) rfl oi)) (fun _ _ _ _=>zBD) (fun _ _ _ _=>zA7))))
      (zA4 (zAL (i:=3) S__law_built.nd rfl oi zA7)
      (zA4 (zMY PassesOwn.never (zBY u_lt (pn 3) (pn 1) (zB9 _)) (zA4 (zAL (i:=4) S__law_built.nd rfl oi (zAK zCG (pn 0) zA7))
      (zA4 (zAL (i:=0) S__law_built.nd rfl oi (zAK zD4 (pn 0) zA7))
      (zA4 (zDZ (pt_w (zP7 (zBY u_gt (pn 4) zA7 (zB9 _)) (zLS (zBY u_lt (zAK zDE (pn 3) zA7) (pn 1) (zB9 _))))) (zA4 (zEV zA7 (zFH (zBO (zBM (K:=K)) (pn 2) (pn 3) (fun _ _=>rfl)) (zAK zDE (pn 3) zA7) zJ2))
      (zA4 (zEV zA7 (zFH (zBO (zBM (K:=K)) (pn 2) (zAK zDE (pn 3) zA7) (fun _ _=>rfl)) (pn 3) zJ2))
      (zAD (zAL (i:=3) S__law_built.nd rfl oi (zAK zDE (pn 3) zA7))))) (zAD (zDZ (zBY u_gt (pn 4) zA7 (zB9 _)) (zAD (zEV zA7 (zFH (zBO (zBM (K:=K)) (pn 2) (pn 3) (fun _ _=>rfl)) (pn 3) zJ2))) zBU)))
      (zAD (zAL (i:=3) S__law_built.nd rfl oi (zAK zDE (pn 3) zA7)))))))
      (zA4 (zDQ PassesOwn.never rfl (zAX rfl b_range (zA1 zA7 zA5)) (zAH (i:=5) S__law_built.nd rfl oi) (zAD (zDZ (zBY u_gt (pn 1) zA7 (zB9 _)) (zA4 (zAL (i:=2) S__law_built.nd rfl oi (zBP h__law_mixed_up (by decide) hr rfl (zA1 (pn 2) (zA1 (zAK zCG (pn 0) (zAK zGG (pn 1) (zAK zQT (pn 1) zA7))) zA5))))
      (zAD (zAL (i:=0) S__law_built.nd rfl oi (zAK zD4 (pn 0) (zAK zGG (pn 1) (zAK zQT (pn 1) zA7)))))) zBU)))
      (zAD (zB4 (pn 2))))))),
    (zBF (N:=["_law_rest","_law_size","_law_table","_law_place","_law_kind","_law_k"]) (zAF (zAI (n:=2) [1] (zAT (n:=1) (zDS (zA2 (de_v 1) zA6)) (zAV 6) zC0 (zAT (n:=0) (zDS (zA2 (de_v 1) zA6)) (zAV 7) zC0 zA8)))
      (zAF (zAI (n:=0) [] zA8)
      (zAF (zN8 (dt_b (dz (zA9 zDY (de_v 3) (de_v 1)))) (zAF (zAI (n:=0) [0] (zA9 zBH (de_v 0) (dz zA8)))
      (zAF (zAI (n:=0) [0] (zA9 zD6 (de_v 0) (dz zA8)))
      (zAF (zE0 (zQ4 (dt_b (dz (zA9 zDY (de_v 4) (dz zA8)))) (dt_b (dz (zA9 zDY (zA9 zC2 (de_v 3) (dz zA8)) (de_v 1))))) (zAF (zFR 2 (n:=0) (de_v 3) (zA9 zC2 (de_v 3) (dz zA8)) zA8)
      (zAF (zFR 2 (n:=0) (zA9 zC2 (de_v 3) (dz zA8)) (de_v 3) zA8)
      (zAI (n:=1) [3] (zA9 zC2 (de_v 3) (dz zA8))))) (zE0 (dt_b (dz (zA9 zDY (de_v 4) (dz zA8)))) (zFR 2 (n:=0) (de_v 3) (de_v 3) zA8) zCJ))
      (zAI (n:=1) [3] (zA9 zC2 (de_v 3) (dz zA8)))))))
      (zAF (zEG (zDS (zA2 zA8 zA6)) (zE0 (dt_b (dz (zA9 zDY (de_v 1) (dz zA8)))) (zAF (zAI (n:=0) [2,0,1] (zAQ (zA2 (de_v 2) (zA2 (zA9 zBH (de_v 0) (dz (zA9 zGI (de_v 1) (dz (zA9 zMU (de_v 1) (dz zA8)))))) zA6))))
      (zAI (n:=0) [0,1] (zA9 zD6 (de_v 0) (dz (zA9 zGI (de_v 1) (dz (zA9 zMU (de_v 1) (dz zA8)))))))) zCJ))
      (zFA 2))))) h)⟩
theorem zM2 (D:Def K mg "_law_any" zG4) (h__law_built:Has P w K mg base "_law_built" 3 ["_law_rest","_law_size"] (sp0 K mg 0 zC6)) (b_list:mg "list" = none) (b_range:mg "range" = none):Has P w K mg base "_law_any" 4 ["_law_number_here","_law_most"] (sp0 K mg 0 zCP):=by
  letI:Kc:=⟨K⟩
  refine D.ok S__law_any (fun _ _ _ _ _ _=>uw2 fun _ _=>rfl) (fun vs H Q E h=>zB2 h) (fun f cdv A outer s H vs Q E hr h=>?_)
  have hu:=hr.units
  exact ⟨_,(zA4 (zAL (i:=2) S__law_any.nd rfl oi (zAK zCG (zAK zD4 (pn 0) zA7) (zAK zDE (pn 1) zA7)))
      (zA4 (zAL (i:=3) S__law_any.nd rfl oi (zAK zD4 (zAK zD4 (pn 0) zA7) (zAK zDE (pn 1) zA7)))
      (zA4 (zDZ (zBY (u_eq hu) (zAK zCG (pn 0) zA7) zA7 (zB9 _)) (zAD (zB4 (zBP h__law_built (by decide) hr rfl (zA1 (pn 3) (zA1 (pn 2) zA5))))) zBU)
      (zA4 (zAL (i:=4) S__law_any.nd rfl oi (zCI (zG9 (K:=K) rfl) rfl b_list boot_list (zA1 (zCI zUO rfl b_range boot_range (zA1 (pn 2) zA5)) zA5)))
      (zA4 (zDZ (zBY (u_eq hu) (zAK zCG (pn 0) zA7) zA7 (zB9 _)) (zAD (zDQ PassesOwn.never rfl (zKJ rfl b_range (zA1 zA7 (zA1 (pn 2) zA5))) (zAH (i:=5) S__law_any.nd rfl oi) (zA4 (zEV (zGS (zBY (u_eq hu) (zAK zCG (zAK zD4 (pn 3) zA7) zA7) zA7 (zB9 _)) (zBO (zBM (K:=K)) (pn 4) (zAK zCG (pn 3) (pn 5)) (fun _ _=>rfl)) (pn 5)) (zFH (pn 4) (pn 5) zJ2))
      (zAD (zAL (i:=3) S__law_any.nd rfl oi (zAK zD4 (pn 3) zA7)))))) zBU)
      (zA4 (zAL (i:=6) S__law_any.nd rfl oi (zB8 rfl (cn ["0","1","_law_size","3","4","5","6","7","_law_j","_law_i"] 1 (by kernel_rfl)) (zAX rfl b_range (zA1 (pn 2) zA5)) (fun _ _ _ _=>(zAH (i:=9) (by show List.Nodup (["0","1","_law_size","3","4","5","6","7","_law_j","_law_i"]:List Str); decide +kernel) rfl oi)) (fun _ _ _ _=>zBD) (fun _ _ _ _=>(zB8 rfl (cn ["0","1","2","3","4","5","6","7","8","9","_law_j"] 1 (by kernel_rfl)) (zAX rfl b_range (zA1 (pn 2) zA5)) (fun _ _ _ _=>(zAH (i:=10) (by show List.Nodup (["0","1","2","3","4","5","6","7","8","9","_law_j"]:List Str); decide +kernel) rfl oi)) (fun _ _ _ _=>zBD) (fun _ _ _ _=>zA7)))))
      (zA4 (zDQ PassesOwn.never rfl (zAX rfl b_range (zA1 (pn 2) zA5)) (zAH (i:=7) S__law_any.nd rfl oi) (zAD (zDQ PassesOwn.never rfl (zAX rfl b_range (zA1 (zAK zDE (pn 7) zA7) zA5)) (zAH (i:=8) S__law_any.nd rfl oi) (zA4 (zEV (zAK zCG (pn 3) zA7) (zFH (zBO (zBM (K:=K)) (pn 6) (pn 7) (fun _ _=>rfl)) (pn 8) zJ2))
      (zA4 (zEV (zAK zCG (pn 3) zA7) (zFH (zBO (zBM (K:=K)) (pn 6) (pn 8) (fun _ _=>rfl)) (pn 7) zJ2))
      (zAD (zAL (i:=3) S__law_any.nd rfl oi (zAK zD4 (pn 3) zA7))))))))
      (zAD (zB4 (zB8 rfl (cn ["0","1","_law_size","3","_law_kind","5","_law_table","7","_law_j","_law_i"] 1 (by kernel_rfl)) (zAX rfl b_range (zA1 (pn 2) zA5)) (fun _ _ _ _=>(zAH (i:=9) (by show List.Nodup (["0","1","_law_size","3","_law_kind","5","_law_table","7","_law_j","_law_i"]:List Str); decide +kernel) rfl oi)) (fun _ _ _ _=>zBD) (fun _ _ _ _=>(zB8 rfl (cn ["0","1","2","3","_law_kind","5","_law_table","7","8","_law_i","_law_j"] 1 (by kernel_rfl)) (zAX rfl b_range (zA1 (pn 2) zA5)) (fun _ _ _ _=>(zAH (i:=10) (by show List.Nodup (["0","1","2","3","_law_kind","5","_law_table","7","8","_law_i","_law_j"]:List Str); decide +kernel) rfl oi)) (fun _ _ _ _=>zBD) (fun _ _ _ _=>(zBO (zBM (K:=K)) (zBO (zBM (K:=K)) (pn 6) (zBO (zBM (K:=K)) (pn 4) (pn 9) (fun _ _=>rfl)) (fun _ _=>rfl)) (zBO (zBM (K:=K)) (pn 4) (pn 10) (fun _ _=>rfl)) (fun _ _=>rfl))))))))))))))),
    (zBF (N:=["_law_number_here","_law_most","_law_size","_law_rest","_law_kind","_law_k","_law_table","_law_i","_law_j"]) (zAF (zAI (n:=0) [0,1] (zA9 zBH (dz (zA9 zD6 (de_v 0) (dz zA8))) (zA9 zC2 (de_v 1) (dz zA8))))
      (zAF (zAI (n:=0) [0,1] (zA9 zD6 (dz (zA9 zD6 (de_v 0) (dz zA8))) (zA9 zC2 (de_v 1) (dz zA8))))
      (zAF (zE0 (dt_b (dz (zA9 zF7 (dz (zA9 zBH (de_v 0) (dz zA8))) (dz zA8)))) (zBJ (n:=0) [3,2] (zAQ (zA2 (de_v 3) (zA2 (de_v 2) zA6)))) zCJ)
      (zAF (zAI (n:=1) [2] (zL1 (zA2 (de_v 2) zA6)))
      (zAF (zE0 (dt_b (dz (zA9 zF7 (dz (zA9 zBH (de_v 0) (dz zA8))) (dz zA8)))) (zEG (zXK (zA2 zA8 (zA2 (de_v 2) zA6))) (zAF (zUW 4 (n:=0) (de_v 5) (zNB (dt_b (dz (zA9 zF7 (dz (zA9 zBH (dz (zA9 zD6 (de_v 3) (dz zA8))) (dz zA8))) (dz zA8)))) (zA9 zC1 (de_v 4) (dz (zA9 zBH (de_v 3) (de_v 5)))) (de_v 5)))
      (zAI (n:=0) [3] (zA9 zD6 (de_v 3) (dz zA8))))) zCJ)
      (zAF (zAI (n:=2) [7,8,2] (zAT (n:=1) (zDS (zA2 (de_v 2) zA6)) (zAV 9) zC0 (zAT (n:=0) (zDS (zA2 (de_v 2) zA6)) (zAV 10) zC0 zA8)))
      (zAF (zEG (zDS (zA2 (de_v 2) zA6)) (zEG (zDS (zA2 (zAS (zA9 zC2 (de_v 7) (dz zA8))) zA6)) (zAF (zFR 6 (n:=0) (de_v 7) (de_v 8) (zA9 zBH (de_v 3) (dz zA8)))
      (zAF (zFR 6 (n:=0) (de_v 8) (de_v 7) (zA9 zBH (de_v 3) (dz zA8)))
      (zAI (n:=0) [3] (zA9 zD6 (de_v 3) (dz zA8)))))))
      (zBJ (n:=0) [7,8,2,6,4] (zAS (zAT (n:=1) (zDS (zA2 (de_v 2) zA6)) (zAV 9) zC0 (zAT (n:=0) (zDS (zA2 (de_v 2) zA6)) (zAV 10) zC0 (zA9 zC1 (zA9 zC1 (de_v 6) (zA9 zC1 (de_v 4) (de_v 9))) (zA9 zC1 (de_v 4) (de_v 10)))))))))))))) h)⟩
theorem zLY (D:Def K mg "is_whole" zG0) (b_bool:mg "bool" = none) (b_int:mg "int" = none) (b_isinstance:mg "isinstance" = none):Has P w K mg base "is_whole" 1 ["thing"] (sp0 K mg 0 zBC):=by
  letI:Kc:=⟨K⟩
  refine D.ok zOG (fun _ _ _ _ _ _=>uw1 fun _=>rfl) (fun vs H Q E h=>zB2 h) (fun f cdv A outer s H vs Q E hr h=>?_)
  have hu:=hr.units
  exact ⟨_,(zAD (zB4 (zRH (zAJ zD8 rfl b_isinstance boot_isinstance (zA1 (pn 0) (zA1 (zHC (v:=.ty "int") rfl b_int boot_int rfl) zA5))) (zN0 (zWG (zAJ zD8 rfl b_isinstance boot_isinstance (zA1 (pn 0) (zA1 (zHC (v:=.ty "bool") rfl b_bool boot_bool rfl) zA5)))))))),
    (zBF (N:=["thing"]) (zBJ (n:=0) [0] (zNC (dz (zN9 (by decide) (de_v 0))) (zT9 (dz (zN9 (by decide) (de_v 0)))))) h)⟩
theorem zKM (D:Def K mg "are_whole" zF3) (h_is_whole:Has P w K mg base "is_whole" 1 ["thing"] (sp0 K mg 0 zBC)) (b_all:mg "all" = none):Has P w K mg base "are_whole" 2 ["numbers"] (sp0 K mg 0 zCX):=by
  letI:Kc:=⟨K⟩
  refine D.ok zMJ (fun _ _ _ _ _ _=>uw1 fun _=>rfl) (fun vs H Q E h=>zB2 h) (fun f cdv A outer s H vs Q E hr h=>?_)
  have hu:=hr.units
  exact ⟨_,(zAD (zB4 (zAJ (zYM rfl) rfl b_all boot_all (zA1 (zB8 rfl (cn ["0","number"] 1 (by kernel_rfl)) (zCM (K:=K) (pn 0)) (fun _ _ _ _=>(zAH (i:=1) (by show List.Nodup (["0","number"]:List Str); decide +kernel) rfl oi)) (fun _ _ _ _=>zBD) (fun _ _ _ _=>(zBP h_is_whole (by decide) hr rfl (zA1 (pn 1) zA5)))) zA5)))),
    (zBF (N:=["numbers"]) (zBJ (n:=0) [0] (zCK zXR (zA2 (zAS (zAT (n:=0) (zCY (de_v 0)) (zAV 1) zC0 (zAQ (zA2 (de_v 1) zA6)))) zA6))) h)⟩
theorem zPL (D:Def K mg "is_set" zJ9) (h_are_whole:Has P w K mg base "are_whole" 2 ["numbers"] (sp0 K mg 0 zCX)) (b_len:mg "len" = none) (b_range:mg "range" = none):Has P w K mg base "is_set" 3 ["table","numbers"] (sp0 K mg 0 zFJ):=by
  letI:Kc:=⟨K⟩
  refine D.ok zSN (fun _ _ _ _ _ _=>uw2 fun _ _=>rfl) (fun vs H Q E h=>zB2 h) (fun f cdv A outer s H vs Q E hr h=>?_)
  have hu:=hr.units
  exact ⟨_,(zAD (zB4 (zRH (zBP h_are_whole (by decide) hr rfl (zA1 (pn 1) zA5)) (zN0 (zG7 (u_eq hu) (pn 1) (zB8 rfl (cn ["0","numbers","i"] 1 (by kernel_rfl)) (zAX rfl b_range (zA1 (zAJ (zC7 (K:=K)) rfl b_len boot_len (zA1 (pn 0) zA5)) zA5)) (fun _ _ _ _=>(zAH (i:=2) (by show List.Nodup (["0","numbers","i"]:List Str); decide +kernel) rfl oi)) (fun _ _ _ _=>zDP (zBY (u_in (K:=K)) (pn 2) (pn 1) rfl)) (fun _ _ _ _=>(pn 2))) (zB9 _)))))),
    (zBF (N:=["table","numbers"]) (zBJ (n:=0) [1,0] (zNC (zAQ (zA2 (de_v 1) zA6)) (zA9 zF7 (de_v 1) (zAT (n:=0) (zDS (zA2 (zCK zC8 (zA2 (de_v 0) zA6)) zA6)) (zAV 2) (dt_b (dz (zA9 zKF (de_v 2) (de_v 1)))) (de_v 2))))) h)⟩
theorem zNX (D:Def K mg "part_at" zH7):Has P w K mg base "part_at" 1 ["table","numbers"] (sp0 K mg 2 zBV):=by
  letI:Kc:=⟨K⟩
  refine D.ok zQM (fun _ _ _ _ _ _=>uw2 fun _ _=>rfl) (fun vs H Q E h=>zB2 h) (fun f cdv A outer s H vs Q E hr h=>?_)
  have hu:=hr.units
  exact ⟨_,(zAD (zB4 (zB8 rfl (cn ["table","numbers","i"] 1 (by kernel_rfl)) (zCM (K:=K) (pn 1)) (fun _ _ _ _=>(zAH (i:=2) (by show List.Nodup (["table","numbers","i"]:List Str); decide +kernel) rfl oi)) (fun _ _ _ _=>zBD) (fun _ _ _ _=>(zB8 rfl (cn ["table","1","i","j"] 1 (by kernel_rfl)) (zCM (K:=K) (pn 1)) (fun _ _ _ _=>(zAH (i:=3) (by show List.Nodup (["table","1","i","j"]:List Str); decide +kernel) rfl oi)) (fun _ _ _ _=>zBD) (fun _ _ _ _=>(zBO (zBM (K:=K)) (zBO (zBM (K:=K)) (pn 0) (pn 2) (fun _ _=>rfl)) (pn 3) (fun _ _=>rfl)))))))),
    (zBF (N:=["table","numbers"]) (zBJ (n:=2) [1,0] (zAT (n:=1) (zCY (de_v 1)) (zAV 2) zC0 (zAT (n:=0) (zCY (de_v 1)) (zAV 3) zC0 (zA9 zC1 (zA9 zC1 (de_v 0) (de_v 2)) (de_v 3))))) h)⟩
theorem zRM (D:Def K mg "added" zLP) (b_len:mg "len" = none) (b_range:mg "range" = none):Has P w K mg base "added" 1 ["one","other"] (sp0 K mg 1 zG8):=by
  letI:Kc:=⟨K⟩
  refine D.ok zVA (fun _ _ _ _ _ _=>uw2 fun _ _=>rfl) (fun vs H Q E h=>zB2 h) (fun f cdv A outer s H vs Q E hr h=>?_)
  have hu:=hr.units
  exact ⟨_,(zAD (zB4 (zB8 rfl (cn ["one","other","j"] 1 (by kernel_rfl)) (zAX rfl b_range (zA1 (zAJ (zC7 (K:=K)) rfl b_len boot_len (zA1 (pn 0) zA5)) zA5)) (fun _ _ _ _=>(zAH (i:=2) (by show List.Nodup (["one","other","j"]:List Str); decide +kernel) rfl oi)) (fun _ _ _ _=>zBD) (fun _ _ _ _=>(zAK zY4 (zBO (zBM (K:=K)) (pn 0) (pn 2) (fun _ _=>rfl)) (zBO (zBM (K:=K)) (pn 1) (pn 2) (fun _ _=>rfl))))))),
    (zBF (N:=["one","other"]) (zBJ (n:=1) [0,1] (zAT (n:=0) (zDS (zA2 (zCK zC8 (zA2 (de_v 0) zA6)) zA6)) (zAV 2) zC0 (zA9 zVX (zA9 zC1 (de_v 0) (de_v 2)) (zA9 zC1 (de_v 1) (de_v 2))))) h)⟩
theorem zNY (D:Def K mg "cleared" zH8) (h_added:Has P w K mg base "added" 1 ["one","other"] (sp0 K mg 1 zG8)):Has P w K mg base "cleared" 2 ["rows","column","at"] (sp0 K mg 1 zDH):=by
  letI:Kc:=⟨K⟩
  refine D.ok S_cleared (fun _ _ _ _ _ _=>uw3 fun _ _ _=>rfl) (fun vs H Q E h=>zB2 h) (fun f cdv A outer s H vs Q E hr h=>?_)
  have hu:=hr.units
  exact ⟨_,(zA4 (zAL (i:=3) S_cleared.nd rfl oi (zBO (zBM (K:=K)) (pn 0) (pn 2) (fun _ _=>rfl)))
      (zA4 (zC9 (i:=4) S_cleared.nd rfl oi rfl (cn ["0","column","2","lead","4","row"] 1 (by kernel_rfl)) (zCM (K:=K) (pn 0)) (fun _ _ _ _=>(zAH (i:=5) (by show List.Nodup (["0","column","2","lead","4","row"]:List Str); decide +kernel) rfl oi)) (fun _ _ _ _=>zBD) (fun _ _ _ _=>(zGS (zBY (u_eq hu) (zBO (zBM (K:=K)) (pn 5) (pn 1) (fun _ _=>rfl)) zA7 (zB9 _)) (zBP h_added (by decide) hr rfl (zA1 (pn 5) (zA1 (pn 3) zA5))) (pn 5))))
      (zA4 (zEV (zBO (zBM (K:=K)) (pn 4) (pn 1) (fun _ _=>rfl)) (zFH (pn 4) (pn 2) zJ2))
      (zA4 (zEV (pn 3) (zFH (pn 4) (pn 1) zJ2))
      (zAD (zB4 (pn 4))))))),
    (zBF (N:=["rows","column","at","lead","others"]) (zAF (zAI (n:=0) [0,2] (zA9 zC1 (de_v 0) (de_v 2)))
      (zAF (zAI (n:=1) [0,3,1] (zAT (n:=0) (zCY (de_v 0)) (zAV 5) zC0 (zNB (dt_b (dz (zA9 zF7 (zA9 zC1 (de_v 5) (de_v 1)) (dz zA8)))) (zAS (zAQ (zA2 (de_v 5) (zA2 (de_v 3) zA6)))) (de_v 5))))
      (zAF (zS5 4 (de_v 2) (de_v 1))
      (zAF (zS6 4 [3] (de_v 1) (de_v 3))
      (zFA 4))))) h)⟩
theorem zLX (D:Def K mg "unit_row" zFZ) (b_range:mg "range" = none):Has P w K mg base "unit_row" 1 ["size","number"] (sp0 K mg 1 zCV):=by
  letI:Kc:=⟨K⟩
  refine D.ok zOF (fun _ _ _ _ _ _=>uw2 fun _ _=>rfl) (fun vs H Q E h=>zB2 h) (fun f cdv A outer s H vs Q E hr h=>?_)
  have hu:=hr.units
  exact ⟨_,(zAD (zB4 (zB8 rfl (cn ["0","number","i"] 1 (by kernel_rfl)) (zAX rfl b_range (zA1 (pn 0) zA5)) (fun _ _ _ _=>(zAH (i:=2) (by show List.Nodup (["0","number","i"]:List Str); decide +kernel) rfl oi)) (fun _ _ _ _=>zBD) (fun _ _ _ _=>(zGS (zBY (u_eq hu) (pn 2) (pn 1) (zB9 _)) zA7 zA7))))),
    (zBF (N:=["size","number"]) (zBJ (n:=1) [1,0] (zAT (n:=0) (zDS (zA2 (de_v 0) zA6)) (zAV 2) zC0 (zNB (dt_b (dz (zA9 zF7 (de_v 2) (de_v 1)))) zA8 zA8))) h)⟩
theorem zNW (D:Def K mg "undoing" zH6) (h_cleared:Has P w K mg base "cleared" 2 ["rows","column","at"] (sp0 K mg 1 zDH)) (h_unit_row:Has P w K mg base "unit_row" 1 ["size","number"] (sp0 K mg 1 zCV)) (b_len:mg "len" = none) (b_range:mg "range" = none):Has P w K mg base "undoing" 3 ["table"] (sp0 K mg 2 zDG):=by
  letI:Kc:=⟨K⟩
  refine D.ok S_undoing (fun _ _ _ _ _ _=>uw1 fun _=>rfl) (fun vs H Q E h=>zB2 h) (fun f cdv A outer s H vs Q E hr h=>?_)
  have hu:=hr.units
  exact ⟨_,(zA4 (zAL (i:=1) S_undoing.nd rfl oi (zAJ (zC7 (K:=K)) rfl b_len boot_len (zA1 (pn 0) zA5)))
      (zA4 (zAL (i:=2) S_undoing.nd rfl oi (zB8 rfl (cn ["table","size","2","3","4","i"] 1 (by kernel_rfl)) (zAX rfl b_range (zA1 (pn 1) zA5)) (fun _ _ _ _=>(zAH (i:=5) (by show List.Nodup (["table","size","2","3","4","i"]:List Str); decide +kernel) rfl oi)) (fun _ _ _ _=>zBD) (fun _ _ _ _=>(zAK zDE (zBO (zBM (K:=K)) (pn 0) (pn 5) (fun _ _=>rfl)) (zBP h_unit_row (by decide) hr rfl (zA1 (pn 1) (zA1 (pn 5) zA5)))))))
      (zA4 (zDQ PassesOwn.never rfl (zAX rfl b_range (zA1 (pn 1) zA5)) (zAH (i:=3) S_undoing.nd rfl oi) (zA4 (zC9 (i:=4) S_undoing.nd rfl oi rfl (cn ["0","1","rows","column","4","at"] 1 (by kernel_rfl)) (zKJ rfl b_range (zA1 (pn 3) (zA1 (pn 1) zA5))) (fun _ _ _ _=>(zAH (i:=5) (by show List.Nodup (["0","1","rows","column","4","at"]:List Str); decide +kernel) rfl oi)) (fun _ _ _ _=>zDP (zBY (u_eq hu) (zBO (zBM (K:=K)) (zBO (zBM (K:=K)) (pn 2) (pn 5) (fun _ _=>rfl)) (pn 3) (fun _ _=>rfl)) zA7 (zB9 _))) (fun _ _ _ _=>(pn 5)))
      (zA4 (zDZ (zHB (pt_l (K:=K) (pn 4))) (zAD (zB4 zPD)) zBU)
      (zAD (zAL (i:=2) S_undoing.nd rfl oi (zBP h_cleared (by decide) hr rfl (zA1 (pn 2) (zA1 (pn 3) (zA1 (zBO (zBM (K:=K)) (pn 4) zA7 (fun _ _=>rfl)) zA5)))))))))
      (zAD (zB4 (zB8 rfl (cn ["0","size","2","3","4","row"] 1 (by kernel_rfl)) (zCM (K:=K) (pn 2)) (fun _ _ _ _=>(zAH (i:=5) (by show List.Nodup (["0","size","2","3","4","row"]:List Str); decide +kernel) rfl oi)) (fun _ _ _ _=>zBD) (fun _ _ _ _=>(zJC (u_sl (K:=K)) (pn 5) (zLT (pn 1)) zLU)))))))),
    (zBF (N:=["table","size","rows","column","leads"]) (zAF (zAI (n:=0) [0] (zCK zC8 (zA2 (de_v 0) zA6)))
      (zAF (zAI (n:=2) [0,1] (zAT (n:=1) (zDS (zA2 (de_v 1) zA6)) (zAV 5) zC0 (zA9 zC2 (zA9 zC1 (de_v 0) (de_v 5)) (zAQ (zA2 (de_v 1) (zA2 (de_v 5) zA6))))))
      (zAF (zEG (zDS (zA2 (de_v 1) zA6)) (zAF (zAI (n:=1) [3,1,2] (zAT (n:=0) (zXK (zA2 (de_v 3) (zA2 (de_v 1) zA6))) (zAV 5) (dt_b (dz (zA9 zF7 (zA9 zC1 (zA9 zC1 (de_v 2) (de_v 5)) (de_v 3)) (dz zA8)))) (de_v 5)))
      (zAF (zE0 (zHS (dt_l (de_v 4))) (zBJ (n:=2) [] zQA) zCJ)
      (zAI (n:=1) [2,3,4] (zAQ (zA2 (de_v 2) (zA2 (de_v 3) (zA2 (zA9 zC1 (de_v 4) (dz zA8)) zA6))))))))
      (zBJ (n:=2) [2,1] (zAT (n:=1) (zCY (de_v 2)) (zAV 5) zC0 (zV3 (de_v 5) (do_e (de_v 1)) zUY)))))) h)⟩
theorem zLZ (D:Def K mg "can_undo" zG1) (h_is_set:Has P w K mg base "is_set" 3 ["table","numbers"] (sp0 K mg 0 zFJ)) (h_part_at:Has P w K mg base "part_at" 1 ["table","numbers"] (sp0 K mg 2 zBV)) (h_undoing:Has P w K mg base "undoing" 3 ["table"] (sp0 K mg 2 zDG)):Has P w K mg base "can_undo" 4 ["table","numbers"] (sp0 K mg 0 zBW):=by
  letI:Kc:=⟨K⟩
  refine D.ok zOH (fun _ _ _ _ _ _=>uw2 fun _ _=>rfl) (fun vs H Q E h=>zB2 h) (fun f cdv A outer s H vs Q E hr h=>?_)
  have hu:=hr.units
  exact ⟨_,(zAD (zB4 (zRH (zBP h_is_set (by decide) hr rfl (zA1 (pn 0) (zA1 (pn 1) zA5))) (zN0 (zG7 zUA (zBP h_undoing (by decide) hr rfl (zA1 (zBP h_part_at (by decide) hr rfl (zA1 (pn 0) (zA1 (pn 1) zA5))) zA5)) zPD (zB9 _)))))),
    (zBF (N:=["table","numbers"]) (zBJ (n:=0) [0,1] (zNC (zAQ (zA2 (de_v 0) (zA2 (de_v 1) zA6))) (zA9 zTX (zAQ (zA2 (zAS (zAQ (zA2 (de_v 0) (zA2 (de_v 1) zA6)))) zA6)) (dz zQA)))) h)⟩
theorem zJD (D:Def K mg "changed_by" zE5) (b_len:mg "len" = none) (b_range:mg "range" = none):Has P w K mg base "changed_by" 1 ["table","one","other"] (sp0 K mg 1 zBI):=by
  letI:Kc:=⟨K⟩
  refine D.ok zLH (fun _ _ _ _ _ _=>uw3 fun _ _ _=>rfl) (fun vs H Q E h=>zB2 h) (fun f cdv A outer s H vs Q E hr h=>?_)
  have hu:=hr.units
  exact ⟨_,(zAD (zB4 (zB8 rfl (cn ["0","one","other","i"] 1 (by kernel_rfl)) (zAX rfl b_range (zA1 (zAJ (zC7 (K:=K)) rfl b_len boot_len (zA1 (pn 0) zA5)) zA5)) (fun _ _ _ _=>(zAH (i:=3) (by show List.Nodup (["0","one","other","i"]:List Str); decide +kernel) rfl oi)) (fun _ _ _ _=>zDP (zBY (u_ne hu) (zG7 (u_in (K:=K)) (pn 3) (pn 1) rfl) (zG7 (u_in (K:=K)) (pn 3) (pn 2) rfl) (zB9 _))) (fun _ _ _ _=>(pn 3))))),
    (zBF (N:=["table","one","other"]) (zBJ (n:=1) [0,1,2] (zAT (n:=0) (zDS (zA2 (zCK zC8 (zA2 (de_v 0) zA6)) zA6)) (zAV 3) (dt_b (dz (zA9 zTW (dz (zA9 zKF (de_v 3) (de_v 1))) (dz (zA9 zKF (de_v 3) (de_v 2)))))) (de_v 3))) h)⟩
theorem zHE (D:Def K mg "other_number" zDB) {a_NoSet:Addr} (h_can_undo:Has P w K mg base "can_undo" 4 ["table","numbers"] (sp0 K mg 0 zBW)) (h_changed_by:Has P w K mg base "changed_by" 1 ["table","one","other"] (sp0 K mg 1 zBI)) (z_NoSet:XNo K mg "NoSet" a_NoSet):HasX P w K mg base "other_number" 5 ["table","one","other","number"] (spE K mg 0 zAU):=by
  letI:Kc:=⟨K⟩
  refine D.okX S_other_number (fun _ _ _ _ _ _=>uw4 fun _ _ _ _=>rfl) (fun vs H Q E h=>zB2 h) (fun f cdv A outer s H vs Q E hr h=>?_)
  have hu:=hr.units
  exact ⟨_,(zA4 (zDZ (pt_w (zP6 (zHB (pt_m (zBP h_can_undo (by decide) hr rfl (zA1 (pn 0) (zA1 (pn 1) zA5))))) (zP5 (zHB (pt_m (zBP h_can_undo (by decide) hr rfl (zA1 (pn 0) (zA1 (pn 2) zA5)))))))) (zAD (zMZ (zSX z_NoSet rfl (zA1 zSW zA5)) zKX rfl)) zBU)
      (zA4 (zAL (i:=4) S_other_number.nd rfl oi (zBP h_changed_by (by decide) hr rfl (zA1 (pn 0) (zA1 (pn 1) (zA1 (pn 2) zA5)))))
      (zA4 (zDZ (zBY (zH1 (K:=K)) (pn 3) (pn 4) rfl) (zAD (zMZ (zSX z_NoSet rfl (zA1 zSW zA5)) zKX rfl)) zBU)
      (zA4 (zC9 (i:=5) S_other_number.nd rfl oi rfl (cn ["table","one","2","number","4","5","i"] 1 (by kernel_rfl)) (zCM (K:=K) (pn 4)) (fun _ _ _ _=>(zAH (i:=6) (by show List.Nodup (["table","one","2","number","4","5","i"]:List Str); decide +kernel) rfl oi)) (fun _ _ _ _=>zDP (pt_m (zBP h_can_undo (by decide) hr rfl (zA1 (pn 0) (zA1 (zBP h_changed_by (by decide) hr rfl (zA1 (pn 0) (zA1 (pn 1) (zA1 (zEB (zA1 (pn 3) (zA1 (pn 6) zA5))) zA5)))) zA5))))) (fun _ _ _ _=>(pn 6)))
      (zAD (zB4 (zBO (zBM (K:=K)) (pn 5) zA7 (fun _ _=>rfl)))))))),
    (zBF (N:=["table","one","other","number","unlike","fitting"]) (zAF (zE0 (zQ3 (zHS (dt_m (zFU (zA2 (de_v 0) (zA2 (de_v 1) zA6))))) (zHS (dt_m (zFU (zA2 (de_v 0) (zA2 (de_v 2) zA6)))))) (zL0 z_NoSet (zA2 zT8 zA6)) zCJ)
      (zAF (zAI (n:=1) [0,1,2] (zFU (zA2 (de_v 0) (zA2 (de_v 1) (zA2 (de_v 2) zA6)))))
      (zAF (zE0 (dt_b (dz (zA9 zKF (de_v 3) (de_v 4)))) (zL0 z_NoSet (zA2 zT8 zA6)) zCJ)
      (zAF (zAI (n:=1) [4,0,1,3] (zAT (n:=0) (zCY (de_v 4)) (zAV 6) (dt_m (zFU (zA2 (de_v 0) (zA2 (zAS (zFU (zA2 (de_v 0) (zA2 (de_v 1) (zA2 (zAS (zEH (n:=0) (zA2 (de_v 3) (zA2 (de_v 6) zA6)))) zA6))))) zA6)))) (de_v 6)))
      (zBJ (n:=0) [5] (zA9 zC1 (de_v 5) (dz zA8))))))) h)⟩
theorem zJH (D:Def K mg "_law_asked" zE9) {a_NoPivot:Addr} {a_NoSet:Addr} {a_RoundError:Addr} {a_TooMany:Addr} (h_other_number:HasX P w K mg base "other_number" 5 ["table","one","other","number"] (spE K mg 0 zAU)) (b_ValueError:mg "ValueError" = none) (b_isinstance:mg "isinstance" = none) (n_RoundError:XCls K mg "RoundError" a_RoundError) (n_NoPivot:XCls K mg "NoPivot" a_NoPivot) (n_NoSet:XCls K mg "NoSet" a_NoSet) (n_TooMany:XCls K mg "TooMany" a_TooMany) (q0:(∀ c∈(["NoSet"]:List Str),∃ C,clK K c = some C∧Xc.XIs K C∧kitV K C (V.ref a_NoSet) = some true)∧(∀ c∈(["RoundError","NoPivot","TooMany"]:List Str),∃ C,clK K c = some C∧Xc.XIs K C∧kitV K C (V.ref a_NoSet) = some false)) (q1:(∀ c∈(["RoundError","NoPivot","NoSet","TooMany"]:List Str),∃ C,clK K c = some C∧Xc.XIs K C∧kitV K C (V.ty "ValueError") = some true)∧(∀ c∈([]:List Str),∃ C,clK K c = some C∧Xc.XIs K C∧kitV K C (V.ty "ValueError") = some false)) (q2:(∀ c∈(["TooMany"]:List Str),∃ C,clK K c = some C∧Xc.XIs K C∧kitV K C (V.ref a_TooMany) = some true)∧(∀ c∈(["RoundError","NoPivot","NoSet"]:List Str),∃ C,clK K c = some C∧Xc.XIs K C∧kitV K C (V.ref a_TooMany) = some false)) (q3:(∀ c∈(["NoPivot"]:List Str),∃ C,clK K c = some C∧Xc.XIs K C∧kitV K C (V.ref a_NoPivot) = some true)∧(∀ c∈(["RoundError","NoSet","TooMany"]:List Str),∃ C,clK K c = some C∧Xc.XIs K C∧kitV K C (V.ref a_NoPivot) = some false)) (q4:(∀ c∈(["RoundError","NoPivot","NoSet","TooMany"]:List Str),∃ C,clK K c = some C∧PySem.W.exmOne K (.ref C) (.ref a_RoundError) = some true)):Has P w K mg base "_law_asked" 6 ["_law_table","_law_one","_law_other","_law_number_here"] (sp0 K mg 1 zAZ):=by
  letI:Kc:=⟨K⟩
  refine D.ok S__law_asked (fun _ _ _ _ _ _=>uw4 fun _ _ _ _=>rfl) (fun vs H Q E h=>zB2 h) (fun f cdv A outer s H vs Q E hr h=>?_)
  have hu:=hr.units
  exact ⟨_,(zA4 (zAL (i:=4) S__law_asked.nd rfl oi (zEB zA5))
      (zA4 (zAL (i:=5) S__law_asked.nd rfl oi zPD)
      (zA4 (zRD (i:=6) (zRC (zU5 (i:=5) S__law_asked.nd rfl oi (zWD h_other_number (by decide) hr rfl (zA1 (pn 0) (zA1 (pn 1) (zA1 (pn 2) (zA1 (pn 3) zA5))))))) ⟨rfl,rfl⟩ (Or.inl n_RoundError.gm) rfl S__law_asked.nd rfl rfl (fun _=>(zAD (zAL (i:=4) S__law_asked.nd rfl oi (zEB (zA1 (zAJ zFX rfl b_isinstance boot_isinstance (zA1 (pn 6) (zA1 (zPF rfl n_NoSet.gm) zA5))) (zA1 (zAJ zFX rfl b_isinstance boot_isinstance (zA1 (pn 6) (zA1 (zHC (v:=.ty "ValueError") rfl b_ValueError zI1 rfl) zA5))) (zA1 (zAJ zFX rfl b_isinstance boot_isinstance (zA1 (pn 6) (zA1 (zPF rfl n_TooMany.gm) zA5))) (zA1 (zAJ zFX rfl b_isinstance boot_isinstance (zA1 (pn 6) (zA1 (zPF rfl n_NoPivot.gm) zA5))) zA5)))))))))
      (zAD (zB4 (zWF (zA1 (pn 5) (zA1 (pn 4) zA5)))))))),
    (zBF (N:=["_law_table","_law_one","_law_other","_law_number_here","_law_kinds","_law_found","e"]) (zAF (zAI (n:=9) [] (zEH (n:=8) zA6))
      (zAF (zAI (n:=0) [] zQA)
      (zAF (zXG (te:=fun E'=>zJ5 (spE K mg 0 zAU) [] E' _) (some 5) [0,1,2,3] q4 (fun _=>zAS (n:=0) (zSB (zA2 (de_v 0) (zA2 (de_v 1) (zA2 (de_v 2) (zA2 (de_v 3) zA6)))))) (zAI (n:=1) [6] (zEH (n:=0) (zA2 (zNA q0.1 q0.2 (de_v 6)) (zA2 (zNA q1.1 q1.2 (de_v 6)) (zA2 (zNA q2.1 q2.2 (de_v 6)) (zA2 (zNA q3.1 q3.2 (de_v 6)) zA6)))))))
      (zBJ (n:=1) [5,4] (zXL (n:=0) (zA2 (de_v 5) (zA2 (de_v 4) zA6))))))) h)⟩
theorem zKO (D:Def K mg "_law_part" zF5):Has P w K mg base "_law_part" 1 ["_law_table","_law_numbers"] (sp0 K mg 2 zBV):=by
  letI:Kc:=⟨K⟩
  refine D.ok zMK (fun _ _ _ _ _ _=>uw2 fun _ _=>rfl) (fun vs H Q E h=>zB2 h) (fun f cdv A outer s H vs Q E hr h=>?_)
  have hu:=hr.units
  exact ⟨_,(zAD (zB4 (zB8 rfl (cn ["_law_table","_law_numbers","_law_i"] 1 (by kernel_rfl)) (zCM (K:=K) (pn 1)) (fun _ _ _ _=>(zAH (i:=2) (by show List.Nodup (["_law_table","_law_numbers","_law_i"]:List Str); decide +kernel) rfl oi)) (fun _ _ _ _=>zBD) (fun _ _ _ _=>(zB8 rfl (cn ["_law_table","1","_law_i","_law_j"] 1 (by kernel_rfl)) (zCM (K:=K) (pn 1)) (fun _ _ _ _=>(zAH (i:=3) (by show List.Nodup (["_law_table","1","_law_i","_law_j"]:List Str); decide +kernel) rfl oi)) (fun _ _ _ _=>zBD) (fun _ _ _ _=>(zBO (zBM (K:=K)) (zBO (zBM (K:=K)) (pn 0) (pn 2) (fun _ _=>rfl)) (pn 3) (fun _ _=>rfl)))))))),
    (zBF (N:=["_law_table","_law_numbers"]) (zBJ (n:=2) [1,0] (zAT (n:=1) (zCY (de_v 1)) (zAV 2) zC0 (zAT (n:=0) (zCY (de_v 1)) (zAV 3) zC0 (zA9 zC1 (zA9 zC1 (de_v 0) (de_v 2)) (de_v 3))))) h)⟩
theorem zKN (D:Def K mg "_law_rank" zF4) (h__law_added:Has P w K mg base "_law_added" 1 ["_law_one","_law_other"] (sp0 K mg 1 zAN)) (b_len:mg "len" = none) (b_list:mg "list" = none) (b_range:mg "range" = none):Has P w K mg base "_law_rank" 2 ["_law_table"] (sp0 K mg 1 zCB):=by
  letI:Kc:=⟨K⟩
  refine D.ok S__law_rank (fun _ _ _ _ _ _=>uw1 fun _=>rfl) (fun vs H Q E h=>zB2 h) (fun f cdv A outer s H vs Q E hr h=>?_)
  have hu:=hr.units
  exact ⟨_,(zA4 (zC9 (i:=1) S__law_rank.nd rfl oi rfl (cn ["0","1","2","3","4","5","_law_row"] 1 (by kernel_rfl)) (zCM (K:=K) (pn 0)) (fun _ _ _ _=>(zAH (i:=6) (by show List.Nodup (["0","1","2","3","4","5","_law_row"]:List Str); decide +kernel) rfl oi)) (fun _ _ _ _=>zBD) (fun _ _ _ _=>(zCI (zG9 (K:=K) rfl) rfl b_list boot_list (zA1 (pn 6) zA5))))
      (zA4 (zAL (i:=2) S__law_rank.nd rfl oi zA7)
      (zA4 (zDQ PassesOwn.never rfl (zAX rfl b_range (zA1 (zAJ (zC7 (K:=K)) rfl b_len boot_len (zA1 (pn 0) zA5)) zA5)) (zAH (i:=3) S__law_rank.nd rfl oi) (zA4 (zAL (i:=4) S__law_rank.nd rfl oi (zB8 rfl (cn ["0","1","2","_law_place","4","5","_law_row"] 1 (by kernel_rfl)) (zCM (K:=K) (pn 1)) (fun _ _ _ _=>(zAH (i:=6) (by show List.Nodup (["0","1","2","_law_place","4","5","_law_row"]:List Str); decide +kernel) rfl oi)) (fun _ _ _ _=>zDP (zBY (u_eq hu) (zBO (zBM (K:=K)) (pn 6) (pn 3) (fun _ _=>rfl)) zA7 (zB9 _))) (fun _ _ _ _=>(pn 6))))
      (zAD (zDZ (zBY u_gt (zAJ (zC7 (K:=K)) rfl b_len boot_len (zA1 (pn 4) zA5)) zA7 (zB9 _)) (zA4 (zAL (i:=2) S__law_rank.nd rfl oi (zAK zDE (pn 2) zA7))
      (zA4 (zC9 (i:=5) S__law_rank.nd rfl oi rfl (cn ["0","1","2","_law_place","4","5","_law_row"] 1 (by kernel_rfl)) (zCM (K:=K) (pn 1)) (fun _ _ _ _=>(zAH (i:=6) (by show List.Nodup (["0","1","2","_law_place","4","5","_law_row"]:List Str); decide +kernel) rfl oi)) (fun _ _ _ _=>zDP (zBY (u_eq hu) (zBO (zBM (K:=K)) (pn 6) (pn 3) (fun _ _=>rfl)) zA7 (zB9 _))) (fun _ _ _ _=>(pn 6)))
      (zAD (zAL (i:=1) S__law_rank.nd rfl oi (zAK zDE (pn 5) (zB8 rfl (cn ["0","1","2","3","_law_some","5","_law_row"] 1 (by kernel_rfl)) (zCM (K:=K) (zJC (u_sl (K:=K)) (pn 4) (zLT zA7) zLU)) (fun _ _ _ _=>(zAH (i:=6) (by show List.Nodup (["0","1","2","3","_law_some","5","_law_row"]:List Str); decide +kernel) rfl oi)) (fun _ _ _ _=>zBD) (fun _ _ _ _=>(zBP h__law_added (by decide) hr rfl (zA1 (pn 6) (zA1 (zBO (zBM (K:=K)) (pn 4) zA7 (fun _ _=>rfl)) zA5)))))))))) zBU))))
      (zAD (zB4 (pn 2)))))),
    (zBF (N:=["_law_table","_law_rows","_law_many","_law_place","_law_some","_law_rest"]) (zAF (zAI (n:=2) [0] (zAT (n:=1) (zCY (de_v 0)) (zAV 6) zC0 (zCK zI0 (zA2 (de_v 6) zA6))))
      (zAF (zAI (n:=0) [] zA8)
      (zAF (zEG (zDS (zA2 (zCK zC8 (zA2 (de_v 0) zA6)) zA6)) (zAF (zAI (n:=1) [1,3] (zAT (n:=0) (zCY (de_v 1)) (zAV 6) (dt_b (dz (zA9 zF7 (zA9 zC1 (de_v 6) (de_v 3)) (dz zA8)))) (de_v 6)))
      (zE0 (dt_b (dz (zA9 zDY (dz (zCK zC8 (zA2 (de_v 4) zA6))) (dz zA8)))) (zAF (zAI (n:=1) [2] (zA9 zC2 (de_v 2) (dz zA8)))
      (zAF (zAI (n:=1) [1,3] (zAT (n:=0) (zCY (de_v 1)) (zAV 6) (dt_b (dz (zA9 zF7 (zA9 zC1 (de_v 6) (de_v 3)) (dz zA8)))) (de_v 6)))
      (zAI (n:=1) [5,4] (zA9 zC2 (de_v 5) (zAT (n:=1) (zCY (zV3 (de_v 4) (do_e (dz zA8)) zUY)) (zAV 6) zC0 (zAQ (zA2 (de_v 6) (zA2 (zA9 zC1 (de_v 4) (dz zA8)) zA6)))))))) zCJ)))
      (zFA 2)))) h)⟩
theorem zM1 (D:Def K mg "_law_can" zG3) (h__law_part:Has P w K mg base "_law_part" 1 ["_law_table","_law_numbers"] (sp0 K mg 2 zBV)) (h__law_rank:Has P w K mg base "_law_rank" 2 ["_law_table"] (sp0 K mg 1 zCB)) (b_len:mg "len" = none):Has P w K mg base "_law_can" 3 ["_law_table","_law_some"] (sp0 K mg 0 zB7):=by
  letI:Kc:=⟨K⟩
  refine D.ok zOI (fun _ _ _ _ _ _=>uw2 fun _ _=>rfl) (fun vs H Q E h=>zB2 h) (fun f cdv A outer s H vs Q E hr h=>?_)
  have hu:=hr.units
  exact ⟨_,(zAD (zB4 (zG7 (u_eq hu) (zBP h__law_rank (by decide) hr rfl (zA1 (zBP h__law_part (by decide) hr rfl (zA1 (pn 0) (zA1 (pn 1) zA5))) zA5)) (zAJ (zC7 (K:=K)) rfl b_len boot_len (zA1 (pn 1) zA5)) (zB9 _)))),
    (zBF (N:=["_law_table","_law_some"]) (zBJ (n:=0) [1,0] (zA9 zF7 (zAQ (zA2 (zAS (zAQ (zA2 (de_v 0) (zA2 (de_v 1) zA6)))) zA6)) (dz (zCK zC8 (zA2 (de_v 1) zA6))))) h)⟩
theorem zKP (D:Def K mg "_law_copy" zF6) (b_list:mg "list" = none):Has P w K mg base "_law_copy" 1 ["_law_table"] (sp0 K mg 2 zCC):=by
  letI:Kc:=⟨K⟩
  refine D.ok zML (fun _ _ _ _ _ _=>uw1 fun _=>rfl) (fun vs H Q E h=>zB2 h) (fun f cdv A outer s H vs Q E hr h=>?_)
  have hu:=hr.units
  exact ⟨_,(zAD (zB4 (zB8 rfl (cn ["0","_law_row"] 1 (by kernel_rfl)) (zCM (K:=K) (pn 0)) (fun _ _ _ _=>(zAH (i:=1) (by show List.Nodup (["0","_law_row"]:List Str); decide +kernel) rfl oi)) (fun _ _ _ _=>zBD) (fun _ _ _ _=>(zCI (zG9 (K:=K) rfl) rfl b_list boot_list (zA1 (pn 1) zA5)))))),
    (zBF (N:=["_law_table"]) (zBJ (n:=2) [0] (zAT (n:=1) (zCY (de_v 0)) (zAV 1) zC0 (zCK zI0 (zA2 (de_v 1) zA6)))) h)⟩
theorem zJF (D:Def K mg "_law_mixed" zE7) (b_len:mg "len" = none):Has P w K mg base "_law_mixed" 1 ["_law_script","_law_k"] (sp0 K mg 0 zC5):=by
  letI:Kc:=⟨K⟩
  refine D.ok S__law_mixed (fun _ _ _ _ _ _=>uw2 fun _ _=>rfl) (fun vs H Q E h=>zB2 h) (fun f cdv A outer s H vs Q E hr h=>?_)
  have hu:=hr.units
  exact ⟨_,(zA4 (zAL (i:=2) S__law_mixed.nd rfl oi zA7)
      (zA4 (zDZ (zBY u_gt (zAJ (zC7 (K:=K)) rfl b_len boot_len (zA1 (pn 0) zA5)) zA7 (zB9 _)) (zAD (zAL (i:=2) S__law_mixed.nd rfl oi (zBO (zBM (K:=K)) (pn 0) (zAK zCG (pn 1) (zAJ (zC7 (K:=K)) rfl b_len boot_len (zA1 (pn 0) zA5))) (fun _ _=>rfl)))) zBU)
      (zA4 (zAL (i:=3) S__law_mixed.nd rfl oi (zAK zCG (zAK zGG (zAK zDE (zAK zCG (pn 2) zA7) (zAK zGG zA7 (zAK zDE (pn 1) zA7))) zA7) zA7))
      (zAD (zB4 (zAK zCG (zAK zGG (pn 3) zA7) zA7)))))),
    (zBF (N:=["_law_script","_law_k","_law_cell","_law_mixed_here"]) (zAF (zAI (n:=0) [] zA8)
      (zAF (zE0 (dt_b (dz (zA9 zDY (dz (zCK zC8 (zA2 (de_v 0) zA6))) (dz zA8)))) (zAI (n:=0) [0,1] (zA9 zC1 (de_v 0) (dz (zA9 zBH (de_v 1) (dz (zCK zC8 (zA2 (de_v 0) zA6))))))) zCJ)
      (zAF (zAI (n:=0) [2,1] (zA9 zBH (dz (zA9 zGI (zA9 zC2 (dz (zA9 zBH (de_v 2) (dz zA8))) (dz (zA9 zGI (dz zA8) (zA9 zC2 (de_v 1) (dz zA8))))) (dz zA8))) (dz zA8)))
      (zBJ (n:=0) [3] (zA9 zBH (dz (zA9 zGI (de_v 3) (dz zA8))) (dz zA8)))))) h)⟩
theorem zIC (D:Def K mg "_law_number" zDN) (h__law_mixed:Has P w K mg base "_law_mixed" 1 ["_law_script","_law_k"] (sp0 K mg 0 zC5)) (b_len:mg "len" = none) (b_min:mg "min" = none) (b_range:mg "range" = none):Has P w K mg base "_law_number" 2 ["_law_script","_law_k"] (sp0 K mg 1 zAY):=by
  letI:Kc:=⟨K⟩
  refine D.ok S__law_number (fun _ _ _ _ _ _=>uw2 fun _ _=>rfl) (fun vs H Q E h=>zB2 h) (fun f cdv A outer s H vs Q E hr h=>?_)
  have hu:=hr.units
  exact ⟨_,(zA4 (zAL (i:=2) S__law_number.nd rfl oi zA7)
      (zA4 (zDZ (pt_w (zP7 (zBY u_gt (zAJ (zC7 (K:=K)) rfl b_len boot_len (zA1 (pn 0) zA5)) zA7 (zB9 _)) (zLS (zBY (u_eq hu) (zAK zCG (zBO (zBM (K:=K)) (pn 0) zA7 (fun _ _=>rfl)) zA7) zA7 (zB9 _))))) (zA4 (zDZ (zBY u_lt (pn 1) (zAJ (zC7 (K:=K)) rfl b_len boot_len (zA1 (pn 0) zA5)) (zB9 _)) (zAD (zAL (i:=2) S__law_number.nd rfl oi (zAK zD4 (zAK zCG (zBO (zBM (K:=K)) (pn 0) (pn 1) (fun _ _=>rfl)) (zAK zGG zA7 (zAK zVK zA7 zA7))) (zAK zQT zA7 (zAJ (zQF rfl) rfl b_min boot_min (zA1 (pn 1) (zA1 zA7 zA5))))))) zBU)
      (zAD (zB4 (pn 2)))) zBU)
      (zA4 (zDQ PassesOwn.never rfl (zAX rfl b_range (zA1 zA7 zA5)) (zAH (i:=3) S__law_number.nd rfl oi) (zAD (zAL (i:=2) S__law_number.nd rfl oi (zAK zDE (zAK zGG (pn 2) zA7) (zBP h__law_mixed (by decide) hr rfl (zA1 (pn 0) (zA1 (zAK zDE (zAK zGG zA7 (pn 1)) (pn 3)) zA5)))))))
      (zAD (zB4 (zAK zCG (pn 2) (zAK zVK zA7 zA7))))))),
    (zBF (N:=["_law_script","_law_k","_law_number_here","_law_turn"]) (zAF (zAI (n:=0) [] zA8)
      (zAF (zE0 (zQ4 (dt_b (dz (zA9 zDY (dz (zCK zC8 (zA2 (de_v 0) zA6))) (dz zA8)))) (dt_b (dz (zA9 zF7 (dz (zA9 zBH (zA9 zC1 (de_v 0) (dz zA8)) (dz zA8))) (dz zA8))))) (zAF (zE0 (dt_b (dz (zA9 zDY (de_v 1) (dz (zCK zC8 (zA2 (de_v 0) zA6)))))) (zAI (n:=0) [0,1] (zA9 zD6 (dz (zA9 zBH (zA9 zC1 (de_v 0) (de_v 1)) (dz (zA9 zGI (dz zA8) (dz (zA9 zST (dz zA8) (dz zA8))))))) (dz (zA9 zMU (dz zA8) (dz (zCK zXQ (zA2 (de_v 1) (zA2 zA8 zA6)))))))) zCJ)
      (zFA 2)) zCJ)
      (zAF (zEG (zDS (zA2 zA8 zA6)) (zAI (n:=1) [2,0,3,1] (zA9 zC2 (dz (zA9 zGI (de_v 2) (dz zA8))) (zAQ (zA2 (de_v 0) (zA2 (zAS (zA9 zC2 (dz (zA9 zGI (dz zA8) (de_v 1))) (de_v 3))) zA6))))))
      (zBJ (n:=1) [2] (zA9 zBH (de_v 2) (dz (zA9 zST (dz zA8) (dz zA8)))))))) h)⟩
theorem zID (D:Def K mg "_law_digits" zDO) (b_range:mg "range" = none):Has P w K mg base "_law_digits" 1 ["_law_rest","_law_base","_law_many"] (sp0 K mg 9 zCO):=by
  letI:Kc:=⟨K⟩
  refine D.ok S__law_digits (fun _ _ _ _ _ _=>uw3 fun _ _ _=>rfl) (fun vs H Q E h=>zB2 h) (fun f cdv A outer s H vs Q E hr h=>?_)
  have hu:=hr.units
  exact ⟨_,(zA4 (zAL (i:=3) S__law_digits.nd rfl oi (zEB zA5))
      (zA4 (zDQ PassesOwn.never rfl (zAX rfl b_range (zA1 (pn 2) zA5)) (zAH (i:=4) S__law_digits.nd rfl oi) (zA4 (zU6 (zYD PySem.F.plainAttrs_list PySem.F.slot_list_append PySem.F.type_list_append zUJ (pn 3) (zA1 (zAK zCG (pn 0) (pn 1)) zA5)))
      (zAD (zAL (i:=0) S__law_digits.nd rfl oi (zAK zD4 (pn 0) (pn 1))))))
      (zAD (zB4 (pn 3))))),
    (zBF (N:=["_law_rest","_law_base","_law_many","_law_row","_law_k"]) (zAF (zAI (n:=9) [] (zEH (n:=8) zA6))
      (zAF (zEG (zDS (zA2 (de_v 2) zA6)) (zAF (zXH 3 (n:=0) (zA9 zBH (de_v 0) (de_v 1)))
      (zAI (n:=0) [0,1] (zA9 zD6 (de_v 0) (de_v 1)))))
      (zFA 3))) h)⟩
theorem zM0 (D:Def K mg "_law_set" zG2) (h__law_can:Has P w K mg base "_law_can" 3 ["_law_table","_law_some"] (sp0 K mg 0 zB7)) (h__law_digits:Has P w K mg base "_law_digits" 1 ["_law_rest","_law_base","_law_many"] (sp0 K mg 9 zCO)) (b_len:mg "len" = none) (b_range:mg "range" = none):Has P w K mg base "_law_set" 4 ["_law_rest","_law_table"] (sp0 K mg 1 zDI):=by
  letI:Kc:=⟨K⟩
  refine D.ok S__law_set (fun _ _ _ _ _ _=>uw2 fun _ _=>rfl) (fun vs H Q E h=>zB2 h) (fun f cdv A outer s H vs Q E hr h=>?_)
  have hu:=hr.units
  exact ⟨_,(zA4 (zAL (i:=2) S__law_set.nd rfl oi (zBP h__law_digits (by decide) hr rfl (zA1 (zAK zD4 (pn 0) zA7) (zA1 zA7 (zA1 (zAJ (zC7 (K:=K)) rfl b_len boot_len (zA1 (pn 1) zA5)) zA5)))))
      (zA4 (zC9 (i:=3) S__law_set.nd rfl oi rfl (cn ["0","1","_law_bits","3","_law_i"] 1 (by kernel_rfl)) (zAX rfl b_range (zA1 (zAJ (zC7 (K:=K)) rfl b_len boot_len (zA1 (pn 1) zA5)) zA5)) (fun _ _ _ _=>(zAH (i:=4) (by show List.Nodup (["0","1","_law_bits","3","_law_i"]:List Str); decide +kernel) rfl oi)) (fun _ _ _ _=>zDP (zBY (u_eq hu) (zBO (zBM (K:=K)) (pn 2) (pn 4) (fun _ _=>rfl)) zA7 (zB9 _))) (fun _ _ _ _=>(pn 4)))
      (zA4 (zDZ (zBY u_gt (zAK zCG (pn 0) zA7) zA7 (zB9 _)) (zAD (zMY PassesOwn.never (zHB (pt_m (zBP h__law_can (by decide) hr rfl (zA1 (pn 1) (zA1 (pn 3) zA5))))) (zAD (zAL (i:=3) S__law_set.nd rfl oi (zJC (u_sl (K:=K)) (pn 3) zLU (zLT (zYC zY5 zA7))))))) zBU)
      (zAD (zB4 (pn 3)))))),
    (zBF (N:=["_law_rest","_law_table","_law_bits","_law_some"]) (zAF (zAI (n:=9) [0,1] (zAQ (zA2 (zA9 zD6 (de_v 0) (dz zA8)) (zA2 zA8 (zA2 (zCK zC8 (zA2 (de_v 1) zA6)) zA6)))))
      (zAF (zAI (n:=1) [1,2] (zAT (n:=0) (zDS (zA2 (zCK zC8 (zA2 (de_v 1) zA6)) zA6)) (zAV 4) (dt_b (dz (zA9 zF7 (zA9 zC1 (de_v 2) (de_v 4)) (dz zA8)))) (de_v 4)))
      (zAF (zE0 (dt_b (dz (zA9 zDY (dz (zA9 zBH (de_v 0) (dz zA8))) (dz zA8)))) (zN8 (zHS (dt_m (zAQ (zA2 (de_v 1) (zA2 (de_v 3) zA6))))) (zAI (n:=1) [3] (zV3 (de_v 3) zUY (do_e (dz (zYS zVY (dz zA8))))))) zCJ)
      (zFA 3)))) h)⟩
theorem zHF (D:Def K mg "_law_toggled" zDC) (b_sorted:mg "sorted" = none):Has P w K mg base "_law_toggled" 1 ["_law_some","_law_numbers"] (sp0 K mg 1 zBL):=by
  letI:Kc:=⟨K⟩
  refine D.ok zIG (fun _ _ _ _ _ _=>uw2 fun _ _=>rfl) (fun vs H Q E h=>zB2 h) (fun f cdv A outer s H vs Q E hr h=>?_)
  have hu:=hr.units
  exact ⟨_,(zAD (zB4 (zAJ zRU rfl b_sorted boot_sorted (zA1 (zAK zDE (zB8 rfl (cn ["0","_law_numbers","_law_k"] 1 (by kernel_rfl)) (zCM (K:=K) (pn 0)) (fun _ _ _ _=>(zAH (i:=2) (by show List.Nodup (["0","_law_numbers","_law_k"]:List Str); decide +kernel) rfl oi)) (fun _ _ _ _=>zDP (zBY (zH1 (K:=K)) (pn 2) (pn 1) rfl)) (fun _ _ _ _=>(pn 2))) (zB8 rfl (cn ["_law_some","1","_law_k"] 1 (by kernel_rfl)) (zCM (K:=K) (pn 1)) (fun _ _ _ _=>(zAH (i:=2) (by show List.Nodup (["_law_some","1","_law_k"]:List Str); decide +kernel) rfl oi)) (fun _ _ _ _=>zDP (zBY (zH1 (K:=K)) (pn 2) (pn 0) rfl)) (fun _ _ _ _=>(pn 2)))) zA5)))),
    (zBF (N:=["_law_some","_law_numbers"]) (zBJ (n:=1) [0,1] (zCK zV6 (zA2 (zAS (zA9 zC2 (zAT (n:=0) (zCY (de_v 0)) (zAV 2) (dt_b (dz (zA9 zKF (de_v 2) (de_v 1)))) (de_v 2)) (zAT (n:=0) (zCY (de_v 1)) (zAV 2) (dt_b (dz (zA9 zKF (de_v 2) (de_v 0)))) (de_v 2)))) zA6))) h)⟩
theorem zJE (D:Def K mg "_law_whole" zE6) (b_bool:mg "bool" = none) (b_int:mg "int" = none) (b_isinstance:mg "isinstance" = none):Has P w K mg base "_law_whole" 1 ["_law_found"] (sp0 K mg 0 zBC):=by
  letI:Kc:=⟨K⟩
  refine D.ok zLI (fun _ _ _ _ _ _=>uw1 fun _=>rfl) (fun vs H Q E h=>zB2 h) (fun f cdv A outer s H vs Q E hr h=>?_)
  have hu:=hr.units
  exact ⟨_,(zAD (zB4 (zRH (zAJ zD8 rfl b_isinstance boot_isinstance (zA1 (pn 0) (zA1 (zHC (v:=.ty "int") rfl b_int boot_int rfl) zA5))) (zN0 (zWG (zAJ zD8 rfl b_isinstance boot_isinstance (zA1 (pn 0) (zA1 (zHC (v:=.ty "bool") rfl b_bool boot_bool rfl) zA5)))))))),
    (zBF (N:=["_law_found"]) (zBJ (n:=0) [0] (zNC (dz (zN9 (by decide) (de_v 0))) (zT9 (dz (zN9 (by decide) (de_v 0)))))) h)⟩
theorem zWP {f:Addr} {fd:FuncData} (F:Fun K "law" "law" zJ8 f fd) (h__law_any:Has P w K mg base "_law_any" 4 ["_law_number_here","_law_most"] (sp0 K mg 0 zCP)) (h__law_asked:Has P w K mg base "_law_asked" 6 ["_law_table","_law_one","_law_other","_law_number_here"] (sp0 K mg 1 zAZ)) (h__law_can:Has P w K mg base "_law_can" 3 ["_law_table","_law_some"] (sp0 K mg 0 zB7)) (h__law_copy:Has P w K mg base "_law_copy" 1 ["_law_table"] (sp0 K mg 2 zCC)) (h__law_number:Has P w K mg base "_law_number" 2 ["_law_script","_law_k"] (sp0 K mg 1 zAY)) (h__law_set:Has P w K mg base "_law_set" 4 ["_law_rest","_law_table"] (sp0 K mg 1 zDI)) (h__law_toggled:Has P w K mg base "_law_toggled" 1 ["_law_some","_law_numbers"] (sp0 K mg 1 zBL)) (h__law_whole:Has P w K mg base "_law_whole" 1 ["_law_found"] (sp0 K mg 0 zBC)) (b_len:mg "len" = none) (b_list:mg "list" = none) (b_set:mg "set" = none) (b_sorted:mg "sorted" = none):FnOk P w K mg base CX0 7 f fd ["_law_script"] (zK9 K):=by
  letI:Kc:=⟨K⟩
  refine (F.ok S_law (sp:=sp0 K mg 0 zHJ) (fun vs H Q E h=>zB2 h) (fun cdv A outer s H vs Q E hr h=>?_)).imp (zRR zRQ)
  have hu:=hr.units
  exact ⟨_,(zA4 (zAL (i:=1) S_law.nd rfl oi (zBP h__law_any (by decide) hr rfl (zA1 (zBP h__law_number (by decide) hr rfl (zA1 (pn 0) (zA1 zA7 zA5))) (zA1 zA7 zA5))))
      (zA4 (zDZ (zBY (u_eq hu) (zAJ (zC7 (K:=K)) rfl b_len boot_len (zA1 (pn 1) zA5)) zA7 (zB9 _)) (zAD (zAL (i:=1) S_law.nd rfl oi (zEB (zA1 (zEB (zA1 zA7 zA5)) zA5)))) zBU)
      (zA4 (zAL (i:=2) S_law.nd rfl oi (zBP h__law_set (by decide) hr rfl (zA1 (zBP h__law_number (by decide) hr rfl (zA1 (pn 0) (zA1 zA7 zA5))) (zA1 (pn 1) zA5))))
      (zA4 (zAL (i:=3) S_law.nd rfl oi (zBP h__law_set (by decide) hr rfl (zA1 (zBP h__law_number (by decide) hr rfl (zA1 (pn 0) (zA1 zA7 zA5))) (zA1 (pn 1) zA5))))
      (zA4 (zAL (i:=4) S_law.nd rfl oi (zBP h__law_toggled (by decide) hr rfl (zA1 (pn 2) (zA1 (pn 3) zA5))))
      (zA4 (zAL (i:=5) S_law.nd rfl oi (zBP h__law_number (by decide) hr rfl (zA1 (pn 0) (zA1 zA7 zA5))))
      (zA4 (zAL (i:=6) S_law.nd rfl oi (zAK zCG (zAK zD4 (pn 5) zA7) (zAJ (zC7 (K:=K)) rfl b_len boot_len (zA1 (pn 1) zA5))))
      (zA4 (zDZ (pt_w (zP7 (zBY u_gt (zAJ (zC7 (K:=K)) rfl b_len boot_len (zA1 (pn 4) zA5)) zA7 (zB9 _)) (zLS (zBY u_gt (zAK zCG (pn 5) zA7) zA7 (zB9 _))))) (zAD (zAL (i:=6) S_law.nd rfl oi (zBO (zBM (K:=K)) (pn 4) (zAK zCG (zAK zD4 (pn 5) zA7) (zAJ (zC7 (K:=K)) rfl b_len boot_len (zA1 (pn 4) zA5))) (fun _ _=>rfl)))) zBU)
      (zA4 (zAL (i:=7) S_law.nd rfl oi (zEB (zA1 (zCI (zG9 (K:=K) rfl) rfl b_list boot_list (zA1 (pn 2) zA5)) (zA1 (zCI (zG9 (K:=K) rfl) rfl b_list boot_list (zA1 (pn 3) zA5)) zA5))))
      (zA4 (zEV (zBP h__law_asked (by decide) hr rfl (zA1 (zBP h__law_copy (by decide) hr rfl (zA1 (pn 1) zA5)) (zA1 (zBO (zBM (K:=K)) (pn 7) zA7 (fun _ _=>rfl)) (zA1 (zBO (zBM (K:=K)) (pn 7) zA7 (fun _ _=>rfl)) (zA1 (pn 6) zA5))))) (zLW (K:=K) rfl (zEL (zAH (i:=8) S_law.nd rfl oi) (zEL (zAH (i:=9) S_law.nd rfl oi) zLV))))
      (zA4 (zDZ (zBY (u_ne hu) (pn 7) (zEB (zA1 (pn 2) (zA1 (pn 3) zA5))) (zB9 _)) (zAD (zB4 zNU)) zBU)
      (zA4 (zDZ (pt_w (zP6 (zHB (pt_m (zBP h__law_can (by decide) hr rfl (zA1 (pn 1) (zA1 (pn 2) zA5))))) (zP6 (zHB (pt_m (zBP h__law_can (by decide) hr rfl (zA1 (pn 1) (zA1 (pn 3) zA5))))) (zP5 (zBY (zH1 (K:=K)) (pn 6) (pn 4) rfl))))) (zAD (zB4 (zG7 (u_eq hu) (pn 9) (zEB (zA1 zNU (zA1 zNU (zA1 zNU (zA1 zNU zA5))))) (zB9 _)))) zBU)
      (zA4 (zDZ (pt_w (zP6 (zBY (u_ne hu) (pn 9) (zEB zA5) (zB9 _)) (zP6 (zHB (pt_m (zBP h__law_whole (by decide) hr rfl (zA1 (pn 8) zA5)))) (zP5 (zBY (zH1 (K:=K)) (pn 8) (pn 4) rfl))))) (zAD (zB4 zNU)) zBU)
      (zAD (zB4 (zBP h__law_can (by decide) hr rfl (zA1 (pn 1) (zA1 (zBP h__law_toggled (by decide) hr rfl (zA1 (pn 2) (zA1 (zAJ (zUN rfl) rfl b_sorted boot_sorted (zA1 (zCI (zWX rfl) rfl b_set zQG (zA1 (zEB (zA1 (pn 6) (zA1 (pn 8) zA5))) zA5)) zA5)) zA5))) zA5)))))))))))))))))),
    zBF (N:=["_law_script","_law_table","_law_one","_law_other","_law_apart","_law_rest","_law_number_here","_law_handed","_law_found","_law_kinds"]) (zAF (zAI (n:=0) [0] (zAQ (zA2 (zAS (zAQ (zA2 (de_v 0) (zA2 zA8 zA6)))) (zA2 zA8 zA6))))
      (zAF (zE0 (dt_b (dz (zA9 zF7 (dz (zCK zC8 (zA2 (de_v 1) zA6))) (dz zA8)))) (zAI (n:=2) [] (zEH (n:=1) (zA2 (zEH (n:=0) (zA2 zA8 zA6)) zA6))) zCJ)
      (zAF (zAI (n:=1) [1,0] (zAQ (zA2 (zAS (zAQ (zA2 (de_v 0) (zA2 zA8 zA6)))) (zA2 (de_v 1) zA6))))
      (zAF (zAI (n:=1) [1,0] (zAQ (zA2 (zAS (zAQ (zA2 (de_v 0) (zA2 zA8 zA6)))) (zA2 (de_v 1) zA6))))
      (zAF (zAI (n:=1) [2,3] (zAQ (zA2 (de_v 2) (zA2 (de_v 3) zA6))))
      (zAF (zAI (n:=1) [0] (zAQ (zA2 (de_v 0) (zA2 zA8 zA6))))
      (zAF (zAI (n:=0) [5,1] (zA9 zBH (dz (zA9 zD6 (de_v 5) (dz zA8))) (dz (zCK zC8 (zA2 (de_v 1) zA6)))))
      (zAF (zE0 (zQ4 (dt_b (dz (zA9 zDY (dz (zCK zC8 (zA2 (de_v 4) zA6))) (dz zA8)))) (dt_b (dz (zA9 zDY (dz (zA9 zBH (de_v 5) (dz zA8))) (dz zA8))))) (zAI (n:=0) [4,5] (zA9 zC1 (de_v 4) (dz (zA9 zBH (dz (zA9 zD6 (de_v 5) (dz zA8))) (dz (zCK zC8 (zA2 (de_v 4) zA6))))))) zCJ)
      (zAF (zAI (n:=2) [2,3] (zEH (n:=1) (zA2 (zCK zI0 (zA2 (de_v 2) zA6)) (zA2 (zCK zI0 (zA2 (de_v 3) zA6)) zA6))))
      (zAF (zXF [6,1,7] (zOP (zEJ 8 (zEJ 9 zLL)) rfl) (zAQ (zA2 (zAS (zAQ (zA2 (de_v 1) zA6))) (zA2 (zA9 zC1 (de_v 7) (dz zA8)) (zA2 (zA9 zC1 (de_v 7) (dz zA8)) (zA2 (de_v 6) zA6))))))
      (zAF (zE0 (dt_b (dz (zA9 zTW (de_v 7) (zEH (n:=0) (zA2 (de_v 2) (zA2 (de_v 3) zA6)))))) (zBJ (n:=0) [] zO8) zCJ)
      (zAF (zE0 (zQ3 (zHS (dt_m (zAQ (zA2 (de_v 1) (zA2 (de_v 2) zA6))))) (zQ3 (zHS (dt_m (zAQ (zA2 (de_v 1) (zA2 (de_v 3) zA6))))) (dt_b (dz (zA9 zKF (de_v 6) (de_v 4)))))) (zBJ (n:=0) [9] (zA9 zF7 (de_v 9) (zEH (n:=0) (zA2 zO8 (zA2 zO8 (zA2 zO8 (zA2 zO8 zA6))))))) zCJ)
      (zAF (zE0 (zQ3 (dt_b (dz (zA9 zTW (de_v 9) (zEH (n:=8) zA6)))) (zQ3 (zHS (dt_m (zAQ (zA2 (de_v 8) zA6)))) (dt_b (dz (zA9 zKF (de_v 8) (de_v 4)))))) (zBJ (n:=0) [] zO8) zCJ)
      (zBJ (n:=0) [1,2,6,8] (zAQ (zA2 (de_v 1) (zA2 (zAS (zAQ (zA2 (de_v 2) (zA2 (zAS (zXM (zEH (n:=0) (zA2 (de_v 6) (zA2 (de_v 8) zA6))))) zA6)))) zA6))))))))))))))))) h⟩
end
theorem mkD {K:PySem.W.Frag} {h:Heap} {mg:Str→Option Value} {nm:Str} {st:Stmt} {f:Addr} {oc kV dc pm cd ct:Value} {od an:Option Addr} {sl:Array (Option Value)} (X:K.In h) (G:h.Ns mainGlobals mg) (a:PySem.W.nsIn K mainGlobals nm = some (some (.ref f))) (l:K.lookup f = some ⟨oc,od,.func (PySem.W.fnOf nm nm (zDU st) (zCE st) (zAC st) .none kV dc pm an cd ct),sl⟩) (c:PySem.W.codeIn K cd nm = true) (k:PySem.W.keepIn K (.ref f) = true):Def K mg nm st:=⟨f,_,zT2 (st:=st) l c k,PySem.W.mg_of X G a⟩
theorem all_mk {l:PySem.W.OpenLaw} {w:World} {K:PySem.W.Frag} {h:Heap} {mg:Str→Option Value} {fa f26 a_RoundError a_NoPivot a_NoSet a_TooMany:Addr} {dd_RoundError dd_NoPivot dd_NoSet dd_TooMany:Option Addr} {cd_RoundError cd_NoPivot cd_NoSet cd_TooMany:ClassData} {sl_RoundError sl_NoPivot sl_NoSet sl_TooMany:Array (Option Value)} (X:K.In h) (G:h.Ns mainGlobals mg) (hfa:mg "law" = some (.ref fa))
    {od26 an26:Option Addr} {sl26:Array (Option Value)} {oc26 kV26 dc26 pm26 cd26 ct26:Value}
    (D0:Def K mg "_law_added" zEA)
    (D1:Def K mg "_law_mixed_up" zCW)
    (D2:Def K mg "_law_built" zE8)
    (D3:Def K mg "_law_any" zG4)
    (D4:Def K mg "is_whole" zG0)
    (D5:Def K mg "are_whole" zF3)
    (D6:Def K mg "is_set" zJ9)
    (D7:Def K mg "part_at" zH7)
    (D8:Def K mg "added" zLP)
    (D9:Def K mg "cleared" zH8)
    (D10:Def K mg "unit_row" zFZ)
    (D11:Def K mg "undoing" zH6)
    (D12:Def K mg "can_undo" zG1)
    (D13:Def K mg "changed_by" zE5)
    (D14:Def K mg "other_number" zDB)
    (D15:Def K mg "_law_asked" zE9)
    (D16:Def K mg "_law_part" zF5)
    (D17:Def K mg "_law_rank" zF4)
    (D18:Def K mg "_law_can" zG3)
    (D19:Def K mg "_law_copy" zF6)
    (D20:Def K mg "_law_mixed" zE7)
    (D21:Def K mg "_law_number" zDN)
    (D22:Def K mg "_law_digits" zDO)
    (D23:Def K mg "_law_set" zG2)
    (D24:Def K mg "_law_toggled" zDC)
    (D25:Def K mg "_law_whole" zE6)
    (a26:PySem.W.nsIn K mainGlobals "law" = some (some (.ref f26)))
    (l26:K.lookup f26 = some ⟨oc26,od26,.func (PySem.W.fnOf "law" "law" (zDU zJ8) (zCE zJ8) (zAC zJ8) .none kV26 dc26 pm26 an26 cd26 ct26),sl26⟩)
    (c26:PySem.W.codeIn K cd26 "law" = true)
    (k26:PySem.W.keepIn K (.ref f26) = true)
    (z0:PySem.W.nsIn K mainGlobals "ValueError" = some none)
    (z1:PySem.W.nsIn K mainGlobals "all" = some none)
    (z2:PySem.W.nsIn K mainGlobals "bool" = some none)
    (z3:PySem.W.nsIn K mainGlobals "enumerate" = some none)
    (z4:PySem.W.nsIn K mainGlobals "int" = some none)
    (z5:PySem.W.nsIn K mainGlobals "isinstance" = some none)
    (z6:PySem.W.nsIn K mainGlobals "len" = some none)
    (z7:PySem.W.nsIn K mainGlobals "list" = some none)
    (z8:PySem.W.nsIn K mainGlobals "min" = some none)
    (z9:PySem.W.nsIn K mainGlobals "range" = some none)
    (z10:PySem.W.nsIn K mainGlobals "set" = some none)
    (z11:PySem.W.nsIn K mainGlobals "sorted" = some none)
    (z12:PySem.W.nsIn K mainGlobals "zip" = some none)
    (xa_RoundError:PySem.W.nsIn K mainGlobals "RoundError" = some (some (.ref a_RoundError)))
    (xl_RoundError:K.lookup a_RoundError = some ⟨.type "type",dd_RoundError,.cls cd_RoundError,sl_RoundError⟩)
    (xd_RoundError:xcD a_RoundError cd_RoundError sl_RoundError = true)
    (xn_RoundError:PySem.W.clsIn K a_RoundError = some cd_RoundError)
    (xo_RoundError:PySem.W.excTail cd_RoundError.mro = true)
    (xt_RoundError:PySem.W.typeIn K (.ref a_RoundError) = some (.type "type"))
    (xg_RoundError:PySem.W.findIn K (.ref a_RoundError) "__getattribute__" = some (some (.builtin "BaseException.__getattribute__")))
    (xh_RoundError:PySem.W.findIn K (.ref a_RoundError) "__getattr__" = some none)
    (xj_RoundError:PySem.W.hasDictIn K a_RoundError = true)
    (xm_RoundError:PySem.W.findIn K (.ref a_RoundError) "__class__" = some (some (.builtin "object.__class__")))
    (xp_RoundError:PySem.W.mroIn K a_RoundError (.type "object") = some true)
    (xv_RoundError:PySem.W.subIn K (.ref a_RoundError) (.type "ValueError") = some true)
    (xw_RoundError:PySem.W.subIn K (.ref a_RoundError) (.type "BaseException") = some true)
    (xa_NoPivot:PySem.W.nsIn K mainGlobals "NoPivot" = some (some (.ref a_NoPivot)))
    (xl_NoPivot:K.lookup a_NoPivot = some ⟨.type "type",dd_NoPivot,.cls cd_NoPivot,sl_NoPivot⟩)
    (xd_NoPivot:xcD a_NoPivot cd_NoPivot sl_NoPivot = true)
    (xn_NoPivot:PySem.W.clsIn K a_NoPivot = some cd_NoPivot)
    (xo_NoPivot:PySem.W.excTail cd_NoPivot.mro = true)
    (xt_NoPivot:PySem.W.typeIn K (.ref a_NoPivot) = some (.type "type"))
    (xg_NoPivot:PySem.W.findIn K (.ref a_NoPivot) "__getattribute__" = some (some (.builtin "BaseException.__getattribute__")))
    (xh_NoPivot:PySem.W.findIn K (.ref a_NoPivot) "__getattr__" = some none)
    (xj_NoPivot:PySem.W.hasDictIn K a_NoPivot = true)
    (xm_NoPivot:PySem.W.findIn K (.ref a_NoPivot) "__class__" = some (some (.builtin "object.__class__")))
    (xp_NoPivot:PySem.W.mroIn K a_NoPivot (.type "object") = some true)
    (xv_NoPivot:PySem.W.subIn K (.ref a_NoPivot) (.type "ValueError") = some true)
    (xw_NoPivot:PySem.W.subIn K (.ref a_NoPivot) (.type "BaseException") = some true)
    (xa_NoSet:PySem.W.nsIn K mainGlobals "NoSet" = some (some (.ref a_NoSet)))
    (xl_NoSet:K.lookup a_NoSet = some ⟨.type "type",dd_NoSet,.cls cd_NoSet,sl_NoSet⟩)
    (xd_NoSet:xcD a_NoSet cd_NoSet sl_NoSet = true)
    (xn_NoSet:PySem.W.clsIn K a_NoSet = some cd_NoSet)
    (xo_NoSet:PySem.W.excTail cd_NoSet.mro = true)
    (xt_NoSet:PySem.W.typeIn K (.ref a_NoSet) = some (.type "type"))
    (xg_NoSet:PySem.W.findIn K (.ref a_NoSet) "__getattribute__" = some (some (.builtin "BaseException.__getattribute__")))
    (xh_NoSet:PySem.W.findIn K (.ref a_NoSet) "__getattr__" = some none)
    (xj_NoSet:PySem.W.hasDictIn K a_NoSet = true)
    (xm_NoSet:PySem.W.findIn K (.ref a_NoSet) "__class__" = some (some (.builtin "object.__class__")))
    (xp_NoSet:PySem.W.mroIn K a_NoSet (.type "object") = some true)
    (xv_NoSet:PySem.W.subIn K (.ref a_NoSet) (.type "ValueError") = some true)
    (xw_NoSet:PySem.W.subIn K (.ref a_NoSet) (.type "BaseException") = some true)
    (xa_TooMany:PySem.W.nsIn K mainGlobals "TooMany" = some (some (.ref a_TooMany)))
    (xl_TooMany:K.lookup a_TooMany = some ⟨.type "type",dd_TooMany,.cls cd_TooMany,sl_TooMany⟩)
    (xd_TooMany:xcD a_TooMany cd_TooMany sl_TooMany = true)
    (xn_TooMany:PySem.W.clsIn K a_TooMany = some cd_TooMany)
    (xo_TooMany:PySem.W.excTail cd_TooMany.mro = true)
    (xt_TooMany:PySem.W.typeIn K (.ref a_TooMany) = some (.type "type"))
    (xg_TooMany:PySem.W.findIn K (.ref a_TooMany) "__getattribute__" = some (some (.builtin "BaseException.__getattribute__")))
    (xh_TooMany:PySem.W.findIn K (.ref a_TooMany) "__getattr__" = some none)
    (xj_TooMany:PySem.W.hasDictIn K a_TooMany = true)
    (xm_TooMany:PySem.W.findIn K (.ref a_TooMany) "__class__" = some (some (.builtin "object.__class__")))
    (xp_TooMany:PySem.W.mroIn K a_TooMany (.type "object") = some true)
    (xv_TooMany:PySem.W.subIn K (.ref a_TooMany) (.type "ValueError") = some true)
    (xw_TooMany:PySem.W.subIn K (.ref a_TooMany) (.type "BaseException") = some true)
    (ycg:PySem.W.specialIn K (.builtin "object.__class__") "__get__" = some (some (.builtin "getset_descriptor.__get__")))
    (yct:PySem.W.takesIn K (.builtin "object.__class__") = some true)
    (zk_NoSet:PySem.W.keepIn K (.ref a_NoSet) = true)
    (zi_NoSet:PySem.W.findIn K (.ref a_NoSet) "__init__" = some (some (.builtin "ValueError.__init__")))
    (s_NoSet_NoSet:PySem.W.subIn K (.ref a_NoSet) (.ref a_NoSet) = some true)
    (s_RoundError_NoSet:PySem.W.subIn K (.ref a_RoundError) (.ref a_NoSet) = some false)
    (e_RoundError_NoSet:(a_RoundError == a_NoSet) = false)
    (s_NoPivot_NoSet:PySem.W.subIn K (.ref a_NoPivot) (.ref a_NoSet) = some false)
    (e_NoPivot_NoSet:(a_NoPivot == a_NoSet) = false)
    (s_TooMany_NoSet:PySem.W.subIn K (.ref a_TooMany) (.ref a_NoSet) = some false)
    (e_TooMany_NoSet:(a_TooMany == a_NoSet) = false)
    (s_TooMany_TooMany:PySem.W.subIn K (.ref a_TooMany) (.ref a_TooMany) = some true)
    (s_RoundError_TooMany:PySem.W.subIn K (.ref a_RoundError) (.ref a_TooMany) = some false)
    (e_RoundError_TooMany:(a_RoundError == a_TooMany) = false)
    (s_NoPivot_TooMany:PySem.W.subIn K (.ref a_NoPivot) (.ref a_TooMany) = some false)
    (e_NoPivot_TooMany:(a_NoPivot == a_TooMany) = false)
    (s_NoSet_TooMany:PySem.W.subIn K (.ref a_NoSet) (.ref a_TooMany) = some false)
    (e_NoSet_TooMany:(a_NoSet == a_TooMany) = false)
    (s_NoPivot_NoPivot:PySem.W.subIn K (.ref a_NoPivot) (.ref a_NoPivot) = some true)
    (s_RoundError_NoPivot:PySem.W.subIn K (.ref a_RoundError) (.ref a_NoPivot) = some false)
    (e_RoundError_NoPivot:(a_RoundError == a_NoPivot) = false)
    (s_NoSet_NoPivot:PySem.W.subIn K (.ref a_NoSet) (.ref a_NoPivot) = some false)
    (e_NoSet_NoPivot:(a_NoSet == a_NoPivot) = false)
    (s_TooMany_NoPivot:PySem.W.subIn K (.ref a_TooMany) (.ref a_NoPivot) = some false)
    (e_TooMany_NoPivot:(a_TooMany == a_NoPivot) = false)
    (s_RoundError_RoundError:PySem.W.subIn K (.ref a_RoundError) (.ref a_RoundError) = some true)
    (s_NoPivot_RoundError:PySem.W.subIn K (.ref a_NoPivot) (.ref a_RoundError) = some true)
    (s_NoSet_RoundError:PySem.W.subIn K (.ref a_NoSet) (.ref a_RoundError) = some true)
    (s_TooMany_RoundError:PySem.W.subIn K (.ref a_TooMany) (.ref a_RoundError) = some true)
   :∃ fd:FuncData,(∀ (s:Shared) (v:Value),BindsTo s fd ⟨[v],[]⟩ [("_law_script",v)])∧∀ base:Heap,K.In base→base.Ns mainGlobals mg→FnOk l.prog w K mg base CX0 7 fa fd ["_law_script"] (zK9 K):=by
  have e:=hfa.symm.trans (PySem.W.mg_of X G a26)
  cases e
  have b_ValueError:=PySem.W.mg_none_of X G z0
  have b_all:=PySem.W.mg_none_of X G z1
  have b_bool:=PySem.W.mg_none_of X G z2
  have b_enumerate:=PySem.W.mg_none_of X G z3
  have b_int:=PySem.W.mg_none_of X G z4
  have b_isinstance:=PySem.W.mg_none_of X G z5
  have b_len:=PySem.W.mg_none_of X G z6
  have b_list:=PySem.W.mg_none_of X G z7
  have b_min:=PySem.W.mg_none_of X G z8
  have b_range:=PySem.W.mg_none_of X G z9
  have b_set:=PySem.W.mg_none_of X G z10
  have b_sorted:=PySem.W.mg_none_of X G z11
  have b_zip:=PySem.W.mg_none_of X G z12
  have i_RoundError:Xc.XIs K a_RoundError:=⟨zIZ xl_RoundError xd_RoundError,xg_RoundError,xh_RoundError,xj_RoundError,xm_RoundError,ycg,yct,xp_RoundError⟩
  have i_NoPivot:Xc.XIs K a_NoPivot:=⟨zIZ xl_NoPivot xd_NoPivot,xg_NoPivot,xh_NoPivot,xj_NoPivot,xm_NoPivot,ycg,yct,xp_NoPivot⟩
  have i_NoSet:Xc.XIs K a_NoSet:=⟨zIZ xl_NoSet xd_NoSet,xg_NoSet,xh_NoSet,xj_NoSet,xm_NoSet,ycg,yct,xp_NoSet⟩
  have i_TooMany:Xc.XIs K a_TooMany:=⟨zIZ xl_TooMany xd_TooMany,xg_TooMany,xh_TooMany,xj_TooMany,xm_TooMany,ycg,yct,xp_TooMany⟩
  have n_RoundError:XCls K mg "RoundError" a_RoundError:=⟨zCS xa_RoundError,PySem.W.mg_of X G xa_RoundError,i_RoundError⟩
  have n_NoPivot:XCls K mg "NoPivot" a_NoPivot:=⟨zCS xa_NoPivot,PySem.W.mg_of X G xa_NoPivot,i_NoPivot⟩
  have n_NoSet:XCls K mg "NoSet" a_NoSet:=⟨zCS xa_NoSet,PySem.W.mg_of X G xa_NoSet,i_NoSet⟩
  have n_TooMany:XCls K mg "TooMany" a_TooMany:=⟨zCS xa_TooMany,PySem.W.mg_of X G xa_TooMany,i_TooMany⟩
  have z_NoSet:XNo K mg "NoSet" a_NoSet:=⟨n_NoSet,zk_NoSet,zi_NoSet⟩
  have q0_y:(∀ c∈(["NoSet"]:List Str),∃ C,clK K c = some C∧Xc.XIs K C∧kitV K C (V.ref a_NoSet) = some true):=by
    intro c h
    simp only [List.mem_cons,List.not_mem_nil,or_false] at h
    subst h
    exact ⟨a_NoSet,zCS xa_NoSet,i_NoSet,(zJM xn_NoSet xt_NoSet s_NoSet_NoSet)⟩
  have q0_n:(∀ c∈(["RoundError","NoPivot","TooMany"]:List Str),∃ C,clK K c = some C∧Xc.XIs K C∧kitV K C (V.ref a_NoSet) = some false):=by
    intro c h
    simp only [List.mem_cons,List.not_mem_nil,or_false] at h
    rcases h with rfl | rfl | rfl
    · exact ⟨a_RoundError,zCS xa_RoundError,i_RoundError,(zCQ xn_NoSet xt_NoSet s_RoundError_NoSet e_RoundError_NoSet)⟩
    · exact ⟨a_NoPivot,zCS xa_NoPivot,i_NoPivot,(zCQ xn_NoSet xt_NoSet s_NoPivot_NoSet e_NoPivot_NoSet)⟩
    · exact ⟨a_TooMany,zCS xa_TooMany,i_TooMany,(zCQ xn_NoSet xt_NoSet s_TooMany_NoSet e_TooMany_NoSet)⟩
  have q0:(∀ c∈(["NoSet"]:List Str),∃ C,clK K c = some C∧Xc.XIs K C∧kitV K C (V.ref a_NoSet) = some true)∧(∀ c∈(["RoundError","NoPivot","TooMany"]:List Str),∃ C,clK K c = some C∧Xc.XIs K C∧kitV K C (V.ref a_NoSet) = some false):=⟨q0_y,q0_n⟩
  have q1_y:(∀ c∈(["RoundError","NoPivot","NoSet","TooMany"]:List Str),∃ C,clK K c = some C∧Xc.XIs K C∧kitV K C (V.ty "ValueError") = some true):=by
    intro c h
    simp only [List.mem_cons,List.not_mem_nil,or_false] at h
    rcases h with rfl | rfl | rfl | rfl
    · exact ⟨a_RoundError,zCS xa_RoundError,i_RoundError,(zFL xv_RoundError)⟩
    · exact ⟨a_NoPivot,zCS xa_NoPivot,i_NoPivot,(zFL xv_NoPivot)⟩
    · exact ⟨a_NoSet,zCS xa_NoSet,i_NoSet,(zFL xv_NoSet)⟩
    · exact ⟨a_TooMany,zCS xa_TooMany,i_TooMany,(zFL xv_TooMany)⟩
  have q1_n:(∀ c∈([]:List Str),∃ C,clK K c = some C∧Xc.XIs K C∧kitV K C (V.ty "ValueError") = some false):=by
    intro c h
    simp only [List.mem_cons,List.not_mem_nil,or_false] at h
  have q1:(∀ c∈(["RoundError","NoPivot","NoSet","TooMany"]:List Str),∃ C,clK K c = some C∧Xc.XIs K C∧kitV K C (V.ty "ValueError") = some true)∧(∀ c∈([]:List Str),∃ C,clK K c = some C∧Xc.XIs K C∧kitV K C (V.ty "ValueError") = some false):=⟨q1_y,q1_n⟩
  have q2_y:(∀ c∈(["TooMany"]:List Str),∃ C,clK K c = some C∧Xc.XIs K C∧kitV K C (V.ref a_TooMany) = some true):=by
    intro c h
    simp only [List.mem_cons,List.not_mem_nil,or_false] at h
    subst h
    exact ⟨a_TooMany,zCS xa_TooMany,i_TooMany,(zJM xn_TooMany xt_TooMany s_TooMany_TooMany)⟩
  have q2_n:(∀ c∈(["RoundError","NoPivot","NoSet"]:List Str),∃ C,clK K c = some C∧Xc.XIs K C∧kitV K C (V.ref a_TooMany) = some false):=by
    intro c h
    simp only [List.mem_cons,List.not_mem_nil,or_false] at h
    rcases h with rfl | rfl | rfl
    · exact ⟨a_RoundError,zCS xa_RoundError,i_RoundError,(zCQ xn_TooMany xt_TooMany s_RoundError_TooMany e_RoundError_TooMany)⟩
    · exact ⟨a_NoPivot,zCS xa_NoPivot,i_NoPivot,(zCQ xn_TooMany xt_TooMany s_NoPivot_TooMany e_NoPivot_TooMany)⟩
    · exact ⟨a_NoSet,zCS xa_NoSet,i_NoSet,(zCQ xn_TooMany xt_TooMany s_NoSet_TooMany e_NoSet_TooMany)⟩
  have q2:(∀ c∈(["TooMany"]:List Str),∃ C,clK K c = some C∧Xc.XIs K C∧kitV K C (V.ref a_TooMany) = some true)∧(∀ c∈(["RoundError","NoPivot","NoSet"]:List Str),∃ C,clK K c = some C∧Xc.XIs K C∧kitV K C (V.ref a_TooMany) = some false):=⟨q2_y,q2_n⟩
  have q3_y:(∀ c∈(["NoPivot"]:List Str),∃ C,clK K c = some C∧Xc.XIs K C∧kitV K C (V.ref a_NoPivot) = some true):=by
    intro c h
    simp only [List.mem_cons,List.not_mem_nil,or_false] at h
    subst h
    exact ⟨a_NoPivot,zCS xa_NoPivot,i_NoPivot,(zJM xn_NoPivot xt_NoPivot s_NoPivot_NoPivot)⟩
  have q3_n:(∀ c∈(["RoundError","NoSet","TooMany"]:List Str),∃ C,clK K c = some C∧Xc.XIs K C∧kitV K C (V.ref a_NoPivot) = some false):=by
    intro c h
    simp only [List.mem_cons,List.not_mem_nil,or_false] at h
    rcases h with rfl | rfl | rfl
    · exact ⟨a_RoundError,zCS xa_RoundError,i_RoundError,(zCQ xn_NoPivot xt_NoPivot s_RoundError_NoPivot e_RoundError_NoPivot)⟩
    · exact ⟨a_NoSet,zCS xa_NoSet,i_NoSet,(zCQ xn_NoPivot xt_NoPivot s_NoSet_NoPivot e_NoSet_NoPivot)⟩
    · exact ⟨a_TooMany,zCS xa_TooMany,i_TooMany,(zCQ xn_NoPivot xt_NoPivot s_TooMany_NoPivot e_TooMany_NoPivot)⟩
  have q3:(∀ c∈(["NoPivot"]:List Str),∃ C,clK K c = some C∧Xc.XIs K C∧kitV K C (V.ref a_NoPivot) = some true)∧(∀ c∈(["RoundError","NoSet","TooMany"]:List Str),∃ C,clK K c = some C∧Xc.XIs K C∧kitV K C (V.ref a_NoPivot) = some false):=⟨q3_y,q3_n⟩
  have q4:(∀ c∈(["RoundError","NoPivot","NoSet","TooMany"]:List Str),∃ C,clK K c = some C∧PySem.W.exmOne K (.ref C) (.ref a_RoundError) = some true):=by
    intro c h
    simp only [List.mem_cons,List.not_mem_nil,or_false] at h
    rcases h with rfl | rfl | rfl | rfl
    · exact ⟨a_RoundError,zCS xa_RoundError,zFO xw_RoundError xn_RoundError xt_RoundError s_RoundError_RoundError⟩
    · exact ⟨a_NoPivot,zCS xa_NoPivot,zFO xw_RoundError xn_RoundError xt_RoundError s_NoPivot_RoundError⟩
    · exact ⟨a_NoSet,zCS xa_NoSet,zFO xw_RoundError xn_RoundError xt_RoundError s_NoSet_RoundError⟩
    · exact ⟨a_TooMany,zCS xa_TooMany,zFO xw_RoundError xn_RoundError xt_RoundError s_TooMany_RoundError⟩
  refine ⟨PySem.W.fnOf "law" "law" (zDU zJ8) (zCE zJ8) (zAC zJ8) .none kV26 dc26 pm26 an26 cd26 ct26,fun s v=>.of_eq rfl,fun base _ _=>?_⟩
  have h__law_added:=zJI (P:=l.prog) (w:=w) (base:=base) D0 b_zip
  have h__law_mixed_up:=zGP (P:=l.prog) (w:=w) (base:=base) D1 h__law_added b_enumerate b_len b_list
  have h__law_built:=zJG (P:=l.prog) (w:=w) (base:=base) D2 h__law_mixed_up b_range
  have h__law_any:=zM2 (P:=l.prog) (w:=w) (base:=base) D3 h__law_built b_list b_range
  have h_is_whole:=zLY (P:=l.prog) (w:=w) (base:=base) D4 b_bool b_int b_isinstance
  have h_are_whole:=zKM (P:=l.prog) (w:=w) (base:=base) D5 h_is_whole b_all
  have h_is_set:=zPL (P:=l.prog) (w:=w) (base:=base) D6 h_are_whole b_len b_range
  have h_part_at:=zNX (P:=l.prog) (w:=w) (base:=base) D7
  have h_added:=zRM (P:=l.prog) (w:=w) (base:=base) D8 b_len b_range
  have h_cleared:=zNY (P:=l.prog) (w:=w) (base:=base) D9 h_added
  have h_unit_row:=zLX (P:=l.prog) (w:=w) (base:=base) D10 b_range
  have h_undoing:=zNW (P:=l.prog) (w:=w) (base:=base) D11 h_cleared h_unit_row b_len b_range
  have h_can_undo:=zLZ (P:=l.prog) (w:=w) (base:=base) D12 h_is_set h_part_at h_undoing
  have h_changed_by:=zJD (P:=l.prog) (w:=w) (base:=base) D13 b_len b_range
  have h_other_number:=zHE (P:=l.prog) (w:=w) (base:=base) D14 h_can_undo h_changed_by z_NoSet
  have h__law_asked:=zJH (P:=l.prog) (w:=w) (base:=base) D15 h_other_number b_ValueError b_isinstance n_RoundError n_NoPivot n_NoSet n_TooMany q0 q1 q2 q3 q4
  have h__law_part:=zKO (P:=l.prog) (w:=w) (base:=base) D16
  have h__law_rank:=zKN (P:=l.prog) (w:=w) (base:=base) D17 h__law_added b_len b_list b_range
  have h__law_can:=zM1 (P:=l.prog) (w:=w) (base:=base) D18 h__law_part h__law_rank b_len
  have h__law_copy:=zKP (P:=l.prog) (w:=w) (base:=base) D19 b_list
  have h__law_mixed:=zJF (P:=l.prog) (w:=w) (base:=base) D20 b_len
  have h__law_number:=zIC (P:=l.prog) (w:=w) (base:=base) D21 h__law_mixed b_len b_min b_range
  have h__law_digits:=zID (P:=l.prog) (w:=w) (base:=base) D22 b_range
  have h__law_set:=zM0 (P:=l.prog) (w:=w) (base:=base) D23 h__law_can h__law_digits b_len b_range
  have h__law_toggled:=zHF (P:=l.prog) (w:=w) (base:=base) D24 b_sorted
  have h__law_whole:=zJE (P:=l.prog) (w:=w) (base:=base) D25 b_bool b_int b_isinstance
  exact zWP (zT2 (st:=zJ8) l26 c26 k26) h__law_any h__law_asked h__law_can h__law_copy h__law_number h__law_set h__law_toggled h__law_whole b_len b_list b_set b_sorted
theorem walk {l:PySem.W.OpenLaw} {q:Program} {loose:List Str} {XP:(Str→Option Value)→Heap→Prop} {YP:World→Heap→Prop} {d:DefRec} {K:Params→PySem.W.Frag} (hn:l.most = some 63) (hdf:d.params.defaults = [])
    (hY:∀ (w:World) (h:Heap),YP w h→(K w.params).In h)
    (F:∀ (w:World) (mg:Str→Option Value) (fa:Addr) (h:Heap),(K w.params).In h→h.Ns mainGlobals mg→mg d.name = some (.ref fa) →
      ∃ fd:FuncData,(∀ (s:Shared) (u:Value),BindsTo s fd ⟨[u],[]⟩ [("_law_script",u)])∧∀ base:Heap,(K w.params).In base→base.Ns mainGlobals mg→FnOk l.prog w (K w.params) mg base CX0 7 fa fd ["_law_script"] (zK9 (K w.params))) :
    PySem.W.WalkO q loose XP YP l.row.toRowW d [] (fun f vs=>PySem.call f vs) :=
  L2.walk_ofW (n:=63) (k:=7) (x:="_law_script") (CX:=fun _=>CX0) (sp:=fun w=>zK9 (K w.params)) hn (by decide) hdf ⟨rfl,by decide,by decide⟩ hY F (fun _ _ a ns hl hw _ hS=>⟨a,ns,rfl,hS,hl,hw,fun _=>rfl⟩) fun _ _ _ _ _ z=>z
end Q69
open PySem PySem.W PyProof.Rows
set_option maxRecDepth 100000 in
set_option maxHeartbeats 0 in
theorem PySem.Challenge.cw_fourway_k69_whole_numbers_exchanged_holds : PySem.Challenge.rw_fourway_k69_whole_numbers_exchanged.Holds := by
  w_on; o_law; k_head; (case hw=>w_witness2)
  k_fill
  refine Q69.walk (l:=PySem.Challenge.rw_fourway_k69_whole_numbers_exchanged) rfl rfl (fun w h Y=>PySem.W.kIn_of Y) ?F
  case F =>
    intro w mg fa h KX G hmg
    refine' Q69.all_mk KX G hmg (Q69.mkD KX G ?a0 ?l0 ?c0 ?k0) (Q69.mkD KX G ?a1 ?l1 ?c1 ?k1) (Q69.mkD KX G ?a2 ?l2 ?c2 ?k2) (Q69.mkD KX G ?a3 ?l3 ?c3 ?k3) (Q69.mkD KX G ?a4 ?l4 ?c4 ?k4) (Q69.mkD KX G ?a5 ?l5 ?c5 ?k5) (Q69.mkD KX G ?a6 ?l6 ?c6 ?k6) (Q69.mkD KX G ?a7 ?l7 ?c7 ?k7) (Q69.mkD KX G ?a8 ?l8 ?c8 ?k8) (Q69.mkD KX G ?a9 ?l9 ?c9 ?k9) (Q69.mkD KX G ?a10 ?l10 ?c10 ?k10) (Q69.mkD KX G ?a11 ?l11 ?c11 ?k11) (Q69.mkD KX G ?a12 ?l12 ?c12 ?k12) (Q69.mkD KX G ?a13 ?l13 ?c13 ?k13) (Q69.mkD KX G ?a14 ?l14 ?c14 ?k14) (Q69.mkD KX G ?a15 ?l15 ?c15 ?k15) (Q69.mkD KX G ?a16 ?l16 ?c16 ?k16) (Q69.mkD KX G ?a17 ?l17 ?c17 ?k17) (Q69.mkD KX G ?a18 ?l18 ?c18 ?k18) (Q69.mkD KX G ?a19 ?l19 ?c19 ?k19) (Q69.mkD KX G ?a20 ?l20 ?c20 ?k20) (Q69.mkD KX G ?a21 ?l21 ?c21 ?k21) (Q69.mkD KX G ?a22 ?l22 ?c22 ?k22) (Q69.mkD KX G ?a23 ?l23 ?c23 ?k23) (Q69.mkD KX G ?a24 ?l24 ?c24 ?k24) (Q69.mkD KX G ?a25 ?l25 ?c25 ?k25) ?a26 ?l26 ?c26 ?k26 ?z0 ?z1 ?z2 ?z3 ?z4 ?z5 ?z6 ?z7 ?z8 ?z9 ?z10 ?z11 ?z12 ?xa_RoundError ?xl_RoundError ?xd_RoundError ?xn_RoundError ?xo_RoundError ?xt_RoundError ?xg_RoundError ?xh_RoundError ?xj_RoundError ?xm_RoundError ?xp_RoundError ?xv_RoundError ?xw_RoundError ?xa_NoPivot ?xl_NoPivot ?xd_NoPivot ?xn_NoPivot ?xo_NoPivot ?xt_NoPivot ?xg_NoPivot ?xh_NoPivot ?xj_NoPivot ?xm_NoPivot ?xp_NoPivot ?xv_NoPivot ?xw_NoPivot ?xa_NoSet ?xl_NoSet ?xd_NoSet ?xn_NoSet ?xo_NoSet ?xt_NoSet ?xg_NoSet ?xh_NoSet ?xj_NoSet ?xm_NoSet ?xp_NoSet ?xv_NoSet ?xw_NoSet ?xa_TooMany ?xl_TooMany ?xd_TooMany ?xn_TooMany ?xo_TooMany ?xt_TooMany ?xg_TooMany ?xh_TooMany ?xj_TooMany ?xm_TooMany ?xp_TooMany ?xv_TooMany ?xw_TooMany ?ycg ?yct ?zk_NoSet ?zi_NoSet ?s_NoSet_NoSet ?s_RoundError_NoSet ?e_RoundError_NoSet ?s_NoPivot_NoSet ?e_NoPivot_NoSet ?s_TooMany_NoSet ?e_TooMany_NoSet ?s_TooMany_TooMany ?s_RoundError_TooMany ?e_RoundError_TooMany ?s_NoPivot_TooMany ?e_NoPivot_TooMany ?s_NoSet_TooMany ?e_NoSet_TooMany ?s_NoPivot_NoPivot ?s_RoundError_NoPivot ?e_RoundError_NoPivot ?s_NoSet_NoPivot ?e_NoSet_NoPivot ?s_TooMany_NoPivot ?e_TooMany_NoPivot ?s_RoundError_RoundError ?s_NoPivot_RoundError ?s_NoSet_RoundError ?s_TooMany_RoundError
    (case a0=>k_is)
    (case l0=>k_is)
    (case c0=>k_is)
    (case k0=>k_is)
    (case a1=>k_is)
    (case l1=>k_is)
    (case c1=>k_is)
    (case k1=>k_is)
    (case a2=>k_is)
    (case l2=>k_is)
    (case c2=>k_is)
    (case k2=>k_is)
    (case a3=>k_is)
    (case l3=>k_is)
    (case c3=>k_is)
    (case k3=>k_is)
    (case a4=>k_is)
    (case l4=>k_is)
    (case c4=>k_is)
    (case k4=>k_is)
    (case a5=>k_is)
    (case l5=>k_is)
    (case c5=>k_is)
    (case k5=>k_is)
    (case a6=>k_is)
    (case l6=>k_is)
    (case c6=>k_is)
    (case k6=>k_is)
    (case a7=>k_is)
    (case l7=>k_is)
    (case c7=>k_is)
    (case k7=>k_is)
    (case a8=>k_is)
    (case l8=>k_is)
    (case c8=>k_is)
    (case k8=>k_is)
    (case a9=>k_is)
    (case l9=>k_is)
    (case c9=>k_is)
    (case k9=>k_is)
    (case a10=>k_is)
    (case l10=>k_is)
    (case c10=>k_is)
    (case k10=>k_is)
    (case a11=>k_is)
    (case l11=>k_is)
    (case c11=>k_is)
    (case k11=>k_is)
    (case a12=>k_is)
    (case l12=>k_is)
    (case c12=>k_is)
    (case k12=>k_is)
    (case a13=>k_is)
    (case l13=>k_is)
    (case c13=>k_is)
    (case k13=>k_is)
    (case a14=>k_is)
    (case l14=>k_is)
    (case c14=>k_is)
    (case k14=>k_is)
    (case a15=>k_is)
    (case l15=>k_is)
    (case c15=>k_is)
    (case k15=>k_is)
    (case a16=>k_is)
    (case l16=>k_is)
    (case c16=>k_is)
    (case k16=>k_is)
    (case a17=>k_is)
    (case l17=>k_is)
    (case c17=>k_is)
    (case k17=>k_is)
    (case a18=>k_is)
    (case l18=>k_is)
    (case c18=>k_is)
    (case k18=>k_is)
    (case a19=>k_is)
    (case l19=>k_is)
    (case c19=>k_is)
    (case k19=>k_is)
    (case a20=>k_is)
    (case l20=>k_is)
    (case c20=>k_is)
    (case k20=>k_is)
    (case a21=>k_is)
    (case l21=>k_is)
    (case c21=>k_is)
    (case k21=>k_is)
    (case a22=>k_is)
    (case l22=>k_is)
    (case c22=>k_is)
    (case k22=>k_is)
    (case a23=>k_is)
    (case l23=>k_is)
    (case c23=>k_is)
    (case k23=>k_is)
    (case a24=>k_is)
    (case l24=>k_is)
    (case c24=>k_is)
    (case k24=>k_is)
    (case a25=>k_is)
    (case l25=>k_is)
    (case c25=>k_is)
    (case k25=>k_is)
    (case a26=>k_is)
    (case l26=>k_is)
    (case c26=>k_is)
    (case k26=>k_is)
    (case z0=>k_is)
    (case z1=>k_is)
    (case z2=>k_is)
    (case z3=>k_is)
    (case z4=>k_is)
    (case z5=>k_is)
    (case z6=>k_is)
    (case z7=>k_is)
    (case z8=>k_is)
    (case z9=>k_is)
    (case z10=>k_is)
    (case z11=>k_is)
    (case z12=>k_is)
    (case xa_RoundError=>k_is)
    (case xl_RoundError=>k_is)
    (case xd_RoundError=>rfl)
    (case xn_RoundError=>k_is)
    (case xo_RoundError=>rfl)
    (case xt_RoundError=>k_is)
    (case xg_RoundError=>k_is)
    (case xh_RoundError=>k_is)
    (case xj_RoundError=>k_is)
    (case xm_RoundError=>k_is)
    (case xp_RoundError=>k_is)
    (case xv_RoundError=>k_is)
    (case xw_RoundError=>k_is)
    (case xa_NoPivot=>k_is)
    (case xl_NoPivot=>k_is)
    (case xd_NoPivot=>rfl)
    (case xn_NoPivot=>k_is)
    (case xo_NoPivot=>rfl)
    (case xt_NoPivot=>k_is)
    (case xg_NoPivot=>k_is)
    (case xh_NoPivot=>k_is)
    (case xj_NoPivot=>k_is)
    (case xm_NoPivot=>k_is)
    (case xp_NoPivot=>k_is)
    (case xv_NoPivot=>k_is)
    (case xw_NoPivot=>k_is)
    (case xa_NoSet=>k_is)
    (case xl_NoSet=>k_is)
    (case xd_NoSet=>rfl)
    (case xn_NoSet=>k_is)
    (case xo_NoSet=>rfl)
    (case xt_NoSet=>k_is)
    (case xg_NoSet=>k_is)
    (case xh_NoSet=>k_is)
    (case xj_NoSet=>k_is)
    (case xm_NoSet=>k_is)
    (case xp_NoSet=>k_is)
    (case xv_NoSet=>k_is)
    (case xw_NoSet=>k_is)
    (case xa_TooMany=>k_is)
    (case xl_TooMany=>k_is)
    (case xd_TooMany=>rfl)
    (case xn_TooMany=>k_is)
    (case xo_TooMany=>rfl)
    (case xt_TooMany=>k_is)
    (case xg_TooMany=>k_is)
    (case xh_TooMany=>k_is)
    (case xj_TooMany=>k_is)
    (case xm_TooMany=>k_is)
    (case xp_TooMany=>k_is)
    (case xv_TooMany=>k_is)
    (case xw_TooMany=>k_is)
    (case ycg=>k_is)
    (case yct=>k_is)
    (case zk_NoSet=>k_is)
    (case zi_NoSet=>k_is)
    (case s_NoSet_NoSet=>k_is)
    (case s_RoundError_NoSet=>k_is)
    (case e_RoundError_NoSet=>rfl)
    (case s_NoPivot_NoSet=>k_is)
    (case e_NoPivot_NoSet=>rfl)
    (case s_TooMany_NoSet=>k_is)
    (case e_TooMany_NoSet=>rfl)
    (case s_TooMany_TooMany=>k_is)
    (case s_RoundError_TooMany=>k_is)
    (case e_RoundError_TooMany=>rfl)
    (case s_NoPivot_TooMany=>k_is)
    (case e_NoPivot_TooMany=>rfl)
    (case s_NoSet_TooMany=>k_is)
    (case e_NoSet_TooMany=>rfl)
    (case s_NoPivot_NoPivot=>k_is)
    (case s_RoundError_NoPivot=>k_is)
    (case e_RoundError_NoPivot=>rfl)
    (case s_NoSet_NoPivot=>k_is)
    (case e_NoSet_NoPivot=>rfl)
    (case s_TooMany_NoPivot=>k_is)
    (case e_TooMany_NoPivot=>rfl)
    (case s_RoundError_RoundError=>k_is)
    (case s_NoPivot_RoundError=>k_is)
    (case s_NoSet_RoundError=>k_is)
    (case s_TooMany_RoundError=>k_is)

