import PyProof.Rows.All
import Wide.All
import OpenK.AllK
import Wide.FinOn
import Lean
import PyProof.EqAt
import PyProof.EqKinds
import PyProof.TupleCall
import PyProof.NeKinds
import PySem.Challenge.RW_fourway_k82_whole_same_however_written
set_option Elab.async false
set_option linter.all false
set_option maxRecDepth 100000
namespace L2
open PySem PySem.Spec PyProof.Rows
abbrev Key:=Sum Int Str
def keyIs:Key → Value → Bool
  | .inl k,v=>Value.isInt k v
  | .inr x,v=>Value.isStrOf x v
def keyH (w:World):Key → Int
  | .inl k=>hashInt k
  | .inr x=>hashStr w x
theorem keyIs_shape:∀ {k:Key} {v:Value},keyIs k v = true → (∃ i t,k = Sum.inl i ∧ v = Value.int i t) ∨ (∃ x t,k = Sum.inr x ∧ v = Value.str x t)
  | .inl i,v,h=>by
    obtain ⟨t,e⟩:=Value.isInt_shape (k:=i) (v:=v) h
    exact .inl ⟨i,t,rfl,e⟩
  | .inr x,v,h=>by
    obtain ⟨t,e⟩:=Value.isStrOf_shape (x:=x) (v:=v) h
    exact .inr ⟨x,t,rfl,e⟩
theorem key_ll (a b:Int):decide ((Sum.inl a:Key) = Sum.inl b) = (a == b):=by
  by_cases e:a = b
  · subst e; simp
  · have h:¬ (Sum.inl a:Key) = Sum.inl b:=fun q=>e (Sum.inl.inj q)
    rw [decide_eq_false h]
    exact (beq_eq_false_iff_ne.mpr e).symm
theorem key_rr (a b:Str):decide ((Sum.inr a:Key) = Sum.inr b) = decide (a = b):=by
  by_cases e:a = b
  · subst e; simp
  · have h:¬ (Sum.inr a:Key) = Sum.inr b:=fun q=>e (Sum.inr.inj q)
    rw [decide_eq_false h,decide_eq_false e]
theorem key_lr (a:Int) (b:Str):decide ((Sum.inl a:Key) = Sum.inr b) = false:=decide_eq_false (fun q=>nomatch q)
theorem key_rl (a:Str) (b:Int):decide ((Sum.inr a:Key) = Sum.inl b) = false:=decide_eq_false (fun q=>nomatch q)
def mixKind (prog:Program) (w:World):PySem.KeyKind prog w Key where
  is:=keyIs
  hash:=keyH w
  inj:=fun v a b ha hb=>by
    rcases keyIs_shape ha with ⟨i,t,rfl,rfl⟩ | ⟨x,t,rfl,rfl⟩
    · rcases keyIs_shape hb with ⟨j,u,rfl,e⟩ | ⟨y,u,rfl,e⟩
      · injection e with e1 _; rw [e1]
      · exact nomatch e
    · rcases keyIs_shape hb with ⟨j,u,rfl,e⟩ | ⟨y,u,rfl,e⟩
      · exact nomatch e
      · injection e with e1 _; rw [e1]
  byValue:=fun k v h=>by
    rcases keyIs_shape h with ⟨i,t,rfl,rfl⟩ | ⟨x,t,rfl,rfl⟩ <;> rfl
  pyHash:=fun hv h=>by
    rcases keyIs_shape hv with ⟨i,t,rfl,rfl⟩ | ⟨x,t,rfl,rfl⟩
    · exact wpAny_pyHash_int h
    · exact wpAny_pyHash_str h
  eqBool:=fun hu hv h=>by
    rcases keyIs_shape hu with ⟨i,t,rfl,rfl⟩ | ⟨x,t,rfl,rfl⟩
    · rcases keyIs_shape hv with ⟨j,u,rfl,rfl⟩ | ⟨y,u,rfl,rfl⟩
      · rw [key_ll] at h; exact wpAny_eqBool_int h
      · rw [key_lr] at h; exact SeqAt.EqAt.int_str i t y u _ _ _ _ h
    · rcases keyIs_shape hv with ⟨j,u,rfl,rfl⟩ | ⟨y,u,rfl,rfl⟩
      · rw [key_rl] at h; exact SeqAt.EqAt.str_int x t j u _ _ _ _ h
      · rw [key_rr] at h; exact wpAny_eqBool_str h
  «strs»:=fun k x t v h=>by
    rcases keyIs_shape h with ⟨i,u,rfl,e⟩ | ⟨y,u,rfl,e⟩
    · exact nomatch e
    · injection e with e1 _
      subst e1
      cases v <;> rfl
end L2
namespace L2
open PySem PySem.Spec PyProof.Rows
inductive V where
  | non | bl (b:Bool) | int (i:Int) | str (x:Str) | byt (b:Array UInt8) | flt (b:UInt64) | ref (a:Addr) | ty (n:String)
  deriving DecidableEq
def RelV:V → Value → Prop
  | .non,u=>u = Value.none
  | .bl b,u=>u = Value.bool b
  | .int i,u=>∃ t,u = Value.int i t
  | .str x,u=>∃ t,u = Value.str x t
  | .byt b,u=>∃ t,u = Value.bytes b t
  | .flt b,u=>∃ t,u = Value.float b t
  | .ref a,u=>u = Value.ref a
  | .ty n,u=>u = Value.type n
abbrev Vals:List V → List Value → Prop:=Paired RelV
theorem Vals.length {xs:List V} {us:List Value} (r:Vals xs us):xs.length = us.length:=Paired.length r
theorem Vals.get:∀ {xs:List V} {us:List Value} {i:Nat} {x:V},Vals xs us → xs[i]? = some x → ∃ u,us[i]? = some u ∧ RelV x u
  | _,_,_,_,.nil,e=>by simp at e
  | _,_,0,_,.cons r _,e=>by simp at e; subst e; exact ⟨_,rfl,r⟩
  | _,_,i + 1,x,.cons _ t,e=>by
    obtain ⟨u,h1,h2⟩:=Vals.get (i:=i) (x:=x) t (by simpa using e)
    exact ⟨u,by simpa using h1,h2⟩
theorem Vals.append:∀ {xs ys:List V} {us ws:List Value},Vals xs us → Vals ys ws → Vals (xs ++ ys) (us ++ ws)
  | _,_,_,_,.nil,s=>s
  | _,_,_,_,.cons r t,s=>.cons r (Vals.append t s)
theorem Vals.take:∀ {xs:List V} {us:List Value} (n:Nat),Vals xs us → Vals (xs.take n) (us.take n)
  | _,_,0,_=>.nil
  | _,_,_ + 1,.nil=>.nil
  | _,_,n + 1,.cons r t=>.cons r (Vals.take n t)
theorem Vals.drop:∀ {xs:List V} {us:List Value} (n:Nat),Vals xs us → Vals (xs.drop n) (us.drop n)
  | _,_,0,r=>r
  | _,_,_ + 1,.nil=>.nil
  | _,_,n + 1,.cons _ t=>Vals.drop n t
def RelO:Option V → Option Value → Prop
  | some v,some u=>RelV v u
  | none,none=>True
  | _,_=>False
def KV {κ:Type}:List (κ × V) → List (κ × Value) → Prop:=Paired fun (p:κ × V) (q:κ × Value)=>p.1 = q.1 ∧ RelV p.2 q.2
def kV:Key → V
  | .inl i=>.int i
  | .inr x=>.str x
inductive HO where
  | lst (xs:List V)
  | tup (xs:List V)
  | dK (kvs:List (Key × V)) | dT (kvs:List (List Key × V))
  | set (S:Int → Bool) (n:Nat)
  | ins (C dx:Addr) (fs:List (Str × V))
  | own (x:Addr)
  | xd (fs:List (Str × V))
  | met (f x:Addr)
  | rng (lo hi:Int)
  | frz (o:Obj) (u:HO)
  | tbl (ps:Array Value)
  | ext (φ:Heap → Prop)
abbrev Hp:=Addr → Option HO
def upd (H:Hp) (a:Addr) (o:HO):Hp:=fun b=>if b = a then some o else H b
theorem upd_same {H:Hp} {a:Addr} {o:HO}:upd H a o a = some o:=by unfold upd; rw [if_pos rfl]
theorem upd_ne {H:Hp} {a b:Addr} {o:HO} (h:b ≠ a):upd H a o b = H b:=by unfold upd; rw [if_neg h]
theorem ne_of {H:Hp} {a b:Addr} {o u:HO} (h:H a = some o) (h':H b = some u) (d:o ≠ u):a ≠ b:=by
  intro e; subst e; rw [h] at h'; exact d (Option.some.inj h')
theorem ne_of_none {H:Hp} {a b:Addr} {o:HO} (h:H a = some o) (h':H b = none):a ≠ b:=by
  intro e; subst e; rw [h] at h'; cases h'
section
variable (P:Program) (w:World)
def ObjOk (H:Hp) (h:Heap) (a:Addr):HO → Prop
  | .lst xs=>xs.length ≤ sizeLine ∧ ∃ (its:List Value) (n:Nat),Vals xs its ∧ h.get? a = some { cls:=.type "list",data:=.seq its.toArray n }
  | .tup xs=>xs.length ≤ sizeLine ∧ ∃ its:List Value,Vals xs its ∧ IsTup h a its.toArray
  | .dK kvs=>kvs.length ≤ sizeLine ∧ (a == sysModules) = false ∧ ∃ vs,KV kvs vs ∧ h.DictOf (mixKind P w) a vs
  | .dT kvs=>kvs.length ≤ sizeLine ∧ (a == sysModules) = false ∧ ∃ xs:List (List Key × Addr × Value),
      Paired (fun (p:List Key × V) (q:List Key × Addr × Value)=>p.1 = q.1 ∧ H q.2.1 = some (.tup (p.1.map kV)) ∧ RelV p.2 q.2.2) kvs xs ∧
      ∃ o es ep,h.get? a = some o ∧ o.ExactDict ∧ o.data = .dict es ep ∧ es.toList = xs.map (entryOfKey (tupleKind (mixKind P w))) ∧ (xs.map (·.1)).Nodup
  | .set S n=>h.SetOf (intKind P w) a S n
  | .ins C dx fs=>H dx = some (.own a) ∧ fs.length ≤ 1000 ∧ dx ≠ a ∧ h.get? a = some (PySem.W.instObj C dx) ∧
      ∃ mA,h.Ns1 dx mA ∧ (∀ f,RelO (fs.lookup f) (mA f)) ∧ PySem.Within mA (fs.map (·.1))
  | .own _=>∃ o,h.get? a = some o
  | .xd fs=>∃ mA,h.Ns1 a mA ∧ ∀ f,RelO (fs.lookup f) (mA f)
  | .rng lo hi=>∃ t u v,h.get? a = some { cls:=.type "range",data:=.fields #[.int lo t,.int hi u,.int 1 v] }
  | .frz o u=>h.get? a = some o ∧ ObjOk H h a u
  | .tbl ps=>h.get? a = some { cls:=.none,data:=.fields ps }
  | .met f x=>h.get? a = some (PySem.W.methodObj (.ref f) (.ref x))
  | .ext φ=>φ h ∧ (∃ o,h.get? a = some o) ∧ ∀ h1 h2:Heap,φ h1 → (∀ o,h1.get? a = some o → h2.get? a = some o) → φ h2
def HOk (H:Hp) (h:Heap):Prop:=∀ a o,H a = some o → ObjOk P w H h a o
end
section
variable {P:Program} {w:World} {H H':Hp} {h h':Heap} {a:Addr} {o:HO}
theorem ObjOk.lt (x:ObjOk P w H h a o):a < h.objs.size:=by
  cases o with
  | lst xs=>obtain ⟨_,_,_,_,e⟩:=x; exact Heap.lt_size e
  | tup xs=>obtain ⟨_,_,_,p⟩:=x; exact p.lt
  | dK kvs=>obtain ⟨_,_,_,_,o,_,_,e,_⟩:=x; exact Heap.lt_size e
  | dT kvs=>obtain ⟨_,_,_,_,o,_,_,e,_⟩:=x; exact Heap.lt_size e
  | set S n=>obtain ⟨o,_,_,_,e,_⟩:=x; exact Heap.lt_size e
  | ins C dx fs=>obtain ⟨_,_,_,e,_⟩:=x; exact Heap.lt_size e
  | own y=>obtain ⟨_,e⟩:=x; exact Heap.lt_size e
  | xd fs=>obtain ⟨_,⟨_,_,_,e,_⟩,_⟩:=x; exact Heap.lt_size e
  | rng lo hi=>obtain ⟨_,_,_,e⟩:=x; exact Heap.lt_size e
  | frz ob u=>obtain ⟨e,_⟩:=x; exact Heap.lt_size e
  | tbl ps=>exact Heap.lt_size (show h.get? a = some _ from x)
  | met f y=>exact Heap.lt_size (show h.get? a = some _ from x)
  | ext φ=>obtain ⟨_,⟨_,e⟩,_⟩:=x; exact Heap.lt_size e
theorem Paired.mapP {α β:Type} {F G:α → β → Prop}:∀ {l₁:List α} {l₂:List β},Paired F l₁ l₂ → (∀ a b,F a b → G a b) → Paired G l₁ l₂
  | _,_,.nil,_=>.nil
  | _,_,.cons r t,f=>.cons (f _ _ r) (Paired.mapP t f)
theorem ObjOk.stay (x:ObjOk P w H h a o) (k:∀ b u,(b = a ∨ H b = some (.own a)) → h.get? b = some u → h'.get? b = some u)
    (ho:∀ b,H b = some (.own a) → H' b = some (.own a)) (ht:∀ b xs,H b = some (.tup xs) → H' b = some (.tup xs)):ObjOk P w H' h' a o:=by
  induction o with
  | lst xs=>obtain ⟨z,its,n,r,e⟩:=x; exact ⟨z,its,n,r,k _ _ (.inl rfl) e⟩
  | tup xs=>obtain ⟨z,its,r,ob,e,c⟩:=x; exact ⟨z,its,r,ob,k _ _ (.inl rfl) e,c⟩
  | dK kvs=>obtain ⟨z,y,vs,r,ob,es,ep,e,c⟩:=x; exact ⟨z,y,vs,r,ob,es,ep,k _ _ (.inl rfl) e,c⟩
  | dT kvs =>
    obtain ⟨z,y,xs,r,ob,es,ep,e,c⟩:=x
    exact ⟨z,y,xs,Paired.mapP r fun p q z=>⟨z.1,ht _ _ z.2.1,z.2.2⟩,ob,es,ep,k _ _ (.inl rfl) e,c⟩
  | set S n=>obtain ⟨ob,es,ep,t,e,c⟩:=x; exact ⟨ob,es,ep,t,k _ _ (.inl rfl) e,c⟩
  | ins C dx fs =>
    obtain ⟨d,z,ne,e,mA,⟨od,es,ep,e2,c⟩,r⟩:=x
    exact ⟨ho _ d,z,ne,k _ _ (.inl rfl) e,mA,⟨od,es,ep,k _ _ (.inr d) e2,c⟩,r⟩
  | own y=>obtain ⟨ob,e⟩:=x; exact ⟨ob,k _ _ (.inl rfl) e⟩
  | xd fs=>obtain ⟨mA,⟨od,es,ep,e,c⟩,r⟩:=x; exact ⟨mA,⟨od,es,ep,k _ _ (.inl rfl) e,c⟩,r⟩
  | rng lo hi=>obtain ⟨t,u,v,e⟩:=x; exact ⟨t,u,v,k _ _ (.inl rfl) e⟩
  | frz ob u ih=>obtain ⟨e,q⟩:=x; exact ⟨k _ _ (.inl rfl) e,ih q⟩
  | tbl ps =>
    have e:h.get? a = some { cls:=.none,data:=.fields ps }:=x
    show h'.get? a = some { cls:=.none,data:=.fields ps }
    exact k a _ (.inl rfl) e
  | met f y =>
    have e:h.get? a = some (PySem.W.methodObj (.ref f) (.ref y)):=x
    show h'.get? a = some (PySem.W.methodObj (.ref f) (.ref y))
    exact k a _ (.inl rfl) e
  | ext φ=>obtain ⟨p,⟨o,e⟩,st⟩:=x; exact ⟨st _ _ p fun o q=>k _ _ (.inl rfl) q,⟨o,k _ _ (.inl rfl) e⟩,st⟩
theorem HOk.lt (x:HOk P w H h) (e:H a = some o):a < h.objs.size:=(x a o e).lt
theorem HOk.fresh (x:HOk P w H h) (e:h.objs.size ≤ a):H a = none:=by
  cases q:H a with
  | none=>rfl
  | some u=>exact absurd (Nat.lt_of_lt_of_le (x.lt q) e) (Nat.lt_irrefl _)
theorem HOk.kept (x:HOk P w H h) (k:∀ b u,h.get? b = some u → h'.get? b = some u):HOk P w H h':=fun a o e =>
  (x a o e).stay (fun b u _ q=>k b u q) (fun _ q=>q) fun _ _ q=>q
theorem HOk.laid (x:HOk P w H h) (k:∀ b u,h.get? b = some u → h'.get? b = some u) (hp:h.objs.size ≤ a) (new:ObjOk P w (upd H a o) h' a o):HOk P w (upd H a o) h':=fun b u e=>by
  have hn:=x.fresh hp
  by_cases hb:b = a
  · subst hb; rw [upd_same] at e; cases e; exact new
  · rw [upd_ne hb] at e
    exact (x b u e).stay (fun c v _ q=>k c v q) (fun c q=>by rw [upd_ne (ne_of_none q hn)]; exact q) fun c xs q=>by rw [upd_ne (ne_of_none q hn)]; exact q
end
def Rd (H:Hp) (a:Addr) (u:HO):Prop:=H a = some u ∨ ∃ o,H a = some (.frz o u)
theorem Rd.ok {P:Program} {w:World} {H:Hp} {h:Heap} {a:Addr} {u:HO} (r:Rd H a u) (x:HOk P w H h):ObjOk P w H h a u:=by
  rcases r with r | ⟨o,r⟩
  · exact x a u r
  · obtain ⟨_,q⟩:=x a _ r
    exact q
def Mut:Option HO → Prop
  | some (.lst _)=>True
  | some (.dK _)=>True
  | some (.dT _)=>True
  | some (.set _ _)=>True
  | some (.ins _ _ _)=>True
  | some (.ext _)=>True
  | _=>False
section
variable {P:Program} {w:World} {H:Hp} {h h':Heap} {x e:Addr} {o':HO}
theorem HOk.write (ok:HOk P w H h) (mu:Mut (H x)) (he:e = x ∨ H e = some (.own x)) (k:∀ b u,b ≠ e → h.get? b = some u → h'.get? b = some u) (heo:∃ u,h'.get? e = some u)
    (new:ObjOk P w (upd H x o') h' x o'):HOk P w (upd H x o') h':=fun b u q=>by
  have nown:∀ c y,H c = some (.own y) → c ≠ x:=fun c y r z=>by subst z; rw [r] at mu; exact mu
  have ntup:∀ c xs,H c = some (.tup xs) → c ≠ x:=fun c xs r z=>by subst z; rw [r] at mu; exact mu
  by_cases hb:b = x
  · subst hb; rw [upd_same] at q; cases q; exact new
  · rw [upd_ne hb] at q
    by_cases hbe:b = e
    · have q':H b = some (.own x):=by
        rcases he with z | z
        · exact absurd (hbe.trans z) hb
        · rw [hbe]; exact z
      rw [q] at q'; cases q'
      obtain ⟨v,hv⟩:=heo
      exact ⟨v,by rw [hbe]; exact hv⟩
    · refine (ok b u q).stay (fun c v hc r=>k c v ?_ r) (fun c r=>by rw [upd_ne (nown c b r)]; exact r) fun c xs r=>by rw [upd_ne (ntup c xs r)]; exact r
      rcases hc with rfl | hc
      · exact hbe
      · rintro rfl
        rcases he with z | z
        · exact nown c b hc z
        · rw [hc] at z; cases z; exact hb rfl
end
structure Un (fs ex:List Addr) (H H':Hp) (h h':Heap):Prop where
  keep:∀ b o,h.get? b = some o → H b = none → b ∉ fs → b ∉ ex → h'.get? b = some o
  slot:∀ b o,h.get? b = some o → H b = none → b ∈ fs → b ∉ ex → ∃ sl,h'.get? b = some { o with slots:=sl }
  free:∀ b o,h.get? b = some o → H b = none → b ∉ ex → H' b = none
  there:∀ b o,h.get? b = some o → b ∉ ex → ∃ o',h'.get? b = some o'
  tups:∀ b xs,H b = some (.tup xs) → H' b = some (.tup xs)
  frzs:∀ b o u,H b = some (.frz o u) → H' b = some (.frz o u)
  tbls:∀ b ps,H b = some (.tbl ps) → ∃ more,H' b = some (.tbl (ps ++ more))
section
variable {fs fs' ex ex':List Addr} {H H1 H2:Hp} {h h1 h2 h':Heap} {a x e:Addr} {o:HO}
theorem Un.any (u:Un fs ex H H1 h h1) {b:Addr} {ob:Obj} (q:h.get? b = some ob) (n:H b = none) (hx:b ∉ ex):∃ sl,h1.get? b = some { ob with slots:=sl }:=by
  by_cases hb:b ∈ fs
  · exact u.slot b ob q n hb hx
  · exact ⟨ob.slots,u.keep b ob q n hb hx⟩
theorem Un.kept (k:∀ b u,h.get? b = some u → h'.get? b = some u):Un fs ex H H h h' :=
  ⟨fun b ob q _ _ _=>k b ob q,fun b ob q _ _ _=>⟨ob.slots,k b ob q⟩,fun _ _ _ n _=>n,fun b ob q _=>⟨ob,k b ob q⟩,fun _ _ q=>q,fun _ _ _ q=>q,fun _ ps q=>⟨#[],by rw [q]; simp⟩⟩
theorem Un.refl:Un fs ex H H h h:=Un.kept fun _ _ q=>q
theorem Un.laid (k:∀ b u,h.get? b = some u → h'.get? b = some u) (hp:h.objs.size ≤ a) (hn:H a = none):Un fs ex H (upd H a o) h h' where
  keep:=fun b u q _ _ _=>k b u q
  slot:=fun b u q _ _ _=>⟨u.slots,k b u q⟩
  free:=fun b u q n _=>by rw [upd_ne (Nat.ne_of_lt (Nat.lt_of_lt_of_le (Heap.lt_size q) hp))]; exact n
  there:=fun b u q _=>⟨u,k b u q⟩
  tups:=fun b xs q=>by rw [upd_ne (ne_of_none q hn)]; exact q
  frzs:=fun b u xs q=>by rw [upd_ne (ne_of_none q hn)]; exact q
  tbls:=fun b ps q=>⟨#[],by rw [upd_ne (ne_of_none q hn),q]; simp⟩
theorem Un.write (mu:Mut (H x)) (he:e = x ∨ H e = some (.own x)) (k:∀ b u,b ≠ e → h.get? b = some u → h'.get? b = some u) (heo:∃ u,h'.get? e = some u):Un fs ex H (upd H x o) h h':=by
  have hx:∀ b,H b = none → b ≠ x:=fun b n z=>by subst z; rw [n] at mu; exact mu
  have hb:∀ b,H b = none → b ≠ e:=fun b n z=>by
    subst z
    rcases he with r | r
    · exact hx b n r
    · rw [n] at r; cases r
  have hm:∀ b u,H b = some u → ¬ Mut (some u) → b ≠ x:=fun b u q nm z=>by subst z; rw [q] at mu; exact nm mu
  refine ⟨fun b u q n _ _=>k b u (hb b n) q,fun b u q n _ _=>⟨u.slots,k b u (hb b n) q⟩,fun b u q n _=>by rw [upd_ne (hx b n)]; exact n,fun b u q _=>?_,
    fun b xs q=>by rw [upd_ne (hm b _ q fun z=>z)]; exact q,fun b u xs q=>by rw [upd_ne (hm b _ q fun z=>z)]; exact q,fun b ps q=>⟨#[],by rw [upd_ne (hm b _ q fun z=>z),q]; simp⟩⟩
  by_cases hbe:b = e
  · subst hbe; exact heo
  · exact ⟨u,k b u hbe q⟩
end
def trk (h:Heap) (H:Hp):List Addr:=(List.range h.objs.size).filter fun a=>(H a).isSome
def hidT (h:Heap) (H:Hp):Heap:=PySem.W.hideAll h (trk h H)
theorem hidT_size (h:Heap) (H:Hp):(hidT h H).objs.size = h.objs.size:=PySem.W.hideAll_size _ _
theorem hidT_get {h:Heap} {H:Hp} {b:Addr} {o:Obj} (e:h.get? b = some o) (n:H b = none):(hidT h H).get? b = some o :=
  PySem.W.hideAll_get _ e fun hm=>by
    have q:(H b).isSome = true:=(List.mem_filter.mp hm).2
    rw [n] at q; simp at q
theorem of_hidT {h:Heap} {H:Hp} {b:Addr} {o:Obj} (e:(hidT h H).get? b = some o):h.get? b = some o ∧ H b = none:=by
  have e':h.get? b = some o:=PySem.W.of_hideAll (trk h H) e
  refine ⟨e',?_⟩
  cases q:H b with
  | none=>rfl
  | some x =>
    have hm:b ∈ trk h H:=List.mem_filter.mpr ⟨List.mem_range.mpr (Heap.lt_size e'),by simp [q]⟩
    have z:(hidT h H).get? b = none:=PySem.W.hideAll_none (trk h H) hm
    rw [z] at e; cases e
def allNews (g h:Heap) (L:Addr):List (Addr × Obj):=(List.range h.objs.size).filterMap fun a=>if a = L ∨ (g.get? a).isSome = true then none else (h.get? a).map fun o=>(a,o)
def rest (g h:Heap) (L d:Addr):List (Addr × Obj):=(allNews g h L).filter fun p=>decide (p.1 ≠ d)
end L2
namespace L2
open PySem PySem.Spec PyProof.Rows
structure Mod (K:PySem.W.Frag) (mg:Str → Option Value) (base:Heap):Prop where
  kin:K.In base
  glob:base.Ns mainGlobals mg
  blt:∃ mb,base.Ns builtinsNs mb ∧ ∀ x:Str,x ≠ "__name__" → mb x = bootBuiltins x
  nolimit:base.NoLimit
structure Cx where
  prog:Program
  w:World
  K:PySem.W.Frag
  mg:Str → Option Value
  base:Heap
  A:Around
  N:List Str
  s₀:Shared
  H₀:Hp
  env:Env
  outer:List Env
  stack:List Env
  ex:List Addr
  fn:Str → Bool
  calm:Bool
  pn:List (Addr × Obj)
  xe:Value → Shared → Prop
def frs (l:List Env):List Addr:=l.filterMap (·.frame)
abbrev Cx.fs (X:Cx):List Addr:=frs X.outer
def Vis (sc:Scope) (x:Str):Prop:=sc.names.lookup x = some .local ∨ sc.names.lookup x = some .cell ∨ sc.names.lookup x = some .free
def Loc (sc:Scope) (x:Str):Prop:=sc.names.lookup x = some .local ∨ sc.names.lookup x = some .cell
def Look (env:Env) (h:Heap) (m:Str → Option Value) (x:Str) (u:Value):Prop :=
  (env.kindOf x = some .local ∧ m x = some u) ∨ ((env.kindOf x = some .cell ∨ env.kindOf x = some .free) ∧ ∃ c,env.cells.lookup x = some c ∧ h.IsCell c (some u))
structure Cx.Ok (X:Cx):Prop where
  mod:Mod X.K X.mg X.base
  kind:X.env.scope.kind = .function
  glob:X.env.globals = mainGlobals
  blt:X.env.builtins = builtinsNs
  above:X.s₀.heap.objs.size ≤ X.env.locals
  inj:∀ x y c,X.env.cells.lookup x = some c → X.env.cells.lookup y = some c → x = y
  has:∀ x,(X.env.kindOf x = some .cell ∨ X.env.kindOf x = some .free) → ∃ c,X.env.cells.lookup x = some c
  cab:∀ x c,X.fn x = true → X.env.cells.lookup x = some c → X.s₀.heap.objs.size ≤ c
  hd:X.calm = true → X.A.handled = none
  frames:X.A.frames = some X.stack
  stk:X.stack = X.outer ∨ (X.stack = X.env :: X.outer ∧ X.env.frame = some X.env.locals)
  exf:∀ b ∈ X.ex,b ≠ X.env.locals ∧ ∀ x c,X.env.cells.lookup x = some c → c ≠ b
  bs:∀ b o,X.base.get? b = some o → X.s₀.heap.get? b = some o ∧ X.H₀ b = none
  bsz:X.base.objs.size ≤ X.s₀.heap.objs.size
  noex:∀ b o,X.base.get? b = some o → b ∉ X.ex
  exfs:∀ b ∈ X.ex,b ∉ X.fs
  funs:X.s₀.heap.FunFrames X.base X.outer
  frf:∀ b ∈ X.fs,X.H₀ b = none
structure Inv (X:Cx) (pins:List (Addr × Obj)) (σ:List (Option V)) (H:Hp) (s:Shared):Prop where
  ok:X.Ok
  os:s.os = X.s₀.os
  bare:AllBare s.gens
  base:Un X.fs X.ex X.H₀ H X.s₀.heap s.heap
  loc:∃ m,s.heap.Ns X.env.locals m ∧ ∀ (i:Nat) (x:Str) (v:V),X.N[i]? = some x → σ[i]? = some (some v) → Vis X.env.scope x → ∃ u,RelV v u ∧ Look X.env s.heap m x u
  cell:∀ x c,X.env.cells.lookup x = some c → ∃ v,s.heap.IsCell c v
  free:H X.env.locals = none
  freeC:∀ x c,X.env.cells.lookup x = some c → H c = none
  pin:∀ p ∈ X.pn ++ pins,s.heap.get? p.1 = some p.2 ∧ H p.1 = none ∧ p.1 ≠ X.env.locals ∧ p.1 ∉ X.fs ∧ ∀ v,p.2.data ≠ .cell v
  hok:HOk X.prog X.w H s.heap
  len:σ.length = X.N.length
section
variable {X:Cx} {pins:List (Addr × Obj)} {σ:List (Option V)} {H H':Hp} {s:Shared} {h':Heap}
theorem Cx.Ok.nofr (ok:X.Ok) {b:Addr} {o:Obj} (e:X.base.get? b = some o):b ∉ X.fs:=fun hb=>by
  have:=(ok.funs.mem hb).1
  rw [e] at this; cases this
theorem Inv.bs (I:Inv X pins σ H s):∀ b o,X.base.get? b = some o → s.heap.get? b = some o ∧ H b = none:=fun b o e =>
  ⟨I.base.keep b o (I.ok.bs b o e).1 (I.ok.bs b o e).2 (I.ok.nofr e) (I.ok.noex b o e),I.base.free b o (I.ok.bs b o e).1 (I.ok.bs b o e).2 (I.ok.noex b o e)⟩
theorem Inv.bk (I:Inv X pins σ H s):∀ b o,X.base.get? b = some o → s.heap.get? b = some o:=fun b o e=>(I.bs b o e).1
theorem Inv.mod (I:Inv X pins σ H s):Mod X.K X.mg X.base:=I.ok.mod
theorem Inv.kIn (I:Inv X pins σ H s):X.K.In s.heap:=I.ok.mod.kin.keeps I.bk
theorem Inv.fr (I:Inv X pins σ H s):∃ m,Fr X.base X.env.locals s.heap m :=
  let ⟨m,hn,_⟩:=I.loc
  ⟨m,hn,I.bk,Nat.le_trans I.ok.bsz I.ok.above⟩
theorem Inv.lt (I:Inv X pins σ H s):X.env.locals < s.heap.objs.size:=let ⟨_,hn,_⟩:=I.loc; hn.lt
theorem Inv.sz (I:Inv X pins σ H s):X.s₀.heap.objs.size ≤ s.heap.objs.size:=Nat.le_trans I.ok.above (Nat.le_of_lt I.lt)
theorem Inv.nofs (I:Inv X pins σ H s) {a:Addr} (h:s.heap.objs.size ≤ a):a ∉ X.fs:=fun hb=>by
  obtain ⟨_,o,ho,_⟩:=I.ok.funs.mem hb
  exact absurd (Nat.lt_of_lt_of_le (Heap.lt_size ho) (Nat.le_trans I.sz h)) (Nat.lt_irrefl _)
theorem Inv.cne (I:Inv X pins σ H s):∀ x c,X.env.cells.lookup x = some c → c ≠ X.env.locals:=fun x c e z=>by
  obtain ⟨v,o,ho,hd⟩:=I.cell x c e
  obtain ⟨m,⟨o',es,ep,ho',hd',_⟩,_⟩:=I.loc
  rw [z,ho'] at ho; cases ho; rw [hd'] at hd; cases hd
theorem Inv.funs (I:Inv X pins σ H s):s.heap.FunFrames X.base X.outer:=by
  have all:∀ (l:List Env),(∀ b ∈ frs l,b ∈ X.fs) → X.s₀.heap.FunFrames X.base l → s.heap.FunFrames X.base l:=by
    intro l
    induction l with
    | nil=>intro _ _; trivial
    | cons env r ih =>
      intro hs hl
      obtain ⟨hk,⟨L,o,hf,hn,ho,hd⟩,hr⟩:=hl
      have hL:L ∈ X.fs:=hs L (by unfold frs; rw [List.filterMap_cons,hf]; exact List.mem_cons_self)
      obtain ⟨sl,e⟩:=I.base.slot L o ho (I.ok.frf L hL) hL fun z=>I.ok.exfs L z hL
      exact ⟨hk,⟨L,_,hf,hn,e,hd⟩,ih (fun b hb=>hs b (by unfold frs; rw [List.filterMap_cons,hf]; exact List.mem_cons_of_mem _ hb)) hr⟩
  exact all X.outer (fun _ hb=>hb) I.ok.funs
theorem Inv.stack (I:Inv X pins σ H s):s.heap.FunFrames X.base X.stack:=by
  rcases I.ok.stk with e | ⟨e,hf⟩
  · rw [e]; exact I.funs
  · rw [e]
    obtain ⟨m,hn,_⟩:=I.loc
    refine .cons (by rw [I.ok.kind]; decide) hf hn ?_ I.funs
    exact Heap.get?_none_of_le (Nat.le_trans I.ok.bsz I.ok.above)
theorem Inv.stkSub (I:Inv X pins σ H s):∀ b ∈ frs X.stack,b ∈ X.env.locals :: X.fs:=fun b hb=>by
  rcases I.ok.stk with e | ⟨e,hf⟩
  · rw [e] at hb; exact List.mem_cons_of_mem _ hb
  · rw [e] at hb
    unfold frs at hb
    rw [List.filterMap_cons,hf] at hb
    exact hb
theorem Inv.stkFree (I:Inv X pins σ H s):∀ b ∈ frs X.stack,H b = none:=fun b hb=>by
  rcases List.mem_cons.mp (I.stkSub b hb) with e | hb
  · rw [e]; exact I.free
  · obtain ⟨_,o,ho,_⟩:=I.ok.funs.mem hb
    exact I.base.free b o ho (I.ok.frf b hb) fun z=>I.ok.exfs b z hb
theorem Inv.step {g':Array GenState} {t':Nat} {d':Drawn} {ch:List Addr} (I:Inv X pins σ H s)
    (hch:∀ b ∈ ch,(b ∈ X.ex ∨ X.s₀.heap.objs.size ≤ b) ∧ b ≠ X.env.locals ∧ (∀ x c,X.env.cells.lookup x = some c → c ≠ b) ∧ ∀ p ∈ X.pn ++ pins,p.1 ≠ b)
    (keep:∀ b o,b ≠ X.env.locals → b ∉ X.fs → b ∉ ch → s.heap.get? b = some o → H b = none → h'.get? b = some o)
    (slot:∀ b o,b ≠ X.env.locals → b ∈ X.fs → b ∉ ch → s.heap.get? b = some o → H b = none → ∃ sl,h'.get? b = some { o with slots:=sl }) (free:∀ b o,b ∉ ch → s.heap.get? b = some o → H b = none → H' b = none)
    (there:∀ b o,b ∉ ch → s.heap.get? b = some o → ∃ o',h'.get? b = some o')
    (tups:∀ b xs,H b = some (.tup xs) → H' b = some (.tup xs)) (frzs:∀ b o u,H b = some (.frz o u) → H' b = some (.frz o u)) (tbls:∀ b ps,H b = some (.tbl ps) → ∃ more,H' b = some (.tbl (ps ++ more)))
    (ns:∀ m,s.heap.Ns X.env.locals m → h'.Ns X.env.locals m) (hok:HOk X.prog X.w H' h') (hg:AllBare g') :
    Inv X pins σ H' { s with heap:=h',gens:=g',drawn:=d',toks:=t' }:=by
  have neL:∀ b o,X.s₀.heap.get? b = some o → b ≠ X.env.locals:=fun b o e=>Nat.ne_of_lt (Nat.lt_of_lt_of_le (Heap.lt_size e) I.ok.above)
  have neC:∀ b o,X.s₀.heap.get? b = some o → b ∉ X.ex → b ∉ ch:=fun b o e hx hb=>by
    rcases (hch b hb).1 with z | z
    · exact hx z
    · exact absurd (Nat.lt_of_lt_of_le (Heap.lt_size e) z) (Nat.lt_irrefl _)
  have cellK:∀ x c,X.env.cells.lookup x = some c → ∀ v,s.heap.IsCell c v → h'.IsCell c v:=fun x c e v ⟨o,ho,hd⟩=>by
    have nch:c ∉ ch:=fun z=>(hch c z).2.2.1 x c e rfl
    by_cases hc:c ∈ X.fs
    · obtain ⟨sl,q⟩:=slot c o (I.cne x c e) hc nch ho (I.freeC x c e)
      exact ⟨_,q,hd⟩
    · exact ⟨o,keep c o (I.cne x c e) hc nch ho (I.freeC x c e),hd⟩
  refine ⟨I.ok,I.os,hg,⟨fun b o e n hb hx=>?_,fun b o e n hb hx=>?_,fun b o e n hx=>?_,fun b o e hx=>?_,fun b xs e=>tups b xs (I.base.tups b xs e),fun b o xs e=>frzs b o xs (I.base.frzs b o xs e),fun b ps e=>?_⟩,?_,fun x c e=>?_,?_,fun x c e=>?_,fun p hp=>?_,hok,I.len⟩
  · exact keep b o (neL b o e) hb (neC b o e hx) (I.base.keep b o e n hb hx) (I.base.free b o e n hx)
  · obtain ⟨sl,e1⟩:=I.base.slot b o e n hb hx
    obtain ⟨sl',e2⟩:=slot b _ (neL b o e) hb (neC b o e hx) e1 (I.base.free b o e n hx)
    exact ⟨sl',e2⟩
  · obtain ⟨o',e1⟩:=I.base.there b o e hx
    exact free b o' (neC b o e hx) e1 (I.base.free b o e n hx)
  · obtain ⟨o',e1⟩:=I.base.there b o e hx
    exact there b o' (neC b o e hx) e1
  · obtain ⟨m1,e1⟩:=I.base.tbls b ps e
    obtain ⟨m2,e2⟩:=tbls b _ e1
    exact ⟨m1 ++ m2,by rw [e2,Array.append_assoc]⟩
  · obtain ⟨m,hn,hl⟩:=I.loc
    refine ⟨m,ns m hn,fun i x v e1 e2 e3=>?_⟩
    obtain ⟨u,r,l⟩:=hl i x v e1 e2 e3
    refine ⟨u,r,?_⟩
    rcases l with l | ⟨k,c,e,z⟩
    · exact .inl l
    · exact .inr ⟨k,c,e,cellK x c e _ z⟩
  · obtain ⟨v,z⟩:=I.cell x c e
    exact ⟨v,cellK x c e v z⟩
  · obtain ⟨m,⟨o,_,_,ho,_⟩,_⟩:=I.loc
    exact free _ o (fun z=>(hch _ z).2.1 rfl) ho I.free
  · obtain ⟨v,o,ho,hd⟩:=I.cell x c e
    exact free c o (fun z=>(hch c z).2.2.1 x c e rfl) ho (I.freeC x c e)
  · obtain ⟨e,n,ne,nf,d⟩:=I.pin p hp
    have nch:p.1 ∉ ch:=fun z=>(hch p.1 z).2.2.2 p hp rfl
    exact ⟨keep p.1 p.2 ne nf nch e n,free p.1 p.2 nch e n,ne,nf,d⟩
theorem Inv.un {t':Nat} (I:Inv X pins σ H s) (u:Un X.fs [] H H' s.heap h') (hok:HOk X.prog X.w H' h'):Inv X pins σ H' { s with heap:=h',toks:=t' }:=by
  obtain ⟨m,⟨o,es,ep,ho,r⟩,_⟩:=id I.loc
  obtain ⟨sl,hL⟩:=u.any ho I.free (by simp)
  exact I.step (g':=s.gens) (d':=s.drawn) (ch:=[]) (fun _ z=>nomatch z) (fun b o _ hb _ e n=>u.keep b o e n hb (by simp)) (fun b o _ hb _ e n=>u.slot b o e n hb (by simp)) (fun b o _ e n=>u.free b o e n (by simp)) (fun b o _ e=>u.there b o e (by simp)) u.tups u.frzs u.tbls (fun m' hm=>by
    obtain ⟨o',es',ep',ho',r'⟩:=hm
    rw [ho] at ho'; cases ho'
    exact ⟨_,es',ep',hL,r'⟩) hok I.bare
theorem Inv.call {g':Array GenState} {t':Nat} {d':Drawn} {ch:List Addr} (I:Inv X pins σ H s) (u:Un (frs X.stack) ch H H' s.heap h') (hok:HOk X.prog X.w H' h') (hg:AllBare g')
    (hch:∀ b ∈ ch,(b ∈ X.ex ∨ X.s₀.heap.objs.size ≤ b) ∧ b ≠ X.env.locals ∧ (∀ x c,X.env.cells.lookup x = some c → c ≠ b) ∧ ∀ p ∈ X.pn ++ pins,p.1 ≠ b) :
    Inv X pins σ H' { s with heap:=h',gens:=g',drawn:=d',toks:=t' }:=by
  obtain ⟨m,⟨o,es,ep,ho,r⟩,_⟩:=id I.loc
  obtain ⟨sl,hL⟩:=u.any ho I.free fun z=>(hch _ z).2.1 rfl
  exact I.step (ch:=ch) hch (fun b o hL hb hc e n=>u.keep b o e n (fun z=>(List.mem_cons.mp (I.stkSub b z)).elim hL hb) hc) (fun b o _ _ hc e n=>u.any e n hc) (fun b o hc e n=>u.free b o e n hc) (fun b o hc e=>u.there b o e hc) u.tups u.frzs u.tbls (fun m' hm=>by
    obtain ⟨o',es',ep',ho',r'⟩:=hm
    rw [ho] at ho'; cases ho'
    exact ⟨_,es',ep',hL,r'⟩) hok hg
theorem Inv.turned {t':Nat} {it:Addr} (I:Inv X pins σ H s) (k:∀ b o,b ≠ it → s.heap.get? b = some o → h'.get? b = some o) (hn:H it = none) (hL:it ≠ X.env.locals)
    (h1:it ∈ X.ex ∨ X.s₀.heap.objs.size ≤ it) (h2:∀ x c,X.env.cells.lookup x = some c → c ≠ it) (h3:∀ p ∈ X.pn ++ pins,p.1 ≠ it):Inv X pins σ H { s with heap:=h',toks:=t' }:=by
  have nit:∀ b u,H b = some u → b ≠ it:=fun b u e z=>by rw [z,hn] at e; cases e
  refine I.step (g':=s.gens) (d':=s.drawn) (ch:=[it]) (fun b hb=>?_) (fun b o _ _ hc e _=>k b o (fun z=>hc (by simp [z])) e) (fun b o _ _ hc e _=>⟨o.slots,k b o (fun z=>hc (by simp [z])) e⟩) (fun _ _ _ _ n=>n)
    (fun b o hc e=>⟨o,k b o (fun z=>hc (by simp [z])) e⟩) (fun _ _ e=>e) (fun _ _ _ e=>e) (fun b ps e=>⟨#[],by rw [e]; simp⟩) (fun m hm=>?_) (fun b u e=>?_) I.bare
  · have e:b = it:=by simpa using hb
    subst e
    exact ⟨h1,hL,h2,h3⟩
  · obtain ⟨o,es,ep,ho,r⟩:=hm
    exact ⟨o,es,ep,k _ o (Ne.symm hL) ho,r⟩
  · refine (I.hok b u e).stay (fun c v hc q=>k c v ?_ q) (fun _ q=>q) fun _ _ q=>q
    rcases hc with z | z
    · rw [z]; exact nit b u e
    · exact nit c _ z
theorem Inv.tok (I:Inv X pins σ H s) (t:Nat):Inv X pins σ H { s with toks:=t }:=I.un (h':=s.heap) (t':=t) Un.refl I.hok
theorem Inv.kept {t':Nat} (I:Inv X pins σ H s) (k:∀ b u,s.heap.get? b = some u → h'.get? b = some u):Inv X pins σ H { s with heap:=h',toks:=t' }:=I.un (Un.kept k) (I.hok.kept k)
theorem Inv.laid {a:Addr} {o:HO} {t':Nat} (I:Inv X pins σ H s) (k:∀ b u,s.heap.get? b = some u → h'.get? b = some u) (hp:s.heap.objs.size ≤ a) (new:ObjOk X.prog X.w (upd H a o) h' a o) :
    Inv X pins σ (upd H a o) { s with heap:=h',toks:=t' }:=I.un (Un.laid k hp (I.hok.fresh hp)) (I.hok.laid k hp new)
theorem Inv.write {x e:Addr} {o:HO} {t':Nat} (I:Inv X pins σ H s) (mu:Mut (H x)) (he:e = x ∨ H e = some (.own x)) (k:∀ b u,b ≠ e → s.heap.get? b = some u → h'.get? b = some u) (heo:∃ u,h'.get? e = some u)
    (new:ObjOk X.prog X.w (upd H x o) h' x o):Inv X pins σ (upd H x o) { s with heap:=h',toks:=t' }:=I.un (Un.write mu he k heo) (I.hok.write mu he k heo new)
theorem Inv.weak {σ':List (Option V)} (I:Inv X pins σ H s) (hl:σ'.length = σ.length) (w:∀ (i:Nat) v,σ'[i]? = some (some v) → σ[i]? = some (some v)):Inv X pins σ' H s :=
  ⟨I.ok,I.os,I.bare,I.base,let ⟨m,hn,hl'⟩:=I.loc; ⟨m,hn,fun i x v e1 e2 e3=>hl' i x v e1 (w i v e2) e3⟩,I.cell,I.free,I.freeC,I.pin,I.hok,hl.trans I.len⟩
theorem Inv.pins_of {pins':List (Addr × Obj)} (I:Inv X pins σ H s) (h:∀ p ∈ pins',s.heap.get? p.1 = some p.2 ∧ H p.1 = none ∧ p.1 ≠ X.env.locals ∧ p.1 ∉ X.fs ∧ ∀ v,p.2.data ≠ .cell v):Inv X pins' σ H s :=
  ⟨I.ok,I.os,I.bare,I.base,I.loc,I.cell,I.free,I.freeC,fun p hp=>(List.mem_append.mp hp).elim (fun z=>I.pin p (List.mem_append_left _ z)) (h p),I.hok,I.len⟩
theorem nodup_ix {N:List Str} (hN:N.Nodup) {i j:Nat} {x:Str} (a:N[i]? = some x) (b:N[j]? = some x):i = j:=by
  obtain ⟨h1,e1⟩:=List.getElem?_eq_some_iff.mp a
  obtain ⟨h2,e2⟩:=List.getElem?_eq_some_iff.mp b
  exact (List.getElem_inj hN).mp (e1.trans e2.symm)
theorem store_ok2 {M:Model} {A:Around} {E:Value → Shared → Prop} {i:Nat} {x:Str} {v:V} {u:Value} {Q:Unit → Shared → Prop} (I:Inv X pins σ H s) (hN:X.N.Nodup) (hi:X.N[i]? = some x) (hx:Loc X.env.scope x) (r:RelV v u)
    (h:∀ s',Inv X pins (σ.set i (some v)) H s' → (∃ a,Heap.SameBut a s.heap s'.heap ∧ (a = X.env.locals ∨ X.env.cells.lookup x = some a)) → Q () s') (hf:X.fn x = true ∨ X.env.scope.names.lookup x = some .local:=by first | exact .inl rfl | exact .inr rfl | assumption):wpAny M A (storeName X.env x u) Q E s:=by
  obtain ⟨m,hn,hl⟩:=id I.loc
  have hcls:(X.env.scope.kind == .class || (X.env.scope.kind == .module && X.env.locals != X.env.globals)) = false:=by rw [I.ok.kind]; rfl
  have hiσ:i < σ.length:=by rw [I.len]; exact (List.getElem?_eq_some_iff.mp hi).1
  have cne:=I.cne
  have tracked:∀ {a:Addr} {h':Heap},(∃ o,s.heap.get? a = some o ∧ H a = none) → Heap.SameBut a s.heap h' → HOk X.prog X.w H h':=fun {a h'} ha hs b ob e=>by
    obtain ⟨_,_,hfree⟩:=ha
    refine (I.hok b ob e).stay (fun c w' hc q=>(hs.2 c ?_).trans q) (fun _ q=>q) fun _ _ q=>q
    rintro rfl
    rcases hc with rfl | hc
    · rw [hfree] at e; cases e
    · rw [hfree] at hc; cases hc
  rcases hx with hk | hk
  · refine wpAny_storeName_local hk hn (fun h' hn' hs=>?_) hcls
    obtain ⟨oL,_,_,hoL,_⟩:=id hn
    refine h _ ⟨I.ok,I.os,I.bare,⟨fun b o e n hb hx=>?_,fun b o e n hb hx=>?_,I.base.free,fun b o e hx=>?_,I.base.tups,I.base.frzs,I.base.tbls⟩,⟨_,hn',fun j y v' e1 e2 e3=>?_⟩,fun y c e=>?_,I.free,I.freeC,fun p hp=>?_,tracked ⟨oL,hoL,I.free⟩ hs,by simpa using I.len⟩ ⟨_,hs,.inl rfl⟩
    · exact (hs.2 b (Nat.ne_of_lt (Nat.lt_of_lt_of_le (Heap.lt_size e) I.ok.above))).trans (I.base.keep b o e n hb hx)
    · obtain ⟨sl,e1⟩:=I.base.slot b o e n hb hx
      exact ⟨sl,(hs.2 b (Nat.ne_of_lt (Nat.lt_of_lt_of_le (Heap.lt_size e) I.ok.above))).trans e1⟩
    · obtain ⟨o',e1⟩:=I.base.there b o e hx
      exact ⟨o',(hs.2 b (Nat.ne_of_lt (Nat.lt_of_lt_of_le (Heap.lt_size e) I.ok.above))).trans e1⟩
    · by_cases hj:j = i
      · subst hj
        rw [hi] at e1; cases e1
        rw [List.getElem?_set_self hiσ] at e2
        cases e2
        exact ⟨u,r,.inl ⟨hk,by simp⟩⟩
      · rw [List.getElem?_set_ne (Ne.symm hj)] at e2
        obtain ⟨u',r',q⟩:=hl j y v' e1 e2 e3
        refine ⟨u',r',?_⟩
        rcases q with ⟨k,e⟩ | ⟨k,c,e,z⟩
        · refine .inl ⟨k,?_⟩
          have:y ≠ x:=fun e=>hj (nodup_ix hN e1 (e ▸ hi))
          simp [this,e]
        · exact .inr ⟨k,c,e,z.sameBut hs (cne y c e)⟩
    · obtain ⟨w',z⟩:=I.cell y c e
      exact ⟨w',z.sameBut hs (cne y c e)⟩
    · obtain ⟨e,n,ne,nf,d⟩:=I.pin p hp
      exact ⟨(hs.2 p.1 ne).trans e,n,ne,nf,d⟩
  · have hfn:X.fn x = true:=by
      rcases hf with z | z
      · exact z
      · rw [z] at hk; cases hk
    obtain ⟨c,hc⟩:=I.ok.has x (.inl hk)
    obtain ⟨w',z⟩:=I.cell x c hc
    refine wpAny_storeName_cell I.ok.kind hk hc z (fun h' hc' hs=>?_)
    obtain ⟨oc,hoc,hocd⟩:=id z
    refine h { s with heap:=h' } ⟨I.ok,I.os,I.bare,⟨fun b o e n hb hx=>?_,fun b o e n hb hx=>?_,I.base.free,fun b o e hx=>?_,I.base.tups,I.base.frzs,I.base.tbls⟩,⟨m,hn.sameBut hs (Ne.symm (cne x c hc)),fun j y v' e1 e2 e3=>?_⟩,fun y c' e=>?_,I.free,I.freeC,fun p hp=>?_,tracked ⟨oc,hoc,I.freeC x c hc⟩ hs,by simpa using I.len⟩ ⟨c,hs,.inr hc⟩
    · exact (hs.2 b (Nat.ne_of_lt (Nat.lt_of_lt_of_le (Heap.lt_size e) (I.ok.cab x c hfn hc)))).trans (I.base.keep b o e n hb hx)
    · obtain ⟨sl,e1⟩:=I.base.slot b o e n hb hx
      exact ⟨sl,(hs.2 b (Nat.ne_of_lt (Nat.lt_of_lt_of_le (Heap.lt_size e) (I.ok.cab x c hfn hc)))).trans e1⟩
    · obtain ⟨o',e1⟩:=I.base.there b o e hx
      exact ⟨o',(hs.2 b (Nat.ne_of_lt (Nat.lt_of_lt_of_le (Heap.lt_size e) (I.ok.cab x c hfn hc)))).trans e1⟩
    · by_cases hj:j = i
      · subst hj
        rw [hi] at e1; cases e1
        rw [List.getElem?_set_self hiσ] at e2
        cases e2
        exact ⟨u,r,.inr ⟨.inl hk,c,hc,hc'⟩⟩
      · rw [List.getElem?_set_ne (Ne.symm hj)] at e2
        obtain ⟨u',r',q⟩:=hl j y v' e1 e2 e3
        refine ⟨u',r',?_⟩
        rcases q with q | ⟨k,c',e,z'⟩
        · exact .inl q
        · refine .inr ⟨k,c',e,z'.sameBut hs ?_⟩
          rintro rfl
          exact hj (nodup_ix hN e1 (I.ok.inj _ _ _ e hc ▸ hi))
    · by_cases hcc:c' = c
      · subst hcc; exact ⟨_,hc'⟩
      · obtain ⟨w2,z2⟩:=I.cell y c' e
        exact ⟨w2,z2.sameBut hs hcc⟩
    · obtain ⟨e,n,ne,nf,d⟩:=I.pin p hp
      refine ⟨(hs.2 p.1 ?_).trans e,n,ne,nf,d⟩
      intro q
      rw [q,hoc] at e
      have q':oc = p.2:=Option.some.inj e
      exact d w' (by rw [← q']; exact hocd)
theorem store_ok {M:Model} {A:Around} {E:Value → Shared → Prop} {i:Nat} {x:Str} {v:V} {u:Value} {Q:Unit → Shared → Prop} (I:Inv X pins σ H s) (hN:X.N.Nodup) (hi:X.N[i]? = some x) (hx:Loc X.env.scope x) (r:RelV v u)
    (h:∀ s',Inv X pins (σ.set i (some v)) H s' → Q () s') (hf:X.fn x = true ∨ X.env.scope.names.lookup x = some .local:=by first | exact .inl rfl | exact .inr rfl | assumption):wpAny M A (storeName X.env x u) Q E s :=
  store_ok2 I hN hi hx r (fun s' I' _=>h s' I') hf
theorem Inv.call' {s':Shared} {ch:List Addr} (I:Inv X pins σ H s) (ho:s'.os = s.os) (u:Un (frs X.stack) ch H H' s.heap s'.heap) (hok:HOk X.prog X.w H' s'.heap) (hg:AllBare s'.gens)
    (hch:∀ b ∈ ch,(b ∈ X.ex ∨ X.s₀.heap.objs.size ≤ b) ∧ b ≠ X.env.locals ∧ (∀ x c,X.env.cells.lookup x = some c → c ≠ b) ∧ ∀ p ∈ X.pn ++ pins,p.1 ≠ b):Inv X pins σ H' s':=by
  obtain ⟨h',g',d',t',o'⟩:=s'
  have e:o' = s.os:=ho
  subst e
  exact I.call (g':=g') (t':=t') (d':=d') u hok hg hch
end
abbrev XK:=Value → Option Addr → Hp → Prop
abbrev St:=List (Option V)
abbrev VK:=V → Hp → Prop
abbrev TE:=St → Hp → VK → Prop
abbrev TT:=St → Hp → (Bool → Hp → Prop) → Prop
abbrev TA:=St → Hp → (List V → Hp → Prop) → Prop
structure Ends where
  nx:St → Hp → Prop
  rt:VK
  bk:St → Hp → Prop:=fun _ _=>False
  ct:St → Hp → Prop:=fun _ _=>False
abbrev TS:=Ends → St → Hp → Prop
def EP (X:Cx) (pins:List (Addr × Obj)) (σ:St) (Q:VK) (u:Value) (s':Shared):Prop:=∃ v H',Inv X pins σ H' s' ∧ RelV v u ∧ Q v H'
def TP (X:Cx) (pins:List (Addr × Obj)) (σ:St) (Q:Bool → Hp → Prop) (b:Bool) (s':Shared):Prop:=∃ H',Inv X pins σ H' s' ∧ Q b H'
def AP (X:Cx) (pins:List (Addr × Obj)) (σ:St) (Q:List V → Hp → Prop) (us:List Value) (s':Shared):Prop:=∃ vs H',Inv X pins σ H' s' ∧ Vals vs us ∧ Q vs H'
def SP (X:Cx) (pins:List (Addr × Obj)) (D:Ends) (f:Flow) (s':Shared):Prop :=
  match f with
  | .next=>∃ σ' H',Inv X pins σ' H' s' ∧ D.nx σ' H'
  | .brk=>∃ σ' H',Inv X pins σ' H' s' ∧ D.bk σ' H'
  | .cont=>∃ σ' H',Inv X pins σ' H' s' ∧ D.ct σ' H'
  | .ret u=>∃ v σ' H',Inv X pins σ' H' s' ∧ RelV v u ∧ D.rt v H'
def PE (X:Cx) (e:Expr) (t:TE):Prop :=
  ∀ (pins:List (Addr × Obj)) (s:Shared) (σ:St) (H:Hp) (Q:VK),Inv X pins σ H s → t σ H Q → wpAny (model X.prog X.w) X.A (eval e X.env) (EP X pins σ Q) X.xe s
def PT (X:Cx) (e:Expr) (t:TT):Prop :=
  ∀ (pins:List (Addr × Obj)) (s:Shared) (σ:St) (H:Hp) (Q:Bool → Hp → Prop),Inv X pins σ H s → t σ H Q → wpAny (model X.prog X.w) X.A (isTrue e X.env (eval e X.env)) (TP X pins σ Q) X.xe s
def PW (X:Cx) (e:Expr) (t:TT):Prop :=
  ∀ (whole:Sem Value) (pins:List (Addr × Obj)) (s:Shared) (σ:St) (H:Hp) (Q:Bool → Hp → Prop),Inv X pins σ H s → t σ H Q → wpAny (model X.prog X.w) X.A (isTrue e X.env whole) (TP X pins σ Q) X.xe s
theorem PW.pt {X:Cx} {e:Expr} {t:TT} (h:PW X e t):PT X e t:=h _
def PA (X:Cx) (es:List Expr) (t:TA):Prop :=
  ∀ (pos:Pos) (pins:List (Addr × Obj)) (s:Shared) (σ:St) (H:Hp) (Q:List V → Hp → Prop),Inv X pins σ H s → t σ H Q → wpAny (model X.prog X.w) X.A (spliced (backTo pos (starEach es X.env))) (AP X pins σ Q) X.xe s
def PS (X:Cx) (st:Stmt) (t:TS):Prop :=
  ∀ (pins:List (Addr × Obj)) (s:Shared) (σ:St) (H:Hp) (D:Ends),Inv X pins σ H s → t D σ H → wpAny (model X.prog X.w) X.A (exec st X.env) (SP X pins D) X.xe s
def PSs (X:Cx) (st:List Stmt) (t:TS):Prop :=
  ∀ (pins:List (Addr × Obj)) (s:Shared) (σ:St) (H:Hp) (D:Ends),Inv X pins σ H s → t D σ H → wpAny (model X.prog X.w) X.A (execs st X.env) (SP X pins D) X.xe s
theorem thn {α:Type} {t:Sem α} {Q Q':α → Shared → Prop} {M:Model} {A:Around} {E:Value → Shared → Prop} {s:Shared} (h:wpAny M A t Q E s) (hQ:∀ a s,Q a s → Q' a s):wpAny M A t Q' E s:=wpAny_mono h hQ fun _ _ x=>x
end L2
namespace L2
open PySem PySem.Spec PyProof.Rows
section
variable {X:Cx}
theorem bin {a b:Expr} {ta tb:TE} (ha:PE X a ta) (hb:PE X b tb) {pins:List (Addr × Obj)} {s:Shared} {σ:St} {H:Hp} {R:V → V → Hp → Prop} (I:Inv X pins σ H s) (h:ta σ H fun x H1=>tb σ H1 fun y H2=>R x y H2)
    {α:Type} {Q:α → Shared → Prop} {f:Value → Value → Sem α}
    (hf:∀ v u s2 x y H2,Inv X pins σ H2 s2 → RelV x v → RelV y u → R x y H2 → wpAny (model X.prog X.w) X.A (f v u) Q X.xe s2) :
    wpAny (model X.prog X.w) X.A (eval a X.env) (fun v s₁=>wpAny (model X.prog X.w) X.A (eval b X.env) (fun u s₂=>wpAny (model X.prog X.w) X.A (f v u) Q X.xe s₂) X.xe s₁) X.xe s:=by
  refine thn (ha pins s σ H _ I h) fun v s1 ⟨x,H1,I1,r1,q1⟩=>?_
  refine thn (hb pins s1 σ H1 _ I1 q1) fun u s2 ⟨y,H2,I2,r2,q2⟩=>?_
  exact hf v u s2 x y H2 I2 r1 r2 q2
def tVar (i:Nat):TE:=fun σ H Q=>∃ v,σ[i]? = some (some v) ∧ Q v H
def tC (v:V):TE:=fun _ H Q=>Q v H
theorem pe_var {i:Nat} {x:Str} {pos:Pos} (hN:X.N[i]? = some x) (hv:Vis X.env.scope x) (hd:(x == ("__debug__":Str)) = false:=by decide) (hcd:(x == ("__classdict__":Str)) = false:=by decide):PE X (.Name x pos) (tVar i):=by
  intro pins s σ H Q I h
  obtain ⟨v,e,h⟩:=h
  obtain ⟨m,hn,hl⟩:=I.loc
  obtain ⟨u,r,l⟩:=hl i x v hN e hv
  have fin:EP X pins σ Q u s:=⟨v,H,I,r,h⟩
  rcases l with ⟨hk,hm⟩ | ⟨hk,c,hc,hcell⟩
  · exact wpAny_Name (wpAny_loadName_local I.ok.kind hk hn hm fin) hd
  · rcases hk with hk | hk
    · exact wpAny_Name (wpAny_loadName_cell I.ok.kind hk hc hcell fin) hd
    · exact wpAny_Name (wpAny_loadName_free I.ok.kind hk hc hcell fin hcd) hd
theorem pe_int {i j pos}:PE X (.Constant (.int i) j pos) (tC (.int i)):=fun _ _ _ H _ I h=>wpAny_Constant_int ⟨.int i,H,I.tok _,⟨_,rfl⟩,h⟩
theorem pe_bl {b j pos}:PE X (.Constant (.bool b) j pos) (tC (.bl b)):=fun _ _ _ H _ I h=>Constant_bool ⟨.bl b,H,I,rfl,h⟩
theorem pe_non {j pos}:PE X (.Constant .none j pos) (tC .non):=fun _ _ _ H _ I h=>Constant_none ⟨.non,H,I,rfl,h⟩
theorem pe_str {x j pos}:PE X (.Constant (.str x) j pos) (tC (.str x)):=fun _ _ _ H _ I h=>Calls.Constant_str ⟨.str x,H,I.tok _,⟨_,rfl⟩,h⟩
def Gl (X:Cx) (x:Str):Prop:=X.env.kindOf x = some .globalImplicit
theorem ld_glob {E:Value → Shared → Prop} {pins:List (Addr × Obj)} {s:Shared} {σ:St} {H:Hp} {x:Str} {u:Value} {pos:Pos} {Q:Value → Shared → Prop} (I:Inv X pins σ H s) (hg:Gl X x) (hm:X.mg x = some u) (h:Q u s)
    (hd:(x == ("__debug__":Str)) = false:=by decide):wpAny (model X.prog X.w) X.A (eval (.Name x pos) X.env) Q E s :=
  Calls.Name_function_global I.ok.kind hg (Calls.loadGlobal_global (by rw [I.ok.glob]; exact I.mod.glob.keeps I.bk) hm h) hd
theorem ld_blt {E:Value → Shared → Prop} {pins:List (Addr × Obj)} {s:Shared} {σ:St} {H:Hp} {x:Str} {u:Value} {pos:Pos} {Q:Value → Shared → Prop} (I:Inv X pins σ H s) (hg:Gl X x) (hm:X.mg x = none) (hv:bootBuiltins x = some u) (h:Q u s)
    (hn:x ≠ "__name__":=by decide) (hd:(x == ("__debug__":Str)) = false:=by decide):wpAny (model X.prog X.w) X.A (eval (.Name x pos) X.env) Q E s:=by
  obtain ⟨mb,h1,h2⟩:=I.mod.blt
  exact Calls.Name_function_global I.ok.kind hg (Calls.loadGlobal_builtin (by rw [I.ok.glob]; exact I.mod.glob.keeps I.bk) hm (by rw [I.ok.blt]; exact h1.keeps I.bk) ((h2 x hn).trans hv) h) hd
theorem pe_glob {x:Str} {v:V} {u:Value} {pos:Pos} (hg:Gl X x) (hm:X.mg x = some u) (r:RelV v u) (hd:(x == ("__debug__":Str)) = false:=by decide):PE X (.Name x pos) (tC v) :=
  fun _ _ _ H _ I h=>ld_glob I hg hm ⟨v,H,I,r,h⟩ hd
theorem pe_bltn {x:Str} {v:V} {u:Value} {pos:Pos} (hg:Gl X x) (hm:X.mg x = none) (hv:bootBuiltins x = some u) (r:RelV v u) (hn:x ≠ "__name__":=by decide) (hd:(x == ("__debug__":Str)) = false:=by decide):PE X (.Name x pos) (tC v) :=
  fun _ _ _ H _ I h=>ld_blt I hg hm hv ⟨v,H,I,r,h⟩ hn hd
variable {a b:Expr} {ta tb:TE} {pos:Pos}
def tB (t:TE):TT:=fun σ H Q=>t σ H fun x H1=>∃ c,x = .bl c ∧ Q c H1
variable {tA tB':TT} {rest:List Expr}
def tAnd (t u:TT):TT:=fun σ H Q=>t σ H fun c H1=>if c = true then u σ H1 Q else Q false H1
def tOr (t u:TT):TT:=fun σ H Q=>t σ H fun c H1=>if c = true then Q true H1 else u σ H1 Q
def tNot (t:TT):TT:=fun σ H Q=>t σ H fun c H1=>Q (!c) H1
theorem pw_and1 (ha:PT X a tA):PW X (.BoolOp .And [a] pos) tA:=by
  intro wh pins s σ H Q I h
  refine isTrue_and (thn (ha pins s σ H Q I h) fun c s1 e=>?_)
  cases c with
  | true=>exact isTrue_and_nil e
  | false=>exact e
theorem pw_or1 (ha:PT X a tA):PW X (.BoolOp .Or [a] pos) tA:=by
  intro wh pins s σ H Q I h
  refine isTrue_or (thn (ha pins s σ H Q I h) fun c s1 e=>?_)
  cases c with
  | false=>exact isTrue_or_nil e
  | true=>exact e
theorem pw_and (ha:PT X a tA) (hb:PW X (.BoolOp .And (b :: rest) pos) tB'):PW X (.BoolOp .And (a :: b :: rest) pos) (tAnd tA tB'):=by
  intro wh pins s σ H Q I h
  refine isTrue_and (thn (ha pins s σ H _ I h) fun c s1 ⟨H1,I1,q1⟩=>?_)
  cases c with
  | true=>exact hb wh pins s1 σ H1 Q I1 q1
  | false=>exact ⟨H1,I1,q1⟩
theorem pw_or (ha:PT X a tA) (hb:PW X (.BoolOp .Or (b :: rest) pos) tB'):PW X (.BoolOp .Or (a :: b :: rest) pos) (tOr tA tB'):=by
  intro wh pins s σ H Q I h
  refine isTrue_or (thn (ha pins s σ H _ I h) fun c s1 ⟨H1,I1,q1⟩=>?_)
  cases c with
  | true=>exact ⟨H1,I1,q1⟩
  | false=>exact hb wh pins s1 σ H1 Q I1 q1
theorem pt_not (ha:PT X a tA):PT X (.UnaryOp .Not a pos) (tNot tA):=by
  intro pins s σ H Q I h
  exact isTrue_not (ha pins s σ H (fun c H1=>Q (!c) H1) I h)
theorem pe_one {op} {t:TE} (h:PE X a t):PE X (.BoolOp op [a] pos) t:=fun pins s σ H Q I hw=>BoolOp_one (h pins s σ H Q I hw)
def tIf (t:TT) (ta tb:TE):TE:=fun σ H Q=>t σ H fun c H1=>if c = true then ta σ H1 Q else tb σ H1 Q
theorem pe_ifExp {c:Expr} (hc:PT X c tA) (ha:PE X a ta) (hb:PE X b tb):PE X (.IfExp c a b pos) (tIf tA ta tb):=by
  intro pins s σ H Q I h
  refine wpAny_IfExp (thn (hc pins s σ H _ I h) fun d s1 ⟨H1,I1,q1⟩=>?_)
  cases d with
  | true=>exact ha pins s1 σ H1 Q I1 q1
  | false=>exact hb pins s1 σ H1 Q I1 q1
end
end L2
namespace L2
open PySem PySem.Spec PyProof.Rows
def SqL (K:PySem.W.Frag) (H:Hp) (a:Addr) (xs:List V):Prop :=
  Rd H a (.lst xs) ∨
    ∃ (o:Obj) (its:Array Value) (n:Nat),K.lookup a = some o ∧ o.cls = .type "list" ∧ o.dict = none ∧ o.data = .seq its n ∧ its.size ≤ sizeLine ∧ Vals xs its.toList
def SqT (K:PySem.W.Frag) (H:Hp) (a:Addr) (xs:List V):Prop :=
  Rd H a (.tup xs) ∨
    ∃ (o:Obj) (its:Array Value) (n:Nat),K.lookup a = some o ∧ o.cls = .type "tuple" ∧ o.data = .seq its n ∧ its.size ≤ sizeLine ∧ Vals xs its.toList
def absV:Value → Option V
  | .none=>some .non
  | .bool b=>some (.bl b)
  | .int i _=>some (.int i)
  | .str x _=>some (.str x)
  | .bytes b _=>some (.byt b)
  | .float b _=>some (.flt b)
  | .ref a=>some (.ref a)
  | .type n=>some (.ty n)
  | _=>none
theorem RelV.abs {x:V} {u:Value} (r:RelV x u):absV u = some x:=by
  cases x with
  | non=>cases r; rfl
  | bl _=>cases r; rfl
  | int _=>obtain ⟨t,rfl⟩:=r; rfl
  | str _=>obtain ⟨t,rfl⟩:=r; rfl
  | byt _=>obtain ⟨t,rfl⟩:=r; rfl
  | flt _=>obtain ⟨t,rfl⟩:=r; rfl
  | ref _=>cases r; rfl
  | ty _=>cases r; rfl
theorem RelV.inj {x y:V} {u:Value} (r:RelV x u) (q:RelV y u):x = y:=Option.some.inj (r.abs.symm.trans q.abs)
theorem Vals.inj:∀ {xs ys:List V} {us:List Value},Vals xs us → Vals ys us → xs = ys
  | _,_,_,.nil,.nil=>rfl
  | _,_,_,.cons r t,.cons r' t'=>by rw [r.inj r',Vals.inj t t']
section
variable {X:Cx} {pins:List (Addr × Obj)} {σ:St} {H:Hp} {s:Shared} {a:Addr} {xs ys:List V}
theorem SqL.of {K:PySem.W.Frag} (h:H a = some (.lst xs)):SqL K H a xs:=.inl (.inl h)
theorem SqT.of {K:PySem.W.Frag} (h:H a = some (.tup xs)):SqT K H a xs:=.inl (.inl h)
theorem Inv.list (I:Inv X pins σ H s) (h:SqL X.K H a xs):∃ its:List Value,Vals xs its ∧ PlainL s.heap a its.toArray ∧ xs.length ≤ sizeLine:=by
  rcases h with h | ⟨o,its,n,hk,hc,hd,hs,hz,r⟩
  · obtain ⟨z,its,n,r,e⟩:=h.ok I.hok
    exact ⟨its,r,⟨_,n,e,rfl,rfl,rfl⟩,z⟩
  · refine ⟨its.toList,r,⟨o,n,I.kIn a o hk,hc,hd,by simpa using hs⟩,?_⟩
    have e:=r.length
    simp only [Array.length_toList] at e
    omega
theorem Inv.tuple (I:Inv X pins σ H s) (h:SqT X.K H a xs):∃ its:List Value,Vals xs its ∧ IsTup s.heap a its.toArray ∧ xs.length ≤ sizeLine:=by
  rcases h with h | ⟨o,its,n,hk,hc,hs,hz,r⟩
  · obtain ⟨z,its,r,p⟩:=h.ok I.hok
    exact ⟨its,r,p,z⟩
  · refine ⟨its.toList,r,⟨o,I.kIn a o hk,hc,n,by simpa using hs⟩,?_⟩
    have e:=r.length
    simp only [Array.length_toList] at e
    omega
theorem Inv.list_inj (I:Inv X pins σ H s) (h:SqL X.K H a xs) (h':SqL X.K H a ys):xs = ys:=by
  obtain ⟨its,r,⟨o,n,e,_,_,d⟩,_⟩:=I.list h
  obtain ⟨its',r',⟨o',n',e',_,_,d'⟩,_⟩:=I.list h'
  rw [e] at e'; cases e'
  rw [d] at d'
  injection d' with d1 _
  have:its = its':=by simpa using congrArg Array.toList d1
  subst this
  exact r.inj r'
theorem Inv.tuple_inj (I:Inv X pins σ H s) (h:SqT X.K H a xs) (h':SqT X.K H a ys):xs = ys:=by
  obtain ⟨its,r,⟨o,e,_,n,d⟩,_⟩:=I.tuple h
  obtain ⟨its',r',⟨o',e',_,n',d'⟩,_⟩:=I.tuple h'
  rw [e] at e'; cases e'
  rw [d] at d'
  injection d' with d1 _
  have:its = its':=by simpa using congrArg Array.toList d1
  subst this
  exact r.inj r'
end
abbrev Cx.wish (X:Cx) (E:Value → Shared → Prop):Cx:={ X with xe:=E }
abbrev Cx.nox (X:Cx):Cx:=X.wish fun _ _=>False
theorem Cx.Ok.wish {X:Cx} (ok:X.Ok) (E:Value → Shared → Prop):(X.wish E).Ok :=
  ⟨ok.mod,ok.kind,ok.glob,ok.blt,ok.above,ok.inj,ok.has,ok.cab,ok.hd,ok.frames,ok.stk,ok.exf,ok.bs,ok.bsz,ok.noex,ok.exfs,ok.funs,ok.frf⟩
theorem Cx.Ok.unwish {X:Cx} {E:Value → Shared → Prop} (ok:(X.wish E).Ok):X.Ok :=
  ⟨ok.mod,ok.kind,ok.glob,ok.blt,ok.above,ok.inj,ok.has,ok.cab,ok.hd,ok.frames,ok.stk,ok.exf,ok.bs,ok.bsz,ok.noex,ok.exfs,ok.funs,ok.frf⟩
section
variable {X:Cx} {pins:List (Addr × Obj)} {σ:St} {H:Hp} {s:Shared} {E:Value → Shared → Prop}
theorem Inv.wish (I:Inv X pins σ H s) (E:Value → Shared → Prop):Inv (X.wish E) pins σ H s:=⟨I.ok.wish E,I.os,I.bare,I.base,I.loc,I.cell,I.free,I.freeC,I.pin,I.hok,I.len⟩
theorem Inv.unwish (I:Inv (X.wish E) pins σ H s):Inv X pins σ H s:=⟨I.ok.unwish,I.os,I.bare,I.base,I.loc,I.cell,I.free,I.freeC,I.pin,I.hok,I.len⟩
theorem SP.unwish {D:Ends} {f:Flow} {s':Shared} (h:SP (X.wish E) pins D f s'):SP X pins D f s':=by
  cases f with
  | next=>obtain ⟨σ',H',I,q⟩:=h; exact ⟨σ',H',I.unwish,q⟩
  | brk=>obtain ⟨σ',H',I,q⟩:=h; exact ⟨σ',H',I.unwish,q⟩
  | cont=>obtain ⟨σ',H',I,q⟩:=h; exact ⟨σ',H',I.unwish,q⟩
  | ret u=>obtain ⟨v,σ',H',I,r,q⟩:=h; exact ⟨v,σ',H',I.unwish,r,q⟩
theorem PSs.nox {st:List Stmt} {t:TS} (h:PSs X.nox st t):PSs X st t:=fun pins s σ H D I hw =>
  wpAny_mono (h pins s σ H D (I.wish _) hw) (fun _ _ q=>q.unwish) fun _ _ z=>False.elim z
end
section
variable {X:Cx} {st:Stmt} {rest:List Stmt} {t u:TS} {e:Expr} {te:TE} {pos:Pos}
def tNext:TS:=fun D σ H=>D.nx σ H
def tSeq (t u:TS):TS:=fun D σ H=>t { D with nx:=u D } σ H
theorem pss_nil:PSs X [] tNext:=fun _ _ σ H _ I h=>wpAny_execs_nil ⟨σ,H,I,h⟩
theorem pss_cons (h1:PS X st t) (h2:PSs X rest u):PSs X (st :: rest) (tSeq t u):=by
  intro pins s σ H D I h
  refine wpAny_execs_cons (thn (h1 pins s σ H { D with nx:=u D } I h) fun f s1 q=>?_)
  cases f with
  | next =>
    obtain ⟨σ',H',I',q⟩:=q
    exact h2 pins s1 σ' H' D I' q
  | ret v=>exact q
  | brk=>exact q
  | cont=>exact q
theorem pss_one (h1:PS X st t):PSs X [st] t:=by
  intro pins s σ H D I h
  refine wpAny_execs_cons (thn (h1 pins s σ H D I h) fun f s1 q=>?_)
  cases f with
  | next=>exact wpAny_execs_nil q
  | ret v=>exact q
  | brk=>exact q
  | cont=>exact q
theorem Inv.quiet {pins:List (Addr × Obj)} {σ:St} {H:Hp} {s:Shared} (I:Inv X pins σ H s):interactive X.env = false:=by simp [interactive,I.ok.kind]
def tDrop (te:TE):TS:=fun D σ H=>te σ H fun _ H1=>D.nx σ H1
theorem ps_expr (he:PE X e te) (hs:swapsWith e none pos.line X.env = pure false:=by rfl):PS X (.Expr e pos) (tDrop te):=by
  intro pins s σ H D I h
  exact wpAny_Expr_any (thn (he pins s σ H _ I h) fun v s1 ⟨x,H1,I1,r1,q1⟩=>⟨σ,H1,I1,q1⟩) I.quiet hs
def tRet (te:TE):TS:=fun D σ H=>te σ H D.rt
theorem ps_ret (he:PE X e te):PS X (.Return (some e) pos) (tRet te):=by
  intro pins s σ H D I h
  exact wpAny_Return_some (thn (he pins s σ H _ I h) fun v s1 ⟨x,H1,I1,r1,q1⟩=>⟨x,σ,H1,I1,r1,q1⟩)
def tIfS (c:TT) (t u:TS):TS:=fun D σ H=>c σ H fun b H1=>if b = true then t D σ H1 else u D σ H1
theorem ps_if {c:Expr} {a b:List Stmt} {tc:TT} (hc:PT X c tc) (ha:PSs X a t) (hb:PSs X b u):PS X (.If c a b pos) (tIfS tc t u):=by
  intro pins s σ H D I h
  refine wpAny_If (thn (hc pins s σ H _ I h) fun d s1 ⟨H1,I1,q1⟩=>?_)
  cases d with
  | true=>exact ha pins s1 σ H1 D I1 q1
  | false=>exact hb pins s1 σ H1 D I1 q1
end
abbrev TG:=V → St → Hp → (St → Hp → Prop) → Prop
abbrev TGs:=List V → St → Hp → (St → Hp → Prop) → Prop
def PG (X:Cx) (target:Expr) (t:TG):Prop :=
  ∀ (pins:List (Addr × Obj)) (s:Shared) (σ:St) (H:Hp) (v:V) (u:Value) (Q:St → Hp → Prop),Inv X pins σ H s → RelV v u → t v σ H Q →
    wpAny (model X.prog X.w) X.A (assign target X.env u) (fun _ s'=>∃ σ' H',Inv X pins σ' H' s' ∧ Q σ' H') X.xe s
def PGs (X:Cx) (ts:List Expr) (t:TGs):Prop :=
  ∀ (pins:List (Addr × Obj)) (s:Shared) (σ:St) (H:Hp) (vs:List V) (us:List Value) (Q:St → Hp → Prop),Inv X pins σ H s → Vals vs us → t vs σ H Q →
    wpAny (model X.prog X.w) X.A (assignInOrder ((assignEach ts X.env).map (·.2)) us) (fun _ s'=>∃ σ' H',Inv X pins σ' H' s' ∧ Q σ' H') X.xe s
section
variable {X:Cx} {pos:Pos}
def gName (i:Nat):TG:=fun v σ H Q=>Q (σ.set i (some v)) H
theorem pg_name {i:Nat} {x:Str} (hN:X.N.Nodup) (hi:X.N[i]? = some x) (hx:Loc X.env.scope x) (hf:X.fn x = true ∨ X.env.scope.names.lookup x = some .local:=by first | exact .inl rfl | exact .inr rfl | assumption):PG X (.Name x pos) (gName i):=by
  intro pins s σ H v u Q I r h
  exact wpAny_assign_Name (store_ok I hN hi hx r (fun s' I'=>⟨_,H,I',h⟩) hf)
def gNil:TGs:=fun vs σ H Q=>vs = [] ∧ Q σ H
def gCons (t:TG) (u:TGs):TGs:=fun vs σ H Q=>∃ v r,vs = v :: r ∧ t v σ H fun σ' H'=>u r σ' H' Q
theorem pgs_nil:PGs X [] gNil:=by
  intro pins s σ H vs us Q I r h
  obtain ⟨e,h⟩:=h
  subst e
  cases r
  exact assignInOrder_nil ⟨σ,H,I,h⟩
theorem pgs_cons {e:Expr} {es:List Expr} {t:TG} {u:TGs} (h1:PG X e t) (h2:PGs X es u)
    (hs:(assignEach (e :: es) X.env).map (·.2) = assign e X.env :: (assignEach es X.env).map (·.2):=by rfl):PGs X (e :: es) (gCons t u):=by
  intro pins s σ H vs us Q I r h
  obtain ⟨v,vr,e1,h⟩:=h
  subst e1
  cases r with
  | cons r rr =>
    rw [hs]
    refine assignInOrder_cons (thn (h1 pins s σ H _ _ _ I r h) fun _ s1 ⟨σ1,H1,I1,q1⟩=>?_)
    exact h2 pins s1 σ1 H1 _ _ Q I1 rr q1
def gTup (K:PySem.W.Frag) (n:Nat) (t:TGs):TG:=fun v σ H Q=>∃ a xs,v = .ref a ∧ SqT K H a xs ∧ xs.length = n ∧ t xs σ H Q
theorem pg_tup {es:List Expr} {k:Nat} {t:TGs} {n:Nat} (hc:X.calm = true) (h:PGs X es t)
    (hn:(assignEach es X.env).length = n:=by rfl) (hst:(assignEach es X.env).findIdx? (·.1) = none:=by rfl):PG X (.Tuple es k pos) (gTup X.K n t):=by
  intro pins s σ H v u Q I r hw
  obtain ⟨a,xs,e1,hq,hl,hw⟩:=hw
  subst e1
  cases r
  obtain ⟨its,rv,ht,hz⟩:=I.tuple hq
  refine assign_Tuple_tuple (I.ok.hd hc) ht (by simp [hn,← hl,rv.length]) hst fun h' hx=>?_
  have I1:Inv X pins σ H { s with heap:=h' }:=I.kept (t':=s.toks) fun b o e=>hx b o (Nat.ne_of_lt (Heap.lt_size e)) e
  exact h pins _ σ H xs _ Q I1 (by simpa using rv) hw
def tAsg (te:TE) (g:TG):TS:=fun D σ H=>te σ H fun x H1=>g x σ H1 D.nx
theorem ps_set {i:Nat} {x:Str} {e:Expr} {te:TE} {pos':Pos} (hN:X.N.Nodup) (hi:X.N[i]? = some x) (hx:Loc X.env.scope x) (he:PE X e te) (hs:swapsWith e (some (.Name x pos')) pos.line X.env = pure false:=by rfl) (hf:X.fn x = true ∨ X.env.scope.names.lookup x = some .local:=by first | exact .inl rfl | exact .inr rfl | assumption) :
    PS X (.Assign [.Name x pos'] e pos) (tAsg te (gName i)):=by
  intro pins s σ H D I h
  refine wpAny_Assign_Name (thn (he pins s σ H _ I h) fun v s1 ⟨y,H1,I1,r1,q1⟩=>?_) hs
  exact store_ok I1 hN hi hx r1 (fun s2 I2=>⟨_,H1,I2,q1⟩) hf
end
section
variable {X:Cx} {pos:Pos}
def tWhile (c:TT) (tb:TS):TS:=fun D σ H=>∃ W:Nat → St → Hp → Prop,(∃ m,W m σ H) ∧ ∀ m σ H,W m σ H →
  c σ H fun b H1=>if b = true then ∃ N:St → Hp → Prop,(∀ σ' H',N σ' H' → ∃ m',m' < m ∧ W m' σ' H') ∧ tb { D with nx:=N,ct:=N,bk:=D.nx } σ H1 else D.nx σ H1
theorem ps_while {c:Expr} {body:List Stmt} {tc:TT} {tb:TS} (hp:PassesOwn (model X.prog X.w) X.A X.env X.xe) (hc:PT X c tc) (hb:PSs X body tb):PS X (.While c body [] pos) (tWhile tc tb):=by
  intro pins s σ H D I h
  obtain ⟨W,⟨m0,w0⟩,turn⟩:=h
  refine wpAny_While (codeAny_whileLoop (fun n s'=>∃ σ' H',Inv X pins σ' H' s' ∧ W n σ' H') ?_ m0 ⟨σ,H,I,w0⟩)
  rintro n s1 ⟨σ1,H1,I1,w1⟩
  refine wpAny_passesOwn hp (thn (hc pins s1 σ1 H1 _ I1 (turn n σ1 H1 w1)) fun b s2 ⟨H2,I2,q2⟩=>?_)
  cases b with
  | true =>
    obtain ⟨N,hN,q2⟩:=q2
    rw [if_pos rfl]
    refine wpAny_passesOwn hp (thn (hb pins s2 σ1 H2 _ I2 q2) fun f s3 q3=>?_)
    cases f with
    | next =>
      obtain ⟨σ3,H3,I3,n3⟩:=q3
      obtain ⟨m',hm,w3⟩:=hN σ3 H3 n3
      exact ⟨m',hm,σ3,H3,I3,w3⟩
    | cont =>
      obtain ⟨σ3,H3,I3,n3⟩:=q3
      obtain ⟨m',hm,w3⟩:=hN σ3 H3 n3
      exact ⟨m',hm,σ3,H3,I3,w3⟩
    | brk=>exact q3
    | ret v=>exact q3
  | false =>
    rw [if_neg Bool.false_ne_true]
    exact wpAny_execs_nil ⟨σ1,H2,I2,q2⟩
end
structure It where
  go:Nat → Hp → Prop
  yld:Nat → Hp → V → Hp → Prop
  stop:Nat → Hp → Prop
def FpOk (X:Cx) (pins:List (Addr × Obj)) (H:Hp) (b:Addr):Prop :=
  H b = none ∧ b ≠ X.env.locals ∧ b ∉ X.fs ∧ (b ∈ X.ex ∨ X.s₀.heap.objs.size ≤ b) ∧ (∀ x c,X.env.cells.lookup x = some c → c ≠ b) ∧ ∀ p ∈ X.pn ++ pins,p.1 ≠ b
theorem Inv.fpOk {X:Cx} {pins:List (Addr × Obj)} {σ:St} {H H':Hp} {s:Shared} {b:Addr} (I:Inv X pins σ H s) (hb:s.heap.objs.size ≤ b) (hn:H' b = none):FpOk X pins H' b:=by
  refine ⟨hn,Nat.ne_of_gt (Nat.lt_of_lt_of_le I.lt hb),I.nofs hb,.inr (Nat.le_trans I.sz hb),fun x c e z=>?_,fun p hp z=>?_⟩
  · obtain ⟨v,q⟩:=I.cell x c e
    exact absurd (Nat.lt_of_lt_of_le q.lt (by rw [z]; exact hb)) (Nat.lt_irrefl _)
  · exact absurd (Nat.lt_of_lt_of_le (Heap.lt_size (I.pin p hp).1) (by rw [z]; exact hb)) (Nat.lt_irrefl _)
structure Turn (P:Program) (w:World) (K:PySem.W.Frag) (tg:Expr) (J:It) (fp:List Addr) (it:Addr) (tn:Nat → Heap → Prop):Prop where
  mem:it ∈ fp
  obj:∀ i h,tn i h → ∀ b ∈ fp,∃ o,h.get? b = some o ∧ ∀ v,o.data ≠ .cell v
  keep:∀ i h h',tn i h → (∀ b ∈ fp,∀ o,h.get? b = some o → h'.get? b = some o) → tn i h'
  item:∀ (X:Cx),X.prog = P → X.w = w → X.K = K → X.calm = true → ∀ (i:Nat) (pins:List (Addr × Obj)) (s:Shared) (σ:St) (H:Hp) (E:Value → Shared → Prop),Inv X pins σ H s → (∀ b ∈ fp,FpOk X pins H b) → tn i s.heap → J.go i H →
    wpAny (model P w) X.A (pyNext (.ref it)) (fun r s1=>∃ u,r = some u ∧
      wpAny (model P w) X.A (letOwnedTupleGo tg (.ref it) u) (fun _ s2=>∃ x H',Inv X pins σ H' s2 ∧ RelV x u ∧ J.yld i H x H' ∧ tn (i + 1) s2.heap ∧ ∀ b ∈ fp,H' b = none) E s1) E s
  done:∀ (X:Cx),X.prog = P → X.w = w → X.K = K → X.calm = true → ∀ (i:Nat) (pins:List (Addr × Obj)) (s:Shared) (σ:St) (H:Hp) (E:Value → Shared → Prop),Inv X pins σ H s → (∀ b ∈ fp,FpOk X pins H b) → tn i s.heap → J.stop i H →
    wpAny (model P w) X.A (pyNext (.ref it)) (fun r s1=>r = none ∧ Inv X pins σ H s1) E s
  self:∀ (A:Around) (i:Nat) (s:Shared) (Q:Value → Shared → Prop) (E:Value → Shared → Prop),tn i s.heap → Q (.ref it) s → wpAny (model P w) A (pyIter (.ref it)) Q E s
abbrev TI:=St → Hp → (It → Hp → Prop) → Prop
def PIE (X:Cx) (pins:List (Addr × Obj)) (σ:St) (tg:Expr) (R:It → Hp → Prop) (itv:Value) (s2:Shared):Prop :=
  ∃ (it:Addr) (fp:List Addr) (tn:Nat → Heap → Prop) (J:It) (H':Hp),itv = .ref it ∧ Inv X pins σ H' s2 ∧ Turn X.prog X.w X.K tg J fp it tn ∧ tn 0 s2.heap ∧ (∀ b ∈ fp,FpOk X pins H' b) ∧ R J H'
def PI (X:Cx) (tg iter:Expr) (wi:TI):Prop :=
  ∀ (pins:List (Addr × Obj)) (s:Shared) (σ:St) (H:Hp) (R:It → Hp → Prop),Inv X pins σ H s → wi σ H R →
    wpAny (model X.prog X.w) X.A (eval iter X.env) (fun v s1=>wpAny (model X.prog X.w) X.A (pyIter v) (PIE X pins σ tg R) X.xe s1) X.xe s
theorem go_of {M:Model} {A:Around} {E:Value → Shared → Prop} {s:Shared} {tg:Expr} {it:Addr} {u:Value} {o:Obj} {n:String} {vs:Array Value} {Q:Unit → Shared → Prop} (ho:s.heap.get? it = some o) (hc:o.cls = .type n) (hd:o.data = .fields vs)
    (hn:["enumerate","zip","dict_itemiterator","dict_reverseitemiterator","odict_iterator","itertools.zip_longest","itertools.pairwise"].contains n = false) (hQ:Q () s):wpAny M A (letOwnedTupleGo tg (.ref it) u) Q E s:=by
  unfold letOwnedTupleGo
  cases tg <;> first
    | exact wpAny_pure hQ
    | (cases u <;> first
        | exact wpAny_pure hQ
        | (refine wpAny_bind (wpAny_load ho ?_)
           rw [hc,hd]
           show wpAny M A (if (["enumerate","zip","dict_itemiterator","dict_reverseitemiterator","odict_iterator","itertools.zip_longest","itertools.pairwise"].contains n && vs[0]? == some (rawInt _)) = true then _ else _) Q E s
           rw [if_neg (by intro h; rw [hn,Bool.false_and] at h; cases h)]
           exact wpAny_pure hQ))
def Itl (K:PySem.W.Frag) (a:Addr):It :=
  ⟨fun i H=>∃ xs x,SqL K H a xs ∧ xs[i]? = some x,fun i H x H'=>H' = H ∧ ∀ xs,SqL K H a xs → xs[i]? = some x,fun i H=>∃ xs,SqL K H a xs ∧ xs.length ≤ i⟩
def Itt (K:PySem.W.Frag) (a:Addr):It :=
  ⟨fun i H=>∃ xs x,SqT K H a xs ∧ xs[i]? = some x,fun i H x H'=>H' = H ∧ ∀ xs,SqT K H a xs → xs[i]? = some x,fun i H=>∃ xs,SqT K H a xs ∧ xs.length ≤ i⟩
def Itr (lo:Int) (n:Nat):It:=⟨fun i _=>i < n,fun i H x H'=>H' = H ∧ x = .int (lo + i),fun i _=>n ≤ i⟩
theorem turn_list {P:Program} {w:World} {K:PySem.W.Frag} {tg:Expr} (a it:Addr):Turn P w K tg (Itl K a) [it] it (fun i h=>h.IsListIter it a i) where
  mem:=by simp
  obj:=fun i h st b hb=>by
    have e:b = it:=by simpa using hb
    subst e
    obtain ⟨o,e,c,d⟩:=st
    exact ⟨o,e,fun v z=>by rw [d] at z; cases z⟩
  keep:=fun i h h' st k=>st.at fun o e=>k it (by simp) o e
  item:=by
    intro X hP hw hK hc i pins s σ H E I hf st hg
    subst hP hw hK
    obtain ⟨xs,x,hq,hx⟩:=hg
    obtain ⟨its,rv,p,hz⟩:=I.list hq
    obtain ⟨u,hu,ru⟩:=rv.get hx
    obtain ⟨f0,f1,f2,f3,f4,f5⟩:=hf it (by simp)
    refine wpAny_pyNext_list_item st p.isList (x:=u) (by simpa using hu) fun h' st' sb=>?_
    have I1:Inv X pins σ H { s with heap:=h' }:=I.turned (t':=s.toks) (fun b o hb e=>(sb.2 b hb).trans e) f0 f1 f3 f4 f5
    obtain ⟨o,e,c,d⟩:=id st'
    exact ⟨u,rfl,go_of (s:={ s with heap:=h' }) e c d (by decide) ⟨x,H,I1,ru,⟨rfl,fun ys hy=>by rw [I.list_inj hy hq]; exact hx⟩,st',fun b hb=>(hf b hb).1⟩⟩
  done:=by
    intro X hP hw hK hc i pins s σ H E I hf st hg
    subst hP hw hK
    obtain ⟨xs,hq,hx⟩:=hg
    obtain ⟨its,rv,p,hz⟩:=I.list hq
    obtain ⟨f0,f1,f2,f3,f4,f5⟩:=hf it (by simp)
    have hl:=rv.length
    exact wpAny_pyNext_list_end (I.ok.hd hc) st p.isList (by simp; omega) fun h' eb=>⟨rfl,I.turned (t':=s.toks) (fun b o hb e=>eb b o hb e) f0 f1 f3 f4 f5⟩
  self:=fun _ _ _ _ _ st h=>wpAny_pyIter_listiter st h
theorem turn_tuple {P:Program} {w:World} {K:PySem.W.Frag} {tg:Expr} (a it:Addr):Turn P w K tg (Itt K a) [it] it (fun i h=>h.IsTupleIter it a i) where
  mem:=by simp
  obj:=fun i h st b hb=>by
    have e:b = it:=by simpa using hb
    subst e
    obtain ⟨o,e,c,d⟩:=st
    exact ⟨o,e,fun v z=>by rw [d] at z; cases z⟩
  keep:=fun i h h' st k=>st.at fun o e=>k it (by simp) o e
  item:=by
    intro X hP hw hK hc i pins s σ H E I hf st hg
    subst hP hw hK
    obtain ⟨xs,x,hq,hx⟩:=hg
    obtain ⟨its,rv,p,hz⟩:=I.tuple hq
    obtain ⟨u,hu,ru⟩:=rv.get hx
    obtain ⟨f0,f1,f2,f3,f4,f5⟩:=hf it (by simp)
    refine wpAny_pyNext_tuple_item st (show s.heap.IsTuple a its.toArray from p) (x:=u) (by simpa using hu) fun h' st' sb=>?_
    have I1:Inv X pins σ H { s with heap:=h' }:=I.turned (t':=s.toks) (fun b o hb e=>(sb.2 b hb).trans e) f0 f1 f3 f4 f5
    obtain ⟨o,e,c,d⟩:=id st'
    exact ⟨u,rfl,go_of (s:={ s with heap:=h' }) e c d (by decide) ⟨x,H,I1,ru,⟨rfl,fun ys hy=>by rw [I.tuple_inj hy hq]; exact hx⟩,st',fun b hb=>(hf b hb).1⟩⟩
  done:=by
    intro X hP hw hK hc i pins s σ H E I hf st hg
    subst hP hw hK
    obtain ⟨xs,hq,hx⟩:=hg
    obtain ⟨its,rv,p,hz⟩:=I.tuple hq
    obtain ⟨f0,f1,f2,f3,f4,f5⟩:=hf it (by simp)
    have hl:=rv.length
    exact wpAny_pyNext_tuple_end (I.ok.hd hc) st (show s.heap.IsTuple a its.toArray from p) (by simp; omega) fun h' eb=>⟨rfl,I.turned (t':=s.toks) (fun b o hb e=>eb b o hb e) f0 f1 f3 f4 f5⟩
  self:=fun _ _ _ _ _ st h=>wpAny_pyIter_tupleiter st h
theorem turn_range {P:Program} {w:World} {K:PySem.W.Frag} {tg:Expr} (it:Addr) (lo:Int) (n:Nat):Turn P w K tg (Itr lo n) [it] it (fun i h=>IsRangeIter h it (lo + (i:Nat) * 1) ((n:Int) - (i:Nat)) 1) where
  mem:=by simp
  obj:=fun i h st b hb=>by
    have e:b = it:=by simpa using hb
    subst e
    exact ⟨_,st,fun v z=>by
      have z':Data.fields _ = Data.cell v:=z
      cases z'⟩
  keep:=fun i h h' st k=>k it (by simp) _ st
  item:=by
    intro X hP hw hK hc i pins s σ H E I hf st hg
    subst hP hw hK
    obtain ⟨f0,f1,f2,f3,f4,f5⟩:=hf it (by simp)
    have W:=Walks.range (prog:=X.prog) (w:=X.w) (I.ok.hd hc) it lo 1 n
    refine W.item i s _ _ hg st fun v h' tk hv st' kk=>?_
    obtain ⟨t,rfl⟩:=hv
    have I1:Inv X pins σ H { s with heap:=h',toks:=tk }:=I.turned (fun b o hb e=>kk b o (by simpa using hb) e) f0 f1 f3 f4 f5
    refine ⟨_,rfl,go_of (s:={ s with heap:=h',toks:=tk }) (n:="range_iterator") st' rfl rfl (by decide) ⟨.int (lo + i),H,I1,⟨t,?_⟩,⟨rfl,rfl⟩,st',fun b hb=>(hf b hb).1⟩⟩
    rw [Int.mul_one]
  done:=by
    intro X hP hw hK hc i pins s σ H E I hf st hg
    subst hP hw hK
    obtain ⟨f0,f1,f2,f3,f4,f5⟩:=hf it (by simp)
    exact wpAny_pyNext_range_end (I.ok.hd hc) st (by have:n ≤ i:=hg; omega) fun h' eb=>⟨rfl,I.turned (t':=s.toks) (fun b o hb e=>eb b o hb e) f0 f1 f3 f4 f5⟩
  self:=fun _ _ _ _ _ st h=>wpAny_pyIter_rangeiter st h
end L2
namespace L2
open PySem PySem.Spec PyProof.Rows
section
variable {X:Cx} {tg:Expr}
theorem range_it {pins:List (Addr × Obj)} {σ:St} {H:Hp} {s:Shared} {R:It → Hp → Prop} {E:Value → Shared → Prop} {lo hi:Int} {t u v:Tok} {tk:Nat} (I:Inv X pins σ H s) (h1:-(2 ^ 62) ≤ lo) (h2:lo < 2 ^ 62) (h3:-(2 ^ 62) ≤ hi) (h4:hi < 2 ^ 62)
    (q:R (Itr lo (hi - lo).toNat) H):wpAny (model X.prog X.w) X.A (pyIter (.ref s.heap.objs.size)) (PIE X pins σ tg R) E { s with heap:=s.heap.push { cls:=.type "range",data:=.fields #[.int lo t,.int hi u,.int 1 v] },toks:=tk }:=by
  refine wpAny_pyIter_range (IsRange.new ..) (small_one h1 h2 h3 h4) ?_
  have I1:Inv X pins σ H { s with heap:=s.heap.push { cls:=.type "range",data:=.fields #[.int lo t,.int hi u,.int 1 v] },toks:=tk }:=I.kept fun b o e=>Heap.get?_push_of_some _ e
  refine ⟨(s.heap.push { cls:=.type "range",data:=.fields #[.int lo t,.int hi u,.int 1 v] }).objs.size,[(s.heap.push { cls:=.type "range",data:=.fields #[.int lo t,.int hi u,.int 1 v] }).objs.size],_,_,H,rfl,
    I1.kept (t':=tk) fun b o e=>Heap.get?_push_of_some _ e,turn_range _ lo (hi - lo).toNat,?_,fun b hb=>?_,q⟩
  · have e1:lo + ((0:Nat):Int) * 1 = lo:=by simp
    have e2:(((hi - lo).toNat:Nat):Int) - ((0:Nat):Int) = Builtin.Range.rangeSize lo hi 1:=by rw [rangeSize_one]; split <;> omega
    show IsRangeIter _ _ (lo + ((0:Nat):Int) * 1) ((((hi - lo).toNat:Nat):Int) - ((0:Nat):Int)) 1
    rw [e1,e2]
    exact Heap.get?_push_size _ rfl
  · have e:b = (s.heap.push { cls:=.type "range",data:=.fields #[.int lo t,.int hi u,.int 1 v] }).objs.size:=by simpa using hb
    subst e
    exact I1.fpOk (Nat.le_refl _) (I1.hok.fresh (Nat.le_refl _))
def iRng1 (ta:TA):TI:=fun σ H R=>ta σ H fun vs H1=>∃ j:Int,vs = [.int j] ∧ -(2 ^ 62) ≤ j ∧ j < 2 ^ 62 ∧ R (Itr 0 j.toNat) H1
theorem pi_range1 {a:Expr} {ta:TA} {p pos:Pos} (hg:Gl X "range") (hm:X.mg "range" = none) (ha:PA X [a] ta) (hs:starEach [a] X.env = [(false,eval a X.env)]:=by rfl):PI X tg (.Call (.Name "range" p) [a] [] pos) (iRng1 ta):=by
  intro pins s σ H R I h
  refine Call_ (ld_blt I hg hm boot_range (PyProof.Rows.callWith_type1 (thn (ha pos pins s σ H _ I h) fun us s1 ⟨vs,H1,I1,r1,q1⟩=>?_) hs rfl))
  obtain ⟨j,e,q1,q2,q⟩:=q1
  subst e
  cases r1 with
  | cons r rr =>
    cases rr
    obtain ⟨t,rfl⟩:=r
    exact call_range_1 (range_it I1 (by omega) (by omega) q1 q2 (by simpa using q))
def tFor (wi:TI) (g:TG) (tb:TS):TS:=fun D σ H=>wi σ H fun J H1=>∃ W:Nat → Nat → St → Hp → Prop,(∃ m,W 0 m σ H1) ∧ ∀ i m σ H,W i m σ H →
  (J.stop i H ∧ D.nx σ H) ∨ (J.go i H ∧ ∃ N:St → Hp → Prop,(∀ σ' H',N σ' H' → ∃ m',m' < m ∧ W (i + 1) m' σ' H') ∧ ∀ x H',J.yld i H x H' → g x σ H' fun σ2 H2=>tb { D with nx:=N,ct:=N,bk:=D.nx } σ2 H2)
def pinsAt (fp:List Addr) (h:Heap):List (Addr × Obj):=fp.filterMap fun b=>(h.get? b).map fun o=>(b,o)
theorem mem_pinsAt {fp:List Addr} {h:Heap} {b:Addr} {o:Obj} (hb:b ∈ fp) (e:h.get? b = some o):(b,o) ∈ pinsAt fp h:=List.mem_filterMap.mpr ⟨b,hb,by rw [e]; rfl⟩
theorem of_pinsAt {fp:List Addr} {h:Heap} {p:Addr × Obj} (hp:p ∈ pinsAt fp h):p.1 ∈ fp ∧ h.get? p.1 = some p.2:=by
  obtain ⟨b,hb,e⟩:=List.mem_filterMap.mp hp
  cases q:h.get? b with
  | none=>rw [q] at e; cases e
  | some o =>
    rw [q] at e
    have e':(b,o) = p:=Option.some.inj e
    subst e'
    exact ⟨hb,q⟩
theorem Inv.pinned {pins:List (Addr × Obj)} {σ:St} {H:Hp} {s:Shared} {fp:List Addr} (I:Inv X pins σ H s) (hf:∀ b ∈ fp,FpOk X pins H b) (ho:∀ b ∈ fp,∃ o,s.heap.get? b = some o ∧ ∀ v,o.data ≠ .cell v):Inv X (pins ++ pinsAt fp s.heap) σ H s :=
  I.pins_of fun p hp=>(List.mem_append.mp hp).elim (fun z=>I.pin p (List.mem_append_right _ z)) fun z=>by
    obtain ⟨hb,e⟩:=of_pinsAt z
    obtain ⟨f0,f1,f2,_⟩:=hf p.1 hb
    obtain ⟨o,e',d⟩:=ho p.1 hb
    rw [e] at e'; cases e'
    exact ⟨e,f0,f1,f2,d⟩
theorem Inv.unpinned {pins pl:List (Addr × Obj)} {σ:St} {H:Hp} {s:Shared} (I:Inv X (pins ++ pl) σ H s):Inv X pins σ H s:=I.pins_of fun p hp=>I.pin p (List.mem_append_right _ (List.mem_append_left _ hp))
theorem ps_for {iter:Expr} {body:List Stmt} {wi:TI} {g:TG} {tb:TS} {pos:Pos} (hp:PassesOwn (model X.prog X.w) X.A X.env X.xe) (hc:X.calm = true) (hi:PI X tg iter wi) (hg:PG X tg g) (hb:PSs X body tb)
    (hs:∀ x,foldedSetIterable iter X.env x = pure x:=by intro _; rfl):PS X (.For tg iter body [] pos) (tFor wi g tb):=by
  intro pins s σ H D I h
  refine wpAny_For (thn (hi pins s σ H _ I h) fun v s1 h1=>thn h1 fun itv s2 h2=>?_) hs
  obtain ⟨it,fp,tn,J,H2,e,I2,T,st2,f2,W,⟨m0,w0⟩,turn⟩:=h2
  subst e
  have stat:∀ {H':Hp},(∀ b ∈ fp,H' b = none) → ∀ b ∈ fp,FpOk X pins H' b:=fun hn b hb=>⟨hn b hb,(f2 b hb).2⟩
  refine codeAny_forLoop_any (fun n s'=>∃ i σ' H',Inv X pins σ' H' s' ∧ tn i s'.heap ∧ (∀ b ∈ fp,H' b = none) ∧ W i n σ' H') ?_ m0 ⟨0,σ,H2,I2,st2,fun b hb=>(f2 b hb).1,w0⟩
  rintro n s3 ⟨i,σ3,H3,I3,st3,fr3,w3⟩
  rcases turn i n σ3 H3 w3 with ⟨stop,qn⟩ | ⟨go,N,hN,step⟩
  · refine wpAny_passesOwn hp (thn (T.done X rfl rfl rfl hc i pins s3 σ3 H3 X.xe I3 (stat fr3) st3 stop) fun r s4 ⟨hr,I4⟩=>?_)
    subst hr
    exact wpAny_execs_nil ⟨σ3,H3,I4,qn⟩
  · refine wpAny_passesOwn hp (thn (T.item X rfl rfl rfl hc i pins s3 σ3 H3 X.xe I3 (stat fr3) st3 go) fun r s4 ⟨u,hr,h4⟩=>?_)
    subst hr
    refine wpAny_passesOwn hp (thn h4 fun _ s5 ⟨x,H5,I5,r5,y5,st5,fr5⟩=>?_)
    have I5':=I5.pinned (stat fr5) (T.obj _ _ st5)
    refine wpAny_passesOwn hp (thn (hg _ s5 σ3 H5 x u _ I5' r5 (step x H5 y5)) fun _ s6 ⟨σ6,H6,I6,q6⟩=>?_)
    refine wpAny_passesOwn hp (thn (hb _ s6 σ6 H6 _ I6 q6) fun f s7 q7=>?_)
    have again:∀ {σ7:St} {H7:Hp},Inv X (pins ++ pinsAt fp s5.heap) σ7 H7 s7 → N σ7 H7 → ∃ m,m < n ∧ ∃ i σ' H',Inv X pins σ' H' s7 ∧ tn i s7.heap ∧ (∀ b ∈ fp,H' b = none) ∧ W i m σ' H':=fun {σ7 H7} I7 n7=>by
      obtain ⟨m',hm,w7⟩:=hN σ7 H7 n7
      refine ⟨m',hm,i + 1,σ7,H7,I7.unpinned,T.keep _ _ _ st5 fun b hb o e=>(I7.pin (b,o) (List.mem_append_right _ (List.mem_append_right _ (mem_pinsAt hb e)))).1,fun b hb=>?_,w7⟩
      obtain ⟨o,e,d⟩:=T.obj _ _ st5 b hb
      exact (I7.pin (b,o) (List.mem_append_right _ (List.mem_append_right _ (mem_pinsAt hb e)))).2.1
    cases f with
    | next=>obtain ⟨σ7,H7,I7,n7⟩:=q7; exact again I7 n7
    | cont=>obtain ⟨σ7,H7,I7,n7⟩:=q7; exact again I7 n7
    | brk=>obtain ⟨σ7,H7,I7,q7⟩:=q7; exact ⟨σ7,H7,I7.unpinned,q7⟩
    | ret v=>obtain ⟨x7,σ7,H7,I7,r7,q7⟩:=q7; exact ⟨x7,σ7,H7,I7.unpinned,r7,q7⟩
end
end L2
namespace L2
open PySem PySem.Spec PyProof.Rows
abbrev R2:=V → V → Hp → VK → Prop
def OpR (X:Cx) (f:Value → Value → Sem Value) (r:R2):Prop :=
  ∀ (pins:List (Addr × Obj)) (s:Shared) (σ:St) (H:Hp) (x y:V) (v u:Value) (Q:VK),Inv X pins σ H s → RelV x v → RelV y u → r x y H Q →
    wpAny (model X.prog X.w) X.A (f v u) (EP X pins σ Q) X.xe s
def UnR (X:Cx) (f:Value → Sem Value) (r:V → Hp → VK → Prop):Prop :=
  ∀ (pins:List (Addr × Obj)) (s:Shared) (σ:St) (H:Hp) (x:V) (v:Value) (Q:VK),Inv X pins σ H s → RelV x v → r x H Q →
    wpAny (model X.prog X.w) X.A (f v) (EP X pins σ Q) X.xe s
def CallR (X:Cx) (f:Value) (r:List V → Hp → VK → Prop):Prop :=
  ∀ (pins:List (Addr × Obj)) (s:Shared) (σ:St) (H:Hp) (xs:List V) (us:List Value) (Q:VK),Inv X pins σ H s → Vals xs us → r xs H Q →
    wpAny (model X.prog X.w) X.A (call f us) (EP X pins σ Q) X.xe s
def TruR (X:Cx) (r:V → Hp → (Bool → Hp → Prop) → Prop):Prop :=
  ∀ (pins:List (Addr × Obj)) (s:Shared) (σ:St) (H:Hp) (x:V) (v:Value) (Q:Bool → Hp → Prop),Inv X pins σ H s → RelV x v → r x H Q →
    wpAny (model X.prog X.w) X.A (truthy v) (TP X pins σ Q) X.xe s
def tOp (r:R2) (ta tb:TE):TE:=fun σ H Q=>ta σ H fun x H1=>tb σ H1 fun y H2=>r x y H2 Q
def tUn (r:V → Hp → VK → Prop) (ta:TE):TE:=fun σ H Q=>ta σ H fun x H1=>r x H1 Q
def rI (C:Int → Int → Prop) (g:Int → Int → V):R2:=fun x y H Q=>∃ i j,x = .int i ∧ y = .int j ∧ C i j ∧ Q (g i j) H
def rI0 (g:Int → Int → V):R2:=fun x y H Q=>∃ i j,x = .int i ∧ y = .int j ∧ Q (g i j) H
def rU (g:Int → V):V → Hp → VK → Prop:=fun x H Q=>∃ i,x = .int i ∧ Q (g i) H
section
variable {X:Cx} {a b c:Expr} {ta tb tc:TE} {pos:Pos}
theorem binT (ha:PE X a ta) (hb:PE X b tb) {pins:List (Addr × Obj)} {s:Shared} {σ:St} {H:Hp} {R:V → V → Hp → Prop} (I:Inv X pins σ H s)
    (h:ta σ H fun x H1=>tb σ H1 fun y H2=>R x y H2) {Q:Value → Shared → Prop} {f:Value → Value → Sem Value}
    (hf:∀ v u s2 x y H2,Inv X pins σ H2 s2 → RelV x v → RelV y u → R x y H2 → wpAny (model X.prog X.w) X.A (f v u) Q X.xe s2) :
    wpAny (model X.prog X.w) X.A (eval a X.env) (fun v s₁=>wpAny (model X.prog X.w) X.A (eval b X.env) (fun u s₂=>wpAny (model X.prog X.w) X.A (f v u) Q X.xe s₂) X.xe s₁) X.xe s:=by
  refine thn (ha pins s σ H _ I h) fun v s1 ⟨x,H1,I1,r1,q1⟩=>?_
  refine thn (hb pins s1 σ H1 _ I1 q1) fun u s2 ⟨y,H2,I2,r2,q2⟩=>?_
  exact hf v u s2 x y H2 I2 r1 r2 q2
theorem pe_op {op:Operator} {r:R2} (ho:OpR X (binaryOp op) r) (ha:PE X a ta) (hb:PE X b tb):PE X (.BinOp a op b pos) (tOp r ta tb):=by
  intro pins s σ H Q I h
  exact wpAny_BinOp (binT ha hb I h fun v u s2 x y H2 I2 rx ry q=>ho pins s2 σ H2 x y v u Q I2 rx ry q)
theorem pe_un {op:UnaryOp} {r:V → Hp → VK → Prop} (ho:UnR X (unaryOp op) r) (ha:PE X a ta):PE X (.UnaryOp op a pos) (tUn r ta):=by
  intro pins s σ H Q I h
  exact UnaryOp_ (thn (ha pins s σ H _ I h) fun v s1 ⟨x,H1,I1,r1,q1⟩=>ho pins s1 σ H1 x v Q I1 r1 q1)
theorem opI {f:Value → Value → Sem Value} {C:Int → Int → Prop} {g:Int → Int → Int}
    (rule:∀ (i j:Int) (t u:Tok) (s:Shared) (Q:Value → Shared → Prop) (E:Value → Shared → Prop),C i j → Q (.int (g i j) s.toks) { s with toks:=s.toks + 1 } → wpAny (model X.prog X.w) X.A (f (.int i t) (.int j u)) Q E s) :
    OpR X f (rI C fun i j=>.int (g i j)):=by
  intro pins s σ H x y v u Q I rx ry h
  obtain ⟨i,j,rfl,rfl,hc,q⟩:=h
  obtain ⟨t,rfl⟩:=rx
  obtain ⟨t',rfl⟩:=ry
  exact rule i j t t' s _ _ hc ⟨.int (g i j),H,I.tok _,⟨_,rfl⟩,q⟩
theorem opI0 {f:Value → Value → Sem Value} {g:Int → Int → Int}
    (rule:∀ (i j:Int) (t u:Tok) (s:Shared) (Q:Value → Shared → Prop) (E:Value → Shared → Prop),Q (.int (g i j) s.toks) { s with toks:=s.toks + 1 } → wpAny (model X.prog X.w) X.A (f (.int i t) (.int j u)) Q E s) :
    OpR X f (rI0 fun i j=>.int (g i j)):=by
  intro pins s σ H x y v u Q I rx ry h
  obtain ⟨i,j,rfl,rfl,q⟩:=h
  obtain ⟨t,rfl⟩:=rx
  obtain ⟨t',rfl⟩:=ry
  exact rule i j t t' s _ _ ⟨.int (g i j),H,I.tok _,⟨_,rfl⟩,q⟩
theorem opB0 {f:Value → Value → Sem Value} {g:Int → Int → Bool}
    (rule:∀ (i j:Int) (t u:Tok) (s:Shared) (Q:Value → Shared → Prop) (E:Value → Shared → Prop),Q (.bool (g i j)) s → wpAny (model X.prog X.w) X.A (f (.int i t) (.int j u)) Q E s) :
    OpR X f (rI0 fun i j=>.bl (g i j)):=by
  intro pins s σ H x y v u Q I rx ry h
  obtain ⟨i,j,rfl,rfl,q⟩:=h
  obtain ⟨t,rfl⟩:=rx
  obtain ⟨t',rfl⟩:=ry
  exact rule i j t t' s _ _ ⟨.bl (g i j),H,I,rfl,q⟩
def CPow (i j:Int):Prop:=0 ≤ j ∧ j ≤ 1000000 ∧ i.natAbs < 2 ^ 64
def CMul (i j:Int):Prop:=(-(2 ^ 64) < i ∧ i < 2 ^ 64) ∨ (-(2 ^ 64) < j ∧ j < 2 ^ 64)
theorem CMul.ok {i j:Int} (h:CMul i j):IntMulOk i j:=by
  rcases h with ⟨h1,h2⟩ | ⟨h1,h2⟩
  · exact .of_left (intBits_le_64 h1 h2)
  · exact .of_right (intBits_le_64 h1 h2)
theorem op_add:OpR X (binaryOp .Add) (rI0 fun i j=>.int (i + j)):=opI0 fun _ _ _ _ _ _ _ q=>add_int q
theorem op_sub:OpR X (binaryOp .Sub) (rI0 fun i j=>.int (i - j)):=opI0 fun _ _ _ _ _ _ _ q=>sub_int q
theorem op_mod:OpR X (binaryOp .Mod) (rI (fun _ j=>0 < j) fun i j=>.int (i % j)):=opI fun i j _ _ _ _ _ hc q=>by
  have h1:(0:Int) < j:=hc
  exact mod_int' (by omega) (by rw [Int.fmod_eq_emod_of_nonneg i (by omega)]; exact q)
theorem op_pow:OpR X (binaryOp .Pow) (rI CPow fun i j=>.int (i ^ j.toNat)):=opI fun _ _ _ _ _ _ _ hc q=>pow_int_small hc.1 hc.2.1 hc.2.2 q
theorem unI {f:Value → Sem Value} {g:Int → Int}
    (rule:∀ (i:Int) (t:Tok) (s:Shared) (Q:Value → Shared → Prop) (E:Value → Shared → Prop),Q (.int (g i) s.toks) { s with toks:=s.toks + 1 } → wpAny (model X.prog X.w) X.A (f (.int i t)) Q E s) :
    UnR X f (rU fun i=>.int (g i)):=by
  intro pins s σ H x v Q I rx h
  obtain ⟨i,rfl,q⟩:=h
  obtain ⟨t,rfl⟩:=rx
  exact rule i t s _ _ ⟨.int (g i),H,I.tok _,⟨_,rfl⟩,q⟩
theorem un_neg:UnR X (unaryOp .USub) (rU fun i=>.int (-i)):=unI fun _ _ _ _ _ q=>neg_int q
end
def scal:V → V → Bool
  | .non,.non=>true | .non,.int _=>true | .int _,.non=>true | .non,.bl _=>true | .bl _,.non=>true | .non,.str _=>true | .str _,.non=>true
  | .int _,.int _=>true | .bl _,.bl _=>true | .str _,.str _=>true | .byt _,.byt _=>true
  | .int _,.str _=>true | .str _,.int _=>true | .bl _,.str _=>true | .str _,.bl _=>true
  | _,_=>false
def rEq:R2:=fun x y H Q=>scal x y = true ∧ Q (.bl (decide (x = y))) H
def rNe:R2:=fun x y H Q=>scal x y = true ∧ Q (.bl (!decide (x = y))) H
theorem dec_int {i j:Int}:decide (V.int i = V.int j) = (i == j):=by
  rw [Bool.eq_iff_iff]
  simp
theorem dec_bl {i j:Bool}:decide (V.bl i = V.bl j) = (i == j):=by
  rw [Bool.eq_iff_iff]
  simp
theorem dec_str {i j:Str}:decide (V.str i = V.str j) = (i == j):=by
  rw [Bool.eq_iff_iff]
  simp
theorem dec_byt {i j:Array UInt8}:decide (V.byt i = V.byt j) = (i.toList == j.toList):=by
  rw [Bool.eq_iff_iff]
  cases i
  cases j
  simp
section
variable {X:Cx} {a b c:Expr} {ta tb tc:TE} {pos:Pos}
theorem fin_bl {pins:List (Addr × Obj)} {σ:St} {H:Hp} {s:Shared} {Q:VK} {k k':Bool} (I:Inv X pins σ H s) (q:Q (.bl k) H) (e:k = k'):EP X pins σ Q (.bool k') s:=by
  subst e
  exact ⟨.bl k,H,I,rfl,q⟩
theorem op_eq:OpR X (compareOp .Eq) rEq:=by
  intro pins s σ H x y v u Q I rx ry h
  obtain ⟨hs,q⟩:=h
  cases x with
  | non =>
    cases rx
    cases y with
    | non=>cases ry; exact PySem.EqNone.eq_none_none (fin_bl I q (by simp))
    | bl j=>cases ry; exact PySem.EqNone.eq_none_bool (fin_bl I q (by simp))
    | int j=>obtain ⟨t',rfl⟩:=ry; exact PySem.EqNone.eq_none_int (fin_bl I q (by simp))
    | str j=>obtain ⟨t',rfl⟩:=ry; exact PySem.EqNone.eq_none_str (fin_bl I q (by simp))
    | _=>exact absurd (show false = true from hs) Bool.false_ne_true
  | bl i =>
    cases rx
    cases y with
    | non=>cases ry; exact PySem.EqNone.eq_bool_none (fin_bl I q (by simp))
    | bl j=>cases ry; exact eq_bool (fin_bl I q dec_bl)
    | str j=>obtain ⟨t',rfl⟩:=ry; exact PySem.EqMixed.eq_bool_str (fin_bl I q (by simp))
    | _=>exact absurd (show false = true from hs) Bool.false_ne_true
  | int i =>
    obtain ⟨t,rfl⟩:=rx
    cases y with
    | non=>cases ry; exact PySem.EqNone.eq_int_none (fin_bl I q (by simp))
    | int j=>obtain ⟨t',rfl⟩:=ry; exact eq_int (fin_bl I q dec_int)
    | str j=>obtain ⟨t',rfl⟩:=ry; exact PySem.EqMixed.eq_int_str (fin_bl I q (by simp))
    | _=>exact absurd (show false = true from hs) Bool.false_ne_true
  | str i =>
    obtain ⟨t,rfl⟩:=rx
    cases y with
    | non=>cases ry; exact PySem.EqNone.eq_str_none (fin_bl I q (by simp))
    | bl j=>cases ry; exact PySem.EqMixed.eq_str_bool (fin_bl I q (by simp))
    | int j=>obtain ⟨t',rfl⟩:=ry; exact PySem.EqMixed.eq_str_int (fin_bl I q (by simp))
    | str j=>obtain ⟨t',rfl⟩:=ry; exact eq_str (fin_bl I q dec_str)
    | _=>exact absurd (show false = true from hs) Bool.false_ne_true
  | byt i =>
    obtain ⟨t,rfl⟩:=rx
    cases y with
    | byt j=>obtain ⟨t',rfl⟩:=ry; exact PySem.W.eq_bytes (fin_bl I q dec_byt)
    | _=>exact absurd (show false = true from hs) Bool.false_ne_true
  | _=>cases y <;> exact absurd (show false = true from hs) Bool.false_ne_true
theorem op_ne:OpR X (compareOp .NotEq) rNe:=by
  intro pins s σ H x y v u Q I rx ry h
  obtain ⟨hs,q⟩:=h
  cases x with
  | non =>
    cases rx
    cases y with
    | non=>cases ry; exact PySem.EqNone.ne_none_none (fin_bl I q (by simp))
    | bl j=>cases ry; exact PySem.EqNone.ne_none_bool (fin_bl I q (by simp))
    | int j=>obtain ⟨t',rfl⟩:=ry; exact PySem.EqNone.ne_none_int (fin_bl I q (by simp))
    | str j=>obtain ⟨t',rfl⟩:=ry; exact PySem.EqNone.ne_none_str (fin_bl I q (by simp))
    | _=>exact absurd (show false = true from hs) Bool.false_ne_true
  | bl i =>
    cases rx
    cases y with
    | non=>cases ry; exact PySem.EqNone.ne_bool_none (fin_bl I q (by simp))
    | bl j=>cases ry; exact ne_bool (fin_bl I q (congrArg not dec_bl))
    | str j=>obtain ⟨t',rfl⟩:=ry; exact PySem.EqMixed.ne_bool_str (fin_bl I q (by simp))
    | _=>exact absurd (show false = true from hs) Bool.false_ne_true
  | int i =>
    obtain ⟨t,rfl⟩:=rx
    cases y with
    | non=>cases ry; exact PySem.EqNone.ne_int_none (fin_bl I q (by simp))
    | int j=>obtain ⟨t',rfl⟩:=ry; exact ne_int (fin_bl I q (congrArg not dec_int))
    | str j=>obtain ⟨t',rfl⟩:=ry; exact PySem.EqMixed.ne_int_str (fin_bl I q (by simp))
    | _=>exact absurd (show false = true from hs) Bool.false_ne_true
  | str i =>
    obtain ⟨t,rfl⟩:=rx
    cases y with
    | non=>cases ry; exact PySem.EqNone.ne_str_none (fin_bl I q (by simp))
    | bl j=>cases ry; exact PySem.EqMixed.ne_str_bool (fin_bl I q (by simp))
    | int j=>obtain ⟨t',rfl⟩:=ry; exact PySem.EqMixed.ne_str_int (fin_bl I q (by simp))
    | str j=>obtain ⟨t',rfl⟩:=ry; exact ne_str (fin_bl I q (congrArg not dec_str))
    | _=>exact absurd (show false = true from hs) Bool.false_ne_true
  | byt i =>
    obtain ⟨t,rfl⟩:=rx
    cases y with
    | byt j=>obtain ⟨t',rfl⟩:=ry; exact PySem.W.ne_bytes (fin_bl I q (congrArg not dec_byt))
    | _=>exact absurd (show false = true from hs) Bool.false_ne_true
  | _=>cases y <;> exact absurd (show false = true from hs) Bool.false_ne_true
theorem op_lt:OpR X (compareOp .Lt) (rI0 fun i j=>.bl (decide (i < j))):=opB0 fun _ _ _ _ _ _ _ q=>lt_int q
theorem op_le:OpR X (compareOp .LtE) (rI0 fun i j=>.bl (decide (i ≤ j))):=opB0 fun _ _ _ _ _ _ _ q=>le_int q
theorem op_gt:OpR X (compareOp .Gt) (rI0 fun i j=>.bl (decide (j < i))):=opB0 fun _ _ _ _ _ _ _ q=>gt_int q
theorem nomark (b:Expr) {op:CmpOp} (h:op ≠ .In:=by decide) (h2:op ≠ .NotIn:=by decide):behindInMarks op b = false:=by
  have e1:(op == CmpOp.In) = false:=by cases op <;> first | rfl | exact absurd rfl h
  have e2:(op == CmpOp.NotIn) = false:=by cases op <;> first | rfl | exact absurd rfl h2
  cases b <;> simp [behindInMarks,e1,e2]
def TruV (K:PySem.W.Frag) (x:V) (H:Hp) (k:Bool):Prop :=
  match x with
  | .non=>k = false
  | .bl b=>k = b
  | .int i=>k = (i != 0)
  | .str y=>y.length ≤ sizeLine ∧ k = ((y.length:Int) != 0)
  | .byt y=>y.size ≤ sizeLine ∧ k = ((y.size:Int) != 0)
  | .ref p=>(∃ xs,SqL K H p xs ∧ k = !xs.isEmpty) ∨ (∃ xs,SqT K H p xs ∧ k = !xs.isEmpty) ∨ ∃ kvs,H p = some (.dK kvs) ∧ k = !kvs.isEmpty
  | _=>False
theorem isEmpty_kv {κ:Type} {kvs:List (κ × V)} {vs:List (κ × Value)} (r:KV kvs vs):(!vs.isEmpty) = !kvs.isEmpty:=by
  cases r <;> rfl
theorem isEmpty_of {xs:List V} {its:List Value} (r:Vals xs its):(!its.toArray.isEmpty) = !xs.isEmpty:=by
  cases r <;> simp
theorem line63:(sizeLine:Nat) < 2 ^ 63:=by rw [sizeLine_eq]; decide
theorem tru_ok:TruR X (fun x H Q=>∃ k,TruV X.K x H k ∧ Q k H):=by
  intro pins s σ H x v Q I rx h
  obtain ⟨k,e,q⟩:=h
  have hl:=line63
  have hs:sizeLine = 16777216:=sizeLine_eq
  cases x with
  | non =>
    cases rx
    have e':k = false:=e
    subst e'
    exact truthy_none ⟨H,I,q⟩
  | bl b =>
    cases rx
    have e':k = b:=e
    subst e'
    exact wpAny_truthy_bool ⟨H,I,q⟩
  | int i =>
    obtain ⟨t,rfl⟩:=rx
    have e':k = (i != 0):=e
    subst e'
    exact PySem.P.truthy_int ⟨H,I,q⟩
  | str y =>
    obtain ⟨t,rfl⟩:=rx
    obtain ⟨hy,e'⟩:y.length ≤ sizeLine ∧ k = ((y.length:Int) != 0):=e
    subst e'
    exact PySem.P.truthy_str (by omega) ⟨H,I.tok _,q⟩
  | byt y =>
    obtain ⟨t,rfl⟩:=rx
    obtain ⟨hy,e'⟩:y.size ≤ sizeLine ∧ k = ((y.size:Int) != 0):=e
    subst e'
    exact PySem.W.truthy_bytes (by omega) ⟨H,I.tok _,q⟩
  | ref p =>
    cases rx
    have e':(∃ xs,SqL X.K H p xs ∧ k = !xs.isEmpty) ∨ (∃ xs,SqT X.K H p xs ∧ k = !xs.isEmpty) ∨ ∃ kvs,H p = some (.dK kvs) ∧ k = !kvs.isEmpty:=e
    rcases e' with ⟨xs,hx,e'⟩ | ⟨xs,hx,e'⟩ | ⟨kvs,hx,e'⟩
    · subst e'
      obtain ⟨its,r,pl,hz⟩:=I.list hx
      have hlen:=r.length
      exact wpAny_truthy_list pl.isList (by simp only [List.size_toArray]; omega) ⟨H,I.tok _,by rw [isEmpty_of r]; exact q⟩
    · subst e'
      obtain ⟨its,r,pl,hz⟩:=I.tuple hx
      have hlen:=r.length
      exact truthy_tuple pl (by simp only [List.size_toArray]; omega) ⟨H,I.tok _,by rw [isEmpty_of r]; exact q⟩
    · subst e'
      obtain ⟨hz,hS,vs,r,m⟩:kvs.length ≤ sizeLine ∧ (p == sysModules) = false ∧ ∃ vs,KV kvs vs ∧ s.heap.DictOf (mixKind X.prog X.w) p vs:=I.hok p _ hx
      have hlen:kvs.length = vs.length:=Paired.length r
      exact wpAny_truthy_dict hS m (by omega) ⟨H,I.tok _,by rw [isEmpty_kv r]; exact q⟩
  | _=>exact (show False from e).elim
theorem op_add_str:OpR X (binaryOp .Add) (fun x y H Q=>∃ i j,x = .str i ∧ y = .str j ∧ i.length + j.length ≤ sizeLine ∧ Q (.str (i ++ j)) H):=by
  intro pins s σ H x y v u Q I rx ry h
  obtain ⟨i,j,rfl,rfl,hz,q⟩:=h
  obtain ⟨t,rfl⟩:=rx
  obtain ⟨t',rfl⟩:=ry
  exact add_str (fun t' tk=>⟨.str (i ++ j),H,I.tok _,⟨_,rfl⟩,q⟩) hz
theorem vals1 {x:V} {us:List Value} (r:Vals [x] us):∃ u,us = [u] ∧ RelV x u:=by
  cases r with
  | cons r1 r2=>cases r2; exact ⟨_,rfl,r1⟩
theorem vals2 {x y:V} {us:List Value} (r:Vals [x,y] us):∃ u w',us = [u,w'] ∧ RelV x u ∧ RelV y w':=by
  cases r with
  | cons r1 r2 =>
    cases r2 with
    | cons r3 r4=>cases r4; exact ⟨_,_,rfl,r1,r3⟩
end
end L2
namespace L2
open PySem PySem.Spec PyProof.Rows
structure ObjM (h:Heap) (x dx C:Addr) (mA:Str → Option Value):Prop where
  obj:h.get? x = some (PySem.W.instObj C dx)
  ns:h.Ns1 dx mA
  ne:dx ≠ x
theorem lookIn_ns {h:Heap} {dx:Addr} {mA:Str → Option Value} (n:h.Ns1 dx mA):∃ od,h.get? dx = some od ∧ ∀ name,PySem.W.lookIn name od = some (mA name):=by
  obtain ⟨o,es,ep,ho,hd,hk,_,hm⟩:=n
  refine ⟨o,ho,fun name=>?_⟩
  have e:=hm name
  unfold nsFind findBy at e
  rw [← Array.find?_toList] at e
  unfold PySem.W.lookIn
  rw [hd]
  dsimp only
  split
  · rename_i y q
    rw [q] at e
    exact congrArg some e
  · rename_i q
    rw [q] at e
    have a:es.toList.any (·.refKey) = false:=by
      rw [List.any_eq_false]
      intro y hy
      obtain ⟨z,t,hkey⟩:=hk y (Array.mem_toList_iff.mp hy)
      simp [DictEntry.refKey,hkey]
    have a':¬ es.toList.any (·.refKey) = true:=by rw [a]; exact Bool.false_ne_true
    rw [if_neg a']
    exact congrArg some e
theorem ObjM.look {h:Heap} {x dx C:Addr} {mA:Str → Option Value} (I:ObjM h x dx C mA):∃ od,PySem.W.InstAt h x (PySem.W.instObj C dx) C (some od) ∧ ∀ name,PySem.W.lookIn name od = some (mA name) :=
  let ⟨od,ho,hl⟩:=lookIn_ns I.ns
  ⟨od,⟨I.obj,rfl,rfl,ho⟩,hl⟩
section
variable {prog:Program} {w:World} {A:Around} {E:Value → Shared → Prop} {s:Shared} {K:PySem.W.Frag} {x dx C f:Addr} {mA:Str → Option Value} {name:Str} {v:Value}
end
section
variable {P:Program} {w:World} {H H':Hp} {h h':Heap} {a C dx:Addr} {fs fs':List (Str × V)}
theorem ins_get (hok:HOk P w H h) (e:H a = some (.ins C dx fs)):∃ mA,ObjM h a dx C mA ∧ (∀ f,RelO (fs.lookup f) (mA f)) ∧ PySem.Within mA (fs.map (·.1)) ∧ fs.length ≤ 1000 ∧ H dx = some (.own a):=by
  obtain ⟨d,z,ne,ob,mA,n,r,q⟩:=(show ObjOk P w H h a (.ins C dx fs) from hok a _ e)
  exact ⟨mA,⟨ob,n,ne⟩,r,q,z,d⟩
end
structure Cls (K:PySem.W.Frag) (C:Addr):Prop where
  pg:PySem.W.plainGet K C Str.empty = true
  hd:PySem.W.hasDictIn K C = true
  po:PySem.W.plainOver K C = true
  sa:PySem.W.findIn K (.ref C) "__setattr__" = some (some (.builtin "object.__setattr__"))
theorem Cls.get {K:PySem.W.Frag} {C:Addr} (c:Cls K C) (f:Str):PySem.W.plainGet K C f = true:=c.pg
def NoAttr (K:PySem.W.Frag) (C:Addr) (f:Str):Prop:=PySem.W.findIn K (.ref C) f = some none
structure Con (K:PySem.W.Frag) (C:Addr) (f:Str) (v:V) (u:Value):Prop where
  at_:PySem.W.findIn K (.ref C) f = some (some u)
  rel:RelV v u
  get:PySem.W.specialIn K u "__get__" = some none
  cp:PySem.W.copiedNames.contains f = false
structure Meth (K:PySem.W.Frag) (C:Addr) (m:Str) (f:Addr):Prop where
  at_:PySem.W.findIn K (.ref C) m = some (some (.ref f))
  fn:PySem.W.isFn K (.ref f) = true
  kp:PySem.W.keepIn K (.ref f) = true
section
variable {X:Cx} {pins:List (Addr × Obj)} {σ:St} {H:Hp} {s:Shared} {a C dx:Addr} {fs:List (Str × V)} {f:Str} {v:V} {A:Around} {E:Value → Shared → Prop}
end
section
variable {X:Cx} {o e value:Expr} {f:Str} {pos pos' tpos:Pos} {ta tv:TE}
end
section
variable {X:Cx} {pins:List (Addr × Obj)} {σ:St} {H:Hp} {s:Shared} {A:Around} {E:Value → Shared → Prop} {Q:Value → Shared → Prop} {c:Value} {b:Bool}
inductive TyOf (K:PySem.W.Frag) (H:Hp):V → Value → Prop where
  | non:TyOf K H .non (.type "NoneType")
  | bl (x:Bool):TyOf K H (.bl x) (.type "bool")
  | int (i:Int):TyOf K H (.int i) (.type "int")
  | str (x:Str):TyOf K H (.str x) (.type "str")
  | flt (x:UInt64):TyOf K H (.flt x) (.type "float")
  | lst {a:Addr} {xs:List V} (e:H a = some (.lst xs)):TyOf K H (.ref a) (.type "list")
  | frz {a:Addr} {o:Obj} {xs:List V} (e:H a = some (.frz o (.lst xs))):TyOf K H (.ref a) (.type "list")
  | tup {a:Addr} {xs:List V} (e:H a = some (.tup xs)):TyOf K H (.ref a) (.type "tuple")
  | dK {a:Addr} {kvs:List (Key × V)} (e:H a = some (.dK kvs)):TyOf K H (.ref a) (.type "dict")
  | dT {a:Addr} {kvs:List (List Key × V)} (e:H a = some (.dT kvs)):TyOf K H (.ref a) (.type "dict")
  | ins {a C dx:Addr} {fs:List (Str × V)} (e:H a = some (.ins C dx fs)) (cl:Cls K C) (ha:PySem.W.findIn K (.ref C) "__class__" = some (some (.builtin "object.__class__")))
      (hn:PySem.W.specialIn K (.builtin "object.__class__") "__get__" = some (some (.builtin "getset_descriptor.__get__"))) (htk:PySem.W.takesIn K (.builtin "object.__class__") = some true)
      (hm:PySem.W.mroIn K C (.type "object") = some true):TyOf K H (.ref a) (.ref C)
theorem isinst_ok {x:V} {u t:Value} (I:Inv X pins σ H s) (rx:RelV x u) (ty:TyOf X.K H x t) (e:PySem.W.kitOne X.K t c = some b) (h:∀ tk,Q (.bool b) { s with toks:=tk }) :
    wpAny (model X.prog X.w) A (call (.builtin "isinstance") [u,c]) Q E s:=by
  cases ty with
  | non=>cases (show u = Value.none from rx); exact PySem.W.kia_one PySem.W.kitx_none I.kIn True.intro e (fun z=>nomatch z) h
  | bl y=>cases (show u = Value.bool y from rx); exact PySem.W.kia_one PySem.W.kitx_bool I.kIn True.intro e (fun z=>nomatch z) h
  | int i=>obtain ⟨t,q⟩:=(show ∃ t,u = Value.int i t from rx); cases q; exact PySem.W.kia_one PySem.W.kitx_int I.kIn True.intro e (fun z=>nomatch z) h
  | str y=>obtain ⟨t,q⟩:=(show ∃ t,u = Value.str y t from rx); cases q; exact PySem.W.kia_one PySem.W.kitx_str I.kIn True.intro e (fun z=>nomatch z) h
  | flt y=>obtain ⟨t,q⟩:=(show ∃ t,u = Value.float y t from rx); cases q; exact PySem.W.kia_one PySem.W.kitx_float I.kIn True.intro e (fun z=>nomatch z) h
  | @lst a xs ea =>
    cases (show u = Value.ref a from rx)
    obtain ⟨_,_,n,_,h1⟩:=(show ObjOk X.prog X.w H s.heap a (.lst xs) from I.hok a _ ea)
    exact PySem.W.kia_one PySem.W.kitx_list I.kIn ⟨_,h1,rfl⟩ e (fun z=>nomatch z) h
  | @frz a ob xs ea =>
    cases (show u = Value.ref a from rx)
    obtain ⟨_,_,_,n,_,h1⟩:=(show ObjOk X.prog X.w H s.heap a (.frz ob (.lst xs)) from I.hok a _ ea)
    exact PySem.W.kia_one PySem.W.kitx_list I.kIn ⟨_,h1,rfl⟩ e (fun z=>nomatch z) h
  | @tup a xs ea =>
    cases (show u = Value.ref a from rx)
    obtain ⟨_,_,_,p⟩:=(show ObjOk X.prog X.w H s.heap a (.tup xs) from I.hok a _ ea)
    obtain ⟨o,h1,h2,_⟩:=p
    exact PySem.W.kia_one PySem.W.kitx_tuple I.kIn ⟨o,h1,h2⟩ e (fun z=>nomatch z) h
  | @dK a kvs ea =>
    cases (show u = Value.ref a from rx)
    obtain ⟨_,_,vs,_,p⟩:=(show ObjOk X.prog X.w H s.heap a (.dK kvs) from I.hok a _ ea)
    obtain ⟨o,es,ep,h1,h2,_⟩:=p
    exact PySem.W.kia_one PySem.W.kitx_dict I.kIn ⟨o,h1,h2.1⟩ e (fun z=>nomatch z) h
  | @dT a kvs ea =>
    cases (show u = Value.ref a from rx)
    obtain ⟨_,_,xs,_,o,es,ep,h1,h2,_⟩:=(show ObjOk X.prog X.w H s.heap a (.dT kvs) from I.hok a _ ea)
    exact PySem.W.kia_one PySem.W.kitx_dict I.kIn ⟨o,h1,h2.1⟩ e (fun z=>nomatch z) h
  | @ins a C dx fs ea cl ha hn htk hm =>
    cases (show u = Value.ref a from rx)
    obtain ⟨mA,O,_⟩:=ins_get I.hok ea
    obtain ⟨od,J,_⟩:=O.look
    exact PySem.W.kia_one (PySem.W.kitx_own (cl.get _) cl.hd ha hn htk hm) I.kIn J e (fun z=>nomatch z) h
end
end L2
namespace L2
open PySem PySem.Spec PyProof.Rows
structure Room (k:Nat) (A:Around):Prop where
  hd:A.handled = none
  dp:A.depth + 3 * k + 5 < recursionLimit
  un:A.units + 16 * k + 200 < cLine
theorem Room.mono {j k:Nat} {A:Around} (r:Room k A) (h:j ≤ k):Room j A:=⟨r.hd,by have:=r.dp; omega,by have:=r.un; omega⟩
theorem Room.deeper {k:Nat} {A:Around} (r:Room (k + 1) A) (env:Env):Room k (A.deeper env) :=
  ⟨r.hd,by have:=r.dp; show A.depth + 1 + 3 * k + 5 < _; omega,by have:=r.un; show A.units + 3 + 16 * k + 200 < _; omega⟩
theorem Room.depth {k:Nat} {A:Around} (r:Room k A):A.depth < recursionLimit:=by have:=r.dp; omega
theorem Room.units {k:Nat} {A:Around} (r:Room k A):A.units + 64 < cLine:=by have:=r.un; omega
def tNil:TA:=fun _ H Q=>Q [] H
def tCons (ta:TE) (tr:TA):TA:=fun σ H Q=>ta σ H fun x H1=>tr σ H1 fun xs H2=>Q (x :: xs) H2
section
variable {X:Cx} {e:Expr} {es:List Expr} {te:TE} {t:TA} {pos:Pos}
theorem pa_nil:PA X [] tNil:=fun _ _ _ _ H Q I h=>Calls.spliced_nil ⟨[],H,I,.nil,h⟩
theorem pa_cons (ha:PE X e te) (hr:PA X es t) (hs:starEach (e :: es) X.env = (false,eval e X.env) :: starEach es X.env:=by rfl):PA X (e :: es) (tCons te t):=by
  intro pos pins s σ H Q I h
  rw [hs]
  show wpAny _ _ (spliced ((false,eval e X.env) :: backTo pos (starEach es X.env))) _ _ s
  refine Calls.spliced_cons (thn (ha pins s σ H _ I h) fun u s1 ⟨x,H1,I1,r1,q1⟩=>?_)
  exact thn (hr pos pins s1 σ H1 _ I1 q1) fun us s2 ⟨xs,H2,I2,r2,q2⟩=>⟨x :: xs,H2,I2,.cons r1 r2,q2⟩
def tTup (t:TA):TE:=fun σ H Q=>t σ H fun xs H1=>xs.length ≤ sizeLine ∧ ∀ p,H1 p = none → Q (.ref p) (upd H1 p (.tup xs))
def tLst (t:TA):TE:=fun σ H Q=>t σ H fun xs H1=>xs.length ≤ sizeLine ∧ ∀ p,H1 p = none → Q (.ref p) (upd H1 p (.lst xs))
theorem pe_tup {x1} (h:PA X es t):PE X (.Tuple es x1 pos) (tTup t):=by
  intro pins s σ H Q I hq
  refine wpAny_Tuple_spliced (thn (h pos pins s σ H _ I hq) fun us s1 ⟨xs,H1,I1,r,z,q⟩=>⟨by rw [← r.length]; exact z,?_⟩)
  have hf:H1 s1.heap.objs.size = none:=I1.hok.fresh (Nat.le_refl _)
  refine ⟨.ref s1.heap.objs.size,upd H1 s1.heap.objs.size (.tup xs),I1.laid (t':=s1.toks) (fun b u e=>Heap.get?_push_of_some _ e) (Nat.le_refl _) ?_,rfl,q _ hf⟩
  exact ⟨z,us,r,⟨_,Heap.get?_push_size _ rfl,rfl,_,rfl⟩⟩
theorem pe_lst (h:PA X es t):PE X (.List es pos) (tLst t):=by
  intro pins s σ H Q I hq
  refine wpAny_List_spliced (thn (h pos pins s σ H _ I hq) fun us s1 ⟨xs,H1,I1,r,z,q⟩=>⟨by rw [← r.length]; exact z,?_⟩)
  have hf:H1 s1.heap.objs.size = none:=I1.hok.fresh (Nat.le_refl _)
  refine ⟨.ref s1.heap.objs.size,upd H1 s1.heap.objs.size (.lst xs),I1.laid (t':=s1.toks) (fun b u e=>Heap.get?_push_of_some _ e) (Nat.le_refl _) ?_,rfl,q _ hf⟩
  exact ⟨z,us,0,r,Heap.get?_push_size _ rfl⟩
end
abbrev Sp:=List V → Hp → VK → XK → Prop
abbrev CXT:=List Env → Hp → Shared → XK → Value → Shared → Prop
structure Env0 (P:Program) (w:World) (K:PySem.W.Frag) (mg:Str → Option Value) (base:Heap) (A:Around) (outer:List Env) (s:Shared) (H:Hp):Prop where
  frames:A.frames = some outer
  mod:Mod K mg base
  bs:∀ b o,base.get? b = some o → s.heap.get? b = some o ∧ H b = none
  bsz:base.objs.size ≤ s.heap.objs.size
  funs:s.heap.FunFrames base outer
  frf:∀ b ∈ frs outer,H b = none
  hok:HOk P w H s.heap
  bare:AllBare s.gens
def CE (outer:List Env) (P:Program) (w:World) (H:Hp) (s:Shared) (Q:VK) (u:Value) (s':Shared):Prop :=
  ∃ v H',s'.os = s.os ∧ AllBare s'.gens ∧ Un (frs outer) [] H H' s.heap s'.heap ∧ HOk P w H' s'.heap ∧ RelV v u ∧ Q v H'
def CR (CX:CXT) (outer:List Env) (P:Program) (w:World) (H:Hp) (s:Shared) (Q:VK) (E:XK) (r:Result) (s':Shared):Prop :=
  match r with
  | .ok (.ret u)=>CE outer P w H s Q u s'
  | .ok _=>False
  | .error e=>CX outer H s E e s'
structure FnOk (P:Program) (w:World) (K:PySem.W.Frag) (mg:Str → Option Value) (base:Heap) (CX:CXT) (k:Nat) (f:Addr) (fd:FuncData) (ps:List Str) (sp:Sp):Prop where
  len:∀ vs H Q E,sp vs H Q E → vs.length = ps.length
  run:∀ (A:Around) (outer:List Env) (s:Shared) (H:Hp) (args:Args) (us:List Value) (vs:List V) (Q:VK) (E:XK),Room k A → Env0 P w K mg base A outer s H → BindsTo s fd args (ps.zip us) → Vals vs us → sp vs H Q E →
    codeAny (model P w) A (.call (.ref f) args) (CR CX outer P w H s Q E) s
theorem FnOk.imp {P:Program} {w:World} {K:PySem.W.Frag} {mg:Str → Option Value} {base:Heap} {CX:CXT} {k:Nat} {f:Addr} {fd:FuncData} {ps:List Str} {sp sp':Sp} (F:FnOk P w K mg base CX k f fd ps sp)
    (h:∀ vs H Q E,sp' vs H Q E → sp vs H Q E):FnOk P w K mg base CX k f fd ps sp' :=
  ⟨fun vs H Q E q=>F.len vs H Q E (h _ _ _ _ q),fun A outer s H args us vs Q E hr he hb hv hs=>F.run A outer s H args us vs Q E hr he hb hv (h _ _ _ _ hs)⟩
section
variable {X:Cx} {pins:List (Addr × Obj)} {σ:St} {H:Hp} {s s':Shared}
theorem Inv.env0 (I:Inv X pins σ H s):Env0 X.prog X.w X.K X.mg X.base X.A X.stack s H :=
  ⟨I.ok.frames,I.ok.mod,I.bs,Nat.le_trans I.ok.bsz I.sz,I.stack,I.stkFree,I.hok,I.bare⟩
theorem Inv.after {Q:VK} {u:Value} (I:Inv X pins σ H s) (h:CE X.stack X.prog X.w H s Q u s'):EP X pins σ Q u s':=by
  obtain ⟨v,H',os,bare,un,hok,r,q⟩:=h
  obtain ⟨hh,g,d,t,os'⟩:=s'
  obtain rfl:os' = s.os:=os
  exact ⟨v,H',I.call (h':=hh) (g':=g) (d':=d) (t':=t) (ch:=[]) un hok bare (fun b z=>absurd z (by simp)),r,q⟩
end
def tCall (sp:Sp) (dvs:List V) (E:XK) (t:TA):TE:=fun σ H Q=>t σ H fun vs H1=>sp (vs ++ dvs) H1 Q E
def Binds (K:PySem.W.Frag) (fd:FuncData) (ps:List Str) (ds:List Value):Prop :=
  ∀ (s:Shared) (us:List Value),K.In s.heap → (us ++ ds).length = ps.length → BindsTo s fd ⟨us,[]⟩ (ps.zip (us ++ ds))
theorem Binds.all {K:PySem.W.Frag} {fd:FuncData} {ps:List Str} (h:∀ us:List Value,us.length = ps.length → bindArgs fd ⟨us,[]⟩ = pure (ps.zip us)):Binds K fd ps []:=fun s us _ hl=>by
  rw [List.append_nil] at hl ⊢
  exact .of_eq (h us hl)
def Passes (CX:CXT) (X:Cx) (E:XK):Prop:=∀ (pins:List (Addr × Obj)) (σ:St) (H:Hp) (s:Shared) (e:Value) (s':Shared),Inv X pins σ H s → CX X.stack H s E e s' → X.xe e s'
section
variable {X:Cx} {CX:CXT} {k:Nat} {f C:Addr} {fd:FuncData} {ps:List Str} {sp:Sp} {dvs:List V} {ds:List Value} {E:XK} {x m:Str} {p pos apos:Pos} {e o:Expr} {es:List Expr} {ta:TE} {t:TA}
theorem run_fn {pins:List (Addr × Obj)} {σ:St} {H:Hp} {s:Shared} {Q:VK} {us:List Value} {vs:List V} (F:FnOk X.prog X.w X.K X.mg X.base CX k f fd ps sp) (hr:Room k X.A) (hb:Binds X.K fd ps ds) (hd:Vals dvs ds) (hx:Passes CX X E)
    (I:Inv X pins σ H s) (r:Vals vs us) (h:sp (vs ++ dvs) H Q E):wpAny (model X.prog X.w) X.A (call (.ref f) us) (EP X pins σ Q) X.xe s:=by
  have r2:Vals (vs ++ dvs) (us ++ ds):=r.append hd
  have hl:(us ++ ds).length = ps.length:=by rw [← r2.length]; exact F.len _ _ _ _ h
  refine wpAny_call (codeAny_mono (F.run X.A X.stack s H ⟨us,[]⟩ (us ++ ds) (vs ++ dvs) Q E hr I.env0 (hb s us I.kIn hl) r2 h) fun r s' hq=>?_)
  cases r with
  | error e=>exact hx pins σ H s e s' I hq
  | ok fl =>
    cases fl with
    | ret u=>exact I.after hq
    | next=>exact False.elim hq
    | brk=>exact False.elim hq
    | cont=>exact False.elim hq
theorem pe_call (F:FnOk X.prog X.w X.K X.mg X.base CX k f fd ps sp) (hr:Room k X.A) (hg:Gl X x) (hm:X.mg x = some (.ref f)) (hk:PySem.W.keepIn X.K (.ref f) = true) (hb:Binds X.K fd ps ds) (hd:Vals dvs ds) (hx:Passes CX X E)
    (ha:PA X (e :: es) t) (hdb:(x == ("__debug__":Str)) = false:=by decide) (he:starEach (e :: es) X.env = (false,eval e X.env) :: starEach es X.env:=by rfl) (hpl:(backTo pos (starEach es X.env)).any (·.1) = false:=by rfl) :
    PE X (.Call (.Name x p) (e :: es) [] pos) (tCall sp dvs E t):=by
  intro pins s σ H Q I h
  refine wpAny_Call_Name_kw (ld_glob I hg hm ?_ hdb)
  refine PySem.W.callWith_K (h₀:=X.base) I.ok.mod.kin hk (thn (ha pos pins s σ H _ I h) fun us s1 ⟨vs,H1,I1,r,q⟩=>⟨I1.kIn,?_⟩) he hpl
  exact run_fn F hr hb hd hx I1 r q
structure Mk (K:PySem.W.Frag) (C f:Addr):Prop where
  makes:PySem.W.makesIn K C = true
  init:PySem.W.findIn K (.ref C) "__init__" = some (some (.ref f))
  fn:PySem.W.isFn K (.ref f) = true
  kp:PySem.W.keepIn K (.ref C) = true
end
section
variable {X:Cx} {CX:CXT} {k:Nat} {f C:Addr} {fd:FuncData} {ps ks:List Str} {sp:Sp} {E:XK} {x m:Str} {p pos apos kpos:Pos} {e o:Expr} {es:List Expr} {kws:List Keyword} {te ta:TE} {t tk:TA} {nm:Option Str}
structure KBinds (K:PySem.W.Frag) (fd:FuncData) (ps ks:List Str) (g:List Value → List Value → List Value) (gV:List V → List V → List V):Prop where
  to:∀ (s:Shared) (us ws:List Value),K.In s.heap → (g us ws).length = ps.length → BindsTo s fd ⟨us,ks.zip ws⟩ (ps.zip (g us ws))
  rel:∀ {vs:List V} {us:List Value} {zs:List V} {ws:List Value},Vals vs us → Vals zs ws → Vals (gV vs zs) (g us ws)
variable {g:List Value → List Value → List Value} {gV:List V → List V → List V}
end
structure FnScope (N P:List Str) (sc:Scope):Prop where
  kind:sc.kind = .function
  co:sc.isCoroutine = false
  gen:sc.isGenerator = false
  nd:N.Nodup
  pre:N.take P.length = P
  par:∀ x ∈ P,sc.names.lookup x = some .local ∨ sc.names.lookup x = some .cell
  nofree:∀ y ∈ sc.names,y.2 ≠ .free
theorem bindL_out {kindOf:Str → Option NameKind} {x:Str}:∀ {binds:List (Str × Value)} {m:Str → Option Value},(∀ v,(x,v) ∉ binds) → bindL kindOf binds m x = m x
  | [],_,_=>rfl
  | (n,v) :: r,m,h=>by
    unfold bindL
    rw [bindL_out fun w hw=>h w (List.mem_cons_of_mem _ hw)]
    split
    · have:x ≠ n:=by rintro rfl; exact h v List.mem_cons_self
      simp [this]
    · rfl
theorem bindC_out {kindOf:Str → Option NameKind} {x:Str}:∀ {binds:List (Str × Value)} {m:Str → Option Value},(∀ v,(x,v) ∉ binds) → bindC kindOf binds m x = m x
  | [],_,_=>rfl
  | (n,v) :: r,m,h=>by
    unfold bindC
    rw [bindC_out fun w hw=>h w (List.mem_cons_of_mem _ hw)]
    split
    · rfl
    · have:x ≠ n:=by rintro rfl; exact h v List.mem_cons_self
      simp [this]
theorem bindL_get {kindOf:Str → Option NameKind} {x:Str} {v:Value}:∀ {P:List Str} {vs:List Value} {i:Nat} {m:Str → Option Value},P.Nodup → P[i]? = some x → vs[i]? = some v → kindOf x = some .local →
    bindL kindOf (P.zip vs) m x = some v
  | [],_,_,_,_,h,_,_=>by simp at h
  | _ :: _,[],_,_,_,_,h,_=>by simp at h
  | p :: P,w :: vs,0,m,nd,h1,h2,hk=>by
    simp at h1 h2; subst h1; subst h2
    show bindL kindOf ((p,w) :: P.zip vs) m p = _
    unfold bindL
    rw [bindL_out fun v hv=>(List.nodup_cons.mp nd).1 (List.of_mem_zip hv).1,if_pos hk]
    simp
  | p :: P,w :: vs,i + 1,m,nd,h1,h2,hk=>by
    show bindL kindOf ((p,w) :: P.zip vs) m x = _
    unfold bindL
    exact bindL_get (i:=i) (List.nodup_cons.mp nd).2 (by simpa using h1) (by simpa using h2) hk
theorem bindC_get {kindOf:Str → Option NameKind} {x:Str} {v:Value}:∀ {P:List Str} {vs:List Value} {i:Nat} {m:Str → Option Value},P.Nodup → P[i]? = some x → vs[i]? = some v → kindOf x ≠ some .local →
    bindC kindOf (P.zip vs) m x = some v
  | [],_,_,_,_,h,_,_=>by simp at h
  | _ :: _,[],_,_,_,_,h,_=>by simp at h
  | p :: P,w :: vs,0,m,nd,h1,h2,hk=>by
    simp at h1 h2; subst h1; subst h2
    show bindC kindOf ((p,w) :: P.zip vs) m p = _
    unfold bindC
    rw [bindC_out fun v hv=>(List.nodup_cons.mp nd).1 (List.of_mem_zip hv).1,if_neg hk]
    simp
  | p :: P,w :: vs,i + 1,m,nd,h1,h2,hk=>by
    show bindC kindOf ((p,w) :: P.zip vs) m x = _
    unfold bindC
    exact bindC_get (i:=i) (List.nodup_cons.mp nd).2 (by simpa using h1) (by simpa using h2) hk
def start (N:List Str) (vs:List V):St:=vs.map some ++ List.replicate (N.length - vs.length) none
def cxOf (CX:CXT) (P:Program) (w:World) (K:PySem.W.Frag) (mg:Str → Option Value) (base:Heap) (N:List Str) (qual:Str) (scope:Scope) (f:Addr) (cd:Value) (A:Around) (outer:List Env) (s:Shared) (H:Hp) (E:XK):Cx where
  prog:=P
  w:=w
  K:=K
  mg:=mg
  base:=base
  A:=A.deeper (envOfC qual scope s.heap.objs.size f cd)
  N:=N
  s₀:=s
  H₀:=H
  env:=envOfC qual scope s.heap.objs.size f cd
  outer:=outer
  stack:=envOfC qual scope s.heap.objs.size f cd :: outer
  ex:=[]
  calm:=true
  fn:=fun _=>true
  pn:=[]
  xe:=fun e s'=>wpAny (model P w) (A.deeper (envOfC qual scope s.heap.objs.size f cd)) (leaving (envOfC qual scope s.heap.objs.size f cd) e) (fun _ s''=>CX outer H s E e s'') (fun e' s''=>CX outer H s E e' s'') s'
theorem cell_has {sc:Scope} {n:Nat} {x:Str} (h:sc.names.lookup x = some .cell):∃ c,(cellsFrom n sc.names []).lookup x = some c:=by
  have q:=PySem.W.cellsFrom_some sc.names n [] (.inl h)
  exact Option.isSome_iff_exists.mp q
theorem inv_start {CX:CXT} {P:Program} {w:World} {K:PySem.W.Frag} {mg:Str → Option Value} {base:Heap} {N ps:List Str} {qual:Str} {scope:Scope} {f:Addr} {cd:Value} {A:Around} {outer:List Env} {s s1:Shared} {H:Hp} {E:XK} {us:List Value} {vs:List V}
    (S:FnScope N ps scope) (hd:A.handled = none) (e0:Env0 P w K mg base A outer s H) (hl:vs.length = ps.length) (r:Vals vs us)
    (x:InCallC s s.heap.objs.size (bindL (envOfC qual scope s.heap.objs.size f cd).kindOf (ps.zip us) fun _=>none) (cellsFrom (s.heap.objs.size + 1) scope.names []) (bindC (envOfC qual scope s.heap.objs.size f cd).kindOf (ps.zip us) fun _=>none) s1) :
    Inv (cxOf CX P w K mg base N qual scope f cd A outer s H E) [] (start N vs) H s1:=by
  have hpl:ps.length ≤ N.length:=by have:=congrArg List.length S.pre; rw [List.length_take] at this; omega
  obtain ⟨h1,tk,rfl,hk⟩:=x.done
  have noA:∀ b:Addr,b ∉ (cxOf CX P w K mg base N qual scope f cd A outer s H E).ex:=fun b z=>absurd (show b ∈ ([]:List Addr) from z) (by simp)
  refine ⟨⟨e0.mod,S.kind,rfl,rfl,Nat.le_refl _,fun y z c h1 h2=>?_,fun y hy=>?_,fun y c _ h=>?_,fun _=>hd,Around.frames_deeper e0.frames,.inr ⟨rfl,rfl⟩,fun b z=>absurd z (noA b),e0.bs,e0.bsz,fun b _ _=>noA b,fun b z=>absurd z (noA b),e0.funs,e0.frf⟩,
    rfl,e0.bare,Un.kept hk,⟨_,x.toInCall.ns,fun i y v h1 h2 h3=>?_⟩,fun y c h=>⟨_,x.cell y c h⟩,e0.hok.fresh (Nat.le_refl _),fun y c h=>?_,fun p hp=>absurd (show p ∈ ([]:List (Addr × Obj)) from hp) (by simp),e0.hok.kept hk,?_⟩
  · exact name_of_addr x.apart (PySem.mem_of_lookup h1) (PySem.mem_of_lookup h2)
  · have hy:scope.names.lookup y = some .cell ∨ scope.names.lookup y = some .free:=hy
    rcases hy with hy | hy
    · exact cell_has hy
    · exact absurd rfl (S.nofree _ (PySem.mem_of_lookup hy))
  · exact Nat.le_of_lt (x.above y c (PySem.mem_of_lookup h))
  · have hi:i < vs.length:=by
      unfold start at h2
      by_cases hi:i < vs.length
      · exact hi
      · rw [List.getElem?_append_right (by simpa using hi)] at h2
        rw [List.getElem?_replicate] at h2
        split at h2 <;> cases h2
    have ha:vs[i]? = some v:=by
      unfold start at h2
      rw [List.getElem?_append_left (by simpa using hi),List.getElem?_map] at h2
      cases e:vs[i]? with
      | none=>rw [e] at h2; cases h2
      | some a=>rw [e] at h2; cases h2; rfl
    obtain ⟨u,hu,rv⟩:=r.get ha
    have hp:ps[i]? = some y:=by
      rw [← S.pre,List.getElem?_take_of_lt (by omega)]; exact h1
    have ndP:ps.Nodup:=by rw [← S.pre]; exact S.nd.sublist (List.take_sublist _ _)
    refine ⟨u,rv,?_⟩
    rcases S.par y (List.mem_of_getElem? hp) with k | k
    · exact .inl ⟨k,bindL_get ndP hp hu k⟩
    · obtain ⟨c,e⟩:=cell_has (n:=s.heap.objs.size + 1) k
      refine .inr ⟨.inl k,c,e,?_⟩
      have q:=x.cell y c e
      rw [bindC_get ndP hp hu (by show scope.names.lookup y ≠ _; rw [k]; decide)] at q
      exact q
  · exact e0.hok.fresh (Nat.le_of_lt (x.above y c (PySem.mem_of_lookup h)))
  · unfold start
    show _ = N.length
    rw [List.length_append,List.length_map,List.length_replicate]
    omega
theorem fn_of {CX:CXT} {P:Program} {w:World} {K:PySem.W.Frag} {mg:Str → Option Value} {base:Heap} {k:Nat} {f:Addr} {name qual:Str} {params:Arguments} {body:List Stmt} {scope:Scope} {dV kV doc pm cdv ct oc:Value} {an od:Option Addr}
    {osl:Array (Option Value)} {N ps:List Str} {sp:Sp} (lk:K.lookup f = some ⟨oc,od,.func (PySem.W.fnOf name qual params body scope dV kV doc pm an cdv ct),osl⟩) (hcd:PySem.W.codeIn K cdv qual = true) (S:FnScope N ps scope)
    (len:∀ vs H Q E,sp vs H Q E → vs.length = ps.length)
    (hbody:∀ (A:Around) (outer:List Env) (s:Shared) (H:Hp) (vs:List V) (Q:VK) (E:XK),Room k (A.deeper (envOfC qual scope s.heap.objs.size f cdv)) → sp vs H Q E →
      ∃ t,PSs (cxOf CX P w K mg base N qual scope f cdv A outer s H E) body t ∧ t { nx:=fun _ H'=>Q .non H',rt:=Q } (start N vs) H) :
    FnOk P w K mg base CX (k + 1) f (PySem.W.fnOf name qual params body scope dV kV doc pm an cdv ct) ps sp:=by
  refine ⟨len,fun A outer s H args us vs Q E hr e0 hb r hsp=>?_⟩
  have hl:=len _ _ _ _ hsp
  have KX:K.In s.heap:=e0.mod.kin.keeps fun b o e=>(e0.bs b o e).1
  have lim:s.heap.NoLimit:=e0.mod.nolimit.keeps fun b o e=>(e0.bs b o e).1
  have hkind:∀ y ∈ ps.zip us,scope.names.lookup y.1 = some .local ∨ (scope.names.lookup y.1 = some .cell ∧ ((cellsFrom (s.heap.objs.size + 1) scope.names []).lookup y.1).isSome = true):=fun ⟨n,v⟩ hy=>by
    rcases S.par n (List.of_mem_zip hy).1 with q | q
    · exact .inl q
    · exact .inr ⟨q,PySem.W.cellsFrom_some _ _ _ (.inl q)⟩
  refine codeAny_call_function hr.depth (KX _ _ lk) rfl S.co S.gen rfl (PySem.W.codeRec_of KX hcd) (hb _ _ _ _ ?_)
  refine wpAny_newFunctionEnv_cells S.kind hkind fun env he s1 x=>?_
  subst he
  refine ⟨lim.keeps x.toInCall.keep,codeAny_func ?_⟩
  obtain ⟨t,ht,hq⟩:=hbody A outer s H vs Q E (hr.deeper _) hsp
  have I:Inv (cxOf CX P w K mg base N qual scope f cdv A outer s H E) [] (start N vs) H s1:=inv_start S hr.hd e0 hl r x
  refine wpAny_mono (ht [] s1 (start N vs) H _ I hq) (fun fl s' hs=>?_) fun e s' hs=>hs
  have fin:∀ {σ':St} {H':Hp} {v:V} {u:Value},Inv (cxOf CX P w K mg base N qual scope f cdv A outer s H E) [] σ' H' s' → RelV v u → Q v H' → CE outer P w H s Q u s' :=
    fun {σ' H' v u} J rv q=>⟨v,H',J.os,J.bare,J.base,J.hok,rv,q⟩
  cases fl with
  | ret u =>
    obtain ⟨v,σ',H',J,rv,q⟩:=hs
    exact fin J rv q
  | next =>
    obtain ⟨σ',H',J,q⟩:=hs
    exact fin (v:=V.non) (u:=Value.none) J rfl q
  | brk =>
    obtain ⟨_,_,_,q⟩:=hs
    exact False.elim q
  | cont =>
    obtain ⟨_,_,_,q⟩:=hs
    exact False.elim q
end L2
namespace L2
open PySem PySem.Spec PyProof.Rows
section
variable {X:Cx} {x:Str} {p pos:Pos} {e:Expr} {es:List Expr} {t:TA} {id T:String} {r:List V → Hp → VK → Prop}
def tCB (r:List V → Hp → VK → Prop) (t:TA):TE:=fun σ H Q=>t σ H fun vs H1=>r vs H1 Q
theorem pe_callB (hc:CallR X (.builtin id) r) (hg:Gl X x) (hm:X.mg x = none) (hv:bootBuiltins x = some (.builtin id)) (ha:PA X (e :: es) t) (hn:x ≠ "__name__":=by decide) (hdb:(x == ("__debug__":Str)) = false:=by decide)
    (he:starEach (e :: es) X.env = (false,eval e X.env) :: starEach es X.env:=by rfl) (hpl:(backTo pos (starEach es X.env)).any (·.1) = false:=by rfl):PE X (.Call (.Name x p) (e :: es) [] pos) (tCB r t):=by
  intro pins s σ H Q I h
  refine wpAny_Call_Name_kw (ld_blt I hg hm hv ?_ hn hdb)
  exact PyProof.Rows.callWith_builtin1 (thn (ha pos pins s σ H _ I h) fun us s1 ⟨vs,H1,I1,r1,q1⟩=>hc pins s1 σ H1 vs us Q I1 r1 q1) he hpl
theorem pe_callTy (hc:CallR X (.type T) r) (hg:Gl X x) (hm:X.mg x = none) (hv:bootBuiltins x = some (.type T)) (ha:PA X (e :: es) t) (hn:x ≠ "__name__":=by decide) (hdb:(x == ("__debug__":Str)) = false:=by decide)
    (he:starEach (e :: es) X.env = (false,eval e X.env) :: starEach es X.env:=by rfl) (hpl:(backTo pos (starEach es X.env)).any (·.1) = false:=by rfl):PE X (.Call (.Name x p) (e :: es) [] pos) (tCB r t):=by
  intro pins s σ H Q I h
  refine wpAny_Call_Name_kw (ld_blt I hg hm hv ?_ hn hdb)
  exact PyProof.Rows.callWith_type1 (thn (ha pos pins s σ H _ I h) fun us s1 ⟨vs,H1,I1,r1,q1⟩=>hc pins s1 σ H1 vs us Q I1 r1 q1) he hpl
end
end L2

namespace HT
open PySem PyProof.Rows
section
open PySem.SeqAt
open PySem.AutoSeq1 (wpAny_loadPart')
open PySem.MeetsSeq PySem.MeetsSeq2 PySem.MeetsSeq3
end
section
variable {prog:Program} {w:World} {A:Around} {E:Value → Shared → Prop} {s:Shared}
def sIx (n d:Nat):Option Int → Nat
  | none=>d
  | some v=>if v < 0 then (v + (n:Int)).toNat else min v.toNat n
end
end HT
namespace L2
open PySem PySem.Spec PyProof.Rows
abbrev TO:=St → Hp → (Option Int → Hp → Prop) → Prop
def PO (X:Cx) (e:Option Expr) (t:TO):Prop :=
  ∀ (pins:List (Addr × Obj)) (s:Shared) (σ:St) (H:Hp) (Q:Option Int → Hp → Prop),Inv X pins σ H s → t σ H Q →
    wpAny (model X.prog X.w) X.A (evalPart e X.env) (fun u s'=>∃ o H',Inv X pins σ H' s' ∧ IsPart u o ∧ Q o H') X.xe s
def tNoPart:TO:=fun _ H Q=>Q none H
def tPart (t:TE):TO:=fun σ H Q=>t σ H fun x H1=>∃ i,x = .int i ∧ Q (some i) H1
section
variable {X:Cx} {e:Expr} {te:TE} {lo hi:Option Expr} {tl th:TO} {pos p2:Pos}
theorem po_none:PO X none tNoPart:=by
  intro pins s σ H Q I h
  rw [evalPart_none]
  exact wpAny_pure ⟨none,H,I,.none,h⟩
theorem po_some (h:PE X e te):PO X (some e) (tPart te):=by
  intro pins s σ H Q I hw
  rw [evalPart_some]
  refine thn (h pins s σ H _ I hw) fun u s1 ⟨x,H1,I1,r1,q1⟩=>?_
  obtain ⟨i,rfl,q⟩:=q1
  obtain ⟨t,rfl⟩:=r1
  exact ⟨some i,H1,I1,.int i t,q⟩
def SlR (X:Cx) (r:V → Option Int → Option Int → Hp → VK → Prop):Prop :=
  ∀ (pins:List (Addr × Obj)) (s:Shared) (σ:St) (H:Hp) (x:V) (v vl vu:Value) (lo hi:Option Int) (sl:Addr) (Q:VK),Inv X pins σ H s → RelV x v → s.heap.IsSliceOf sl vl vu .none → IsPart vl lo → IsPart vu hi → r x lo hi H Q →
    ∃ T id,typeLookup (.type T) "__getitem__" = pure (some (.builtin id)) ∧ s.TypeIs v T ∧ wpAny (model X.prog X.w) X.A (getItem v (.ref sl)) (EP X pins σ Q) X.xe s
def tSl (r:V → Option Int → Option Int → Hp → VK → Prop) (te:TE) (tl th:TO):TE:=fun σ H Q=>te σ H fun x H1=>tl σ H1 fun l H2=>th σ H2 fun u H3=>r x l u H3 Q
theorem pe_slice {r:V → Option Int → Option Int → Hp → VK → Prop} (hr:SlR X r) (he:PE X e te) (hl:PO X lo tl) (hu:PO X hi th):PE X (.Subscript e (.Slice lo hi none p2) pos) (tSl r te tl th):=by
  intro pins s σ H Q I h
  refine Subscript_ (thn (he pins s σ H _ I h) fun v s1 ⟨x,H1,I1,r1,q1⟩=>?_)
  refine wpAny_Slice (thn (hl pins s1 σ H1 _ I1 q1) fun vl s2 ⟨l,H2,I2,pl,q2⟩=>thn (hu pins s2 σ H2 _ I2 q2) fun vu s3 ⟨u,H3,I3,pu,q3⟩=>?_)
  rw [evalPart_none]
  refine wpAny_pure ?_
  have I4:Inv X pins σ H3 { s3 with heap:=s3.heap.push { cls:=.type "slice",data:=.fields #[vl,vu,.none] } }:=I3.kept (t':=s3.toks) fun b ob q=>Heap.get?_push_of_some _ q
  obtain ⟨T,id,hT,ht,hg⟩:=hr pins { s3 with heap:=s3.heap.push { cls:=.type "slice",data:=.fields #[vl,vu,.none] } } σ H3 x v vl vu l u s3.heap.objs.size Q I4 r1 (Heap.IsSliceOf.new ..) pl pu q3
  show wpAny (model X.prog X.w) X.A (subscriptTail e (.Slice lo hi none p2) v (.ref s3.heap.objs.size)) (EP X pins σ Q) X.xe { s3 with heap:=s3.heap.push { cls:=.type "slice",data:=.fields #[vl,vu,.none] } }
  exact tail_any (ops:=[.ref s3.heap.objs.size,v]) ht hT hg (by with_unfolding_all rfl)
def cutV (xs:List V) (lo hi:Option Int):List V:=(xs.drop (HT.sIx xs.length 0 lo)).take (HT.sIx xs.length xs.length hi - HT.sIx xs.length 0 lo)
theorem cutV_length (xs:List V) (lo hi:Option Int):(cutV xs lo hi).length ≤ xs.length:=by
  unfold cutV
  rw [List.length_take,List.length_drop]
  omega
end
end L2
namespace L2
open PySem PySem.Spec PyProof.Rows
def ixN (n:Nat) (i:Int):Option Nat:=if 0 ≤ i then (if i < n then some i.toNat else none) else if -(n:Int) ≤ i then some (i + n).toNat else none
def atI {α:Type} (xs:List α) (i:Int):Option α:=(ixN xs.length i).bind fun j=>xs[j]?
theorem ixN_seq {n:Nat} {i:Int} {j:Nat} (h:ixN n i = some j):seqIndex? i n = some j ∧ j < n ∧ -(n:Int) ≤ i ∧ i < n:=by
  unfold ixN at h
  by_cases h0:0 ≤ i
  · rw [if_pos h0] at h
    by_cases h1:i < n
    · rw [if_pos h1] at h
      have e:i.toNat = j:=Option.some.inj h
      exact ⟨by rw [seqIndex_of h0 h1,e],by omega,by omega,h1⟩
    · rw [if_neg h1] at h; cases h
  · rw [if_neg h0] at h
    by_cases h1:-(n:Int) ≤ i
    · rw [if_pos h1] at h
      have e:(i + n).toNat = j:=Option.some.inj h
      exact ⟨by rw [seqIndex_neg (by omega) h1,e],by omega,h1,by omega⟩
    · rw [if_neg h1] at h; cases h
theorem atI_get {α:Type} {xs:List α} {i:Int} {v:α} (h:atI xs i = some v):∃ j,seqIndex? i xs.length = some j ∧ xs[j]? = some v ∧ j < xs.length ∧ -(xs.length:Int) ≤ i ∧ i < xs.length:=by
  unfold atI at h
  cases e:ixN xs.length i with
  | none=>rw [e] at h; cases h
  | some j =>
    rw [e] at h
    obtain ⟨h1,h2,h3,h4⟩:=ixN_seq e
    exact ⟨j,h1,h,h2,h3,h4⟩
def PlainIx (b:Expr):Prop:=∀ o i,subscripted b false o i = operate [o,i] (getItem o i)
def IxR (X:Cx) (r:R2):Prop :=
  ∀ (value slice:Expr) (pins:List (Addr × Obj)) (s:Shared) (σ:St) (H:Hp) (x y:V) (v u:Value) (Q:VK),Inv X pins σ H s → RelV x v → RelV y u → r x y H Q →
    subscripted slice false v u = operate [v,u] (getItem v u) → wpAny (model X.prog X.w) X.A (subscriptTail value slice v u) (EP X pins σ Q) X.xe s
def MtR (X:Cx) (id:String) (r:V → List V → Hp → VK → Prop):Prop :=
  ∀ (pins:List (Addr × Obj)) (s:Shared) (σ:St) (H:Hp) (x:V) (xs:List V) (v:Value) (us:List Value) (Q:VK),Inv X pins σ H s → RelV x v → Vals xs us → r x xs H Q →
    wpAny (model X.prog X.w) X.A (call (.builtin id) (v :: us)) (EP X pins σ Q) X.xe s
section
variable {X:Cx} {a b:Expr} {ta tb:TE} {pos:Pos}
theorem pe_ix {r:R2} (hr:IxR X r) (ha:PE X a ta) (hb:PE X b tb) (hs:PlainIx b):PE X (.Subscript a b pos) (tOp r ta tb):=by
  intro pins s σ H Q I h
  exact Subscript_ (binT ha hb I h fun v u s2 x y H2 I2 rx ry q=>hr a b pins s2 σ H2 x y v u Q I2 rx ry q (hs _ _))
def rIxL (K:PySem.W.Frag):R2:=fun x y H Q=>∃ p xs i v,x = .ref p ∧ y = .int i ∧ SqL K H p xs ∧ atI xs i = some v ∧ Q v H
def rIxT (K:PySem.W.Frag):R2:=fun x y H Q=>∃ p xs i v,x = .ref p ∧ y = .int i ∧ SqT K H p xs ∧ atI xs i = some v ∧ Q v H
def rIxS:R2:=fun x y H Q=>∃ z i c,x = .str z ∧ y = .int i ∧ z.length ≤ sizeLine ∧ atI z.cps.toList i = some c ∧ Q (.str ⟨#[c]⟩) H
theorem ix_list:IxR X (rIxL X.K):=by
  intro value slice pins s σ H x y v u Q I rx ry h hs
  obtain ⟨p,xs,i,z,rfl,rfl,hq,he,q⟩:=h
  cases rx
  obtain ⟨t,rfl⟩:=ry
  obtain ⟨its,r,pl,hz⟩:=I.list hq
  obtain ⟨j,h1,h2,h3,h4,h5⟩:=atI_get he
  obtain ⟨w,ew,rw'⟩:=r.get h2
  have hl:=r.length
  have hn:=line63
  have fin:EP X pins σ Q w s:=⟨z,H,I,rw',q⟩
  by_cases h0:0 ≤ i
  · have hj:i.toNat = j:=by
      rw [seqIndex_of h0 h5] at h1
      exact Option.some.inj h1
    exact item_listR pl.isList h0 (by omega) (by rw [hj]; simpa using ew) fin hs
  · have hj:(i + (its.toArray.size:Int)).toNat = j:=by
      rw [seqIndex_neg (by omega) h4] at h1
      rw [List.size_toArray,← hl]
      exact Option.some.inj h1
    exact subscriptTail_builtinR (x:=w) pl.isList.typeIs slot_list_getitem.lookup
      (wpAny_getItem_list_neg (Q:=fun r s'=>r = w ∧ EP X pins σ Q r s') pl.isList (by omega) (by rw [List.size_toArray] <;> omega) (by omega) (by rw [hj]; simpa using ew) ⟨rfl,fin⟩) hs
theorem ix_tup:IxR X (rIxT X.K):=by
  intro value slice pins s σ H x y v u Q I rx ry h hs
  obtain ⟨p,xs,i,z,rfl,rfl,hq,he,q⟩:=h
  cases rx
  obtain ⟨t,rfl⟩:=ry
  obtain ⟨its,r,pl,hz⟩:=I.tuple hq
  obtain ⟨j,h1,h2,h3,h4,h5⟩:=atI_get he
  obtain ⟨w,ew,rw'⟩:=r.get h2
  have hl:=r.length
  have hn:=line63
  have fin:EP X pins σ Q w s:=⟨z,H,I,rw',q⟩
  exact subscriptTail_builtinR (x:=w) pl.typeIs slot_tuple_getitem.lookup
    (getItem_tuple (j:=j) (Q:=fun r s'=>r = w ∧ EP X pins σ Q r s') pl (by omega) (by omega) (by rw [List.size_toArray,← hl]; exact h1) (by simpa using ew) ⟨rfl,fin⟩) hs
theorem ix_str:IxR X rIxS:=by
  intro value slice pins s σ H x y v u Q I rx ry h hs
  obtain ⟨z,i,c,rfl,rfl,hz,he,q⟩:=h
  obtain ⟨t,rfl⟩:=rx
  obtain ⟨t',rfl⟩:=ry
  obtain ⟨j,h1,h2,h3,h4,h5⟩:=atI_get he
  have hl:z.cps.toList.length = z.length:=by simp [Str.length]
  rw [hl] at h1 h4 h5
  have hn:=line63
  exact tail_any (typeIs_str s z t) slot_str_getitem.lookup (getItem_str (c:=c) (by
    have e1:decide (i < -(2 ^ 63:Int)) = false:=decide_eq_false (by omega)
    have e2:decide (i ≥ 2 ^ 63) = false:=decide_eq_false (by omega)
    rw [e1,e2,Bool.or_false]) (by rw [h1]; simpa using h2) ⟨.str ⟨#[c]⟩,H,I.tok _,⟨_,rfl⟩,q⟩) hs
theorem slice_bounds (lo hi:Option Int) (n:Nat):(sliceBounds lo hi none n).1 = ((HT.sIx n 0 lo:Nat):Int) ∧ (sliceBounds lo hi none n).2.1 = ((HT.sIx n n hi:Nat):Int) ∧ (sliceBounds lo hi none n).2.2 = 1:=by
  refine ⟨?_,?_,rfl⟩
  · cases lo with
    | none=>simp [sliceBounds,HT.sIx]
    | some i =>
      simp only [sliceBounds,HT.sIx,Option.getD_none,show (1:Int) > 0 by decide,if_true]
      by_cases h:i < 0
      · simp only [h,if_true] <;> omega
      · simp only [h,if_false] <;> omega
  · cases hi with
    | none=>simp [sliceBounds,HT.sIx]
    | some i =>
      simp only [sliceBounds,HT.sIx,Option.getD_none,show (1:Int) > 0 by decide,if_true]
      by_cases h:i < 0
      · simp only [h,if_true] <;> omega
      · simp only [h,if_false] <;> omega
theorem slicePick_cut (its:List Value) (lo hi:Option Int):slicePick its.toArray lo hi none = ((its.drop (HT.sIx its.length 0 lo)).take (HT.sIx its.length its.length hi - HT.sIx its.length 0 lo)).toArray:=by
  obtain ⟨h1,h2,h3⟩:=slice_bounds lo hi its.toArray.size
  unfold slicePick
  rw [h1,h2,h3]
  simp only [sliceRange_one,pick_run,List.size_toArray] <;> rfl
def rSlL (K:PySem.W.Frag):V → Option Int → Option Int → Hp → VK → Prop:=fun x lo hi H Q=>∃ a xs,x = .ref a ∧ SqL K H a xs ∧ ∀ p,H p = none → Q (.ref p) (upd H p (.lst (cutV xs lo hi)))
theorem sl_list:SlR X (rSlL X.K):=by
  intro pins s σ H x v vl vu lo hi sl Q I rx hs pl pu h
  obtain ⟨a,xs,rfl,hx,q⟩:=h
  cases rx
  obtain ⟨its,r,ht,hz⟩:=I.list hx
  have hlen:=r.length
  refine ⟨"list",_,slot_list_getitem.lookup,ht.isList.typeIs,?_⟩
  refine wpAny_getItem_list_slice ht.isList hs pl pu .none (by simp) ?_ (by rw [List.size_toArray] <;> omega)
  rw [slicePick_cut,← hlen]
  refine ⟨.ref s.heap.objs.size,_,I.laid (t':=s.toks) (o:=.lst (cutV xs lo hi)) (fun b ob q=>Heap.get?_push_of_some _ q) (Nat.le_refl _) ?_,rfl,q _ (I.hok.fresh (Nat.le_refl _))⟩
  exact ⟨Nat.le_trans (cutV_length xs lo hi) hz,_,0,(r.drop (HT.sIx xs.length 0 lo)).take (HT.sIx xs.length xs.length hi - HT.sIx xs.length 0 lo),Heap.get?_push_size _ rfl⟩
def flatV:V → Bool
  | .non=>true
  | .bl _=>true
  | .int _=>true
  | .str _=>true
  | _=>false
def eqV:V → V → Bool
  | .non,.non=>true
  | .bl a,.bl b=>a == b
  | .bl a,.int b=>(if a then 1 else 0) == b
  | .int a,.bl b=>a == (if b then 1 else 0)
  | .int a,.int b=>a == b
  | .str a,.str b=>a == b
  | _,_=>false
theorem eqAt_V {A:Around} {s:Shared} {y x:V} {u v:Value} (ry:RelV y u) (rx:RelV x v) (fy:flatV y = true) (fx:flatV x = true):SeqAt.EqAt A s u v (eqV y x):=by
  cases y with
  | non =>
    cases ry
    cases x with
    | non=>cases rx; exact SeqAt.EqAt.same _
    | bl b=>cases rx; exact SeqAt.EqAt.none_bool b
    | int b=>obtain ⟨t,rfl⟩:=rx; exact SeqAt.EqAt.none_int b t
    | str b=>obtain ⟨t,rfl⟩:=rx; exact SeqAt.EqAt.none_str b t
    | _=>exact absurd (show false = true from fx) Bool.false_ne_true
  | bl a =>
    cases ry
    cases x with
    | non=>cases rx; exact SeqAt.EqAt.bool_none a
    | bl b=>cases rx; exact SeqAt.EqAt.bool_bool a b
    | int b=>obtain ⟨t,rfl⟩:=rx; exact SeqAt.EqAt.bool_int a b t
    | str b=>obtain ⟨t,rfl⟩:=rx; exact SeqAt.EqAt.bool_str a b t
    | _=>exact absurd (show false = true from fx) Bool.false_ne_true
  | int a =>
    obtain ⟨t',rfl⟩:=ry
    cases x with
    | non=>cases rx; exact SeqAt.EqAt.int_none a t'
    | bl b=>cases rx; exact SeqAt.EqAt.int_bool a t' b
    | int b=>obtain ⟨t,rfl⟩:=rx; exact SeqAt.EqAt.int_int a t' b t
    | str b=>obtain ⟨t,rfl⟩:=rx; exact SeqAt.EqAt.int_str a t' b t
    | _=>exact absurd (show false = true from fx) Bool.false_ne_true
  | str a =>
    obtain ⟨t',rfl⟩:=ry
    cases x with
    | non=>cases rx; exact SeqAt.EqAt.str_none a t'
    | bl b=>cases rx; exact SeqAt.EqAt.str_bool a t' b
    | int b=>obtain ⟨t,rfl⟩:=rx; exact SeqAt.EqAt.str_int a t' b t
    | str b=>obtain ⟨t,rfl⟩:=rx; exact SeqAt.EqAt.str_str a t' b t
    | _=>exact absurd (show false = true from fx) Bool.false_ne_true
  | _=>exact absurd (show false = true from fy) Bool.false_ne_true
def eqU (x:V) (u:Value):Bool:=match u with
  | .none=>eqV .non x
  | .bool b=>eqV (.bl b) x
  | .int i _=>eqV (.int i) x
  | .str z _=>eqV (.str z) x
  | _=>false
theorem eqU_of {x y:V} {u:Value} (r:RelV y u) (f:flatV y = true):eqU x u = eqV y x:=by
  cases y with
  | non=>cases r; rfl
  | bl b=>cases r; rfl
  | int i=>obtain ⟨t,rfl⟩:=r; rfl
  | str z=>obtain ⟨t,rfl⟩:=r; rfl
  | _=>exact absurd (show false = true from f) Bool.false_ne_true
theorem mem_eqAt {A:Around} {s:Shared} {x:V} {v:Value} (rx:RelV x v) (fx:flatV x = true):∀ {xs:List V} {us:List Value},Vals xs us → xs.all flatV = true → ∀ u ∈ us,SeqAt.EqAt A s u v (eqU x u)
  | _,_,.nil,_=>fun u hu=>by cases hu
  | y :: xs,u :: us,.cons r t,f=>fun u' hu=>by
    rw [List.all_cons,Bool.and_eq_true] at f
    rcases List.mem_cons.mp hu with rfl | hu
    · rw [eqU_of r f.1]; exact eqAt_V r rx f.1 fx
    · exact mem_eqAt rx fx t f.2 u' hu
theorem call_len_seq:CallR X (.builtin "len") (fun xs H Q=>∃ p ys,xs = [.ref p] ∧ (SqL X.K H p ys ∨ SqT X.K H p ys) ∧ Q (.int ys.length) H):=by
  intro pins s σ H xs us Q I r h
  obtain ⟨p,ys,rfl,hq,q⟩:=h
  obtain ⟨u,rfl,rx⟩:=vals1 r
  cases rx
  have hn:=line63
  rcases hq with hq | hq
  · obtain ⟨its,r',pl,hz⟩:=I.list hq
    have hlen:=r'.length
    exact Calls.call_len_list pl.isList (by simp only [List.size_toArray] <;> omega) ⟨.int ys.length,H,I.tok _,⟨s.toks + 1,by rw [List.size_toArray,hlen]⟩,q⟩
  · obtain ⟨its,r',pl,hz⟩:=I.tuple hq
    have hlen:=r'.length
    exact len_tuple pl (by simp only [List.size_toArray] <;> omega) ⟨.int ys.length,H,I.tok _,⟨s.toks + 1,by rw [List.size_toArray,hlen]⟩,q⟩
theorem call_len_str:CallR X (.builtin "len") (fun xs H Q=>∃ z,xs = [.str z] ∧ z.length ≤ sizeLine ∧ Q (.int z.length) H):=by
  intro pins s σ H xs us Q I r h
  obtain ⟨z,rfl,hz,q⟩:=h
  obtain ⟨u,rfl,t,rfl⟩:=vals1 r
  have hn:=line63
  exact len_str (by omega) ⟨.int z.length,H,I.tok _,⟨_,rfl⟩,q⟩
theorem call_list_of:CallR X (.type "list") (fun xs H Q=>∃ p ys,xs = [.ref p] ∧ (SqL X.K H p ys ∨ SqT X.K H p ys) ∧ ∀ l,H l = none → Q (.ref l) (upd H l (.lst ys))):=by
  intro pins s σ H xs us Q I r h
  obtain ⟨p,ys,rfl,hq,q⟩:=h
  obtain ⟨u,rfl,rx⟩:=vals1 r
  cases rx
  have fin:∀ (its:List Value),Vals ys its → ys.length ≤ sizeLine → ∀ (h':Heap) (c':Nat),(∀ b o',s.heap.get? b = some o' → h'.get? b = some o') →
      h'.get? s.heap.objs.size = some { cls:=.type "list",dict:=none,data:=.seq its.toArray c',slots:=#[] } → EP X pins σ Q (.ref s.heap.objs.size) { s with heap:=h' }:=fun its r' hz h' c' kp e =>
    ⟨.ref s.heap.objs.size,_,I.laid (t':=s.toks) kp (Nat.le_refl _) (show ObjOk X.prog X.w _ h' _ (.lst ys) from ⟨hz,its,c',r',e⟩),rfl,q _ (I.hok.fresh (Nat.le_refl _))⟩
  rcases hq with hq | hq
  · obtain ⟨its,r',pl,hz⟩:=I.list hq
    have hlen:=r'.length
    obtain ⟨o,ho,hc,n,hd⟩:=pl.isList
    exact call_list_seq p (.inl rfl) ho hc hd (fun h' c' kp e=>fin its r' hz h' c' kp e) (by simp only [List.size_toArray] <;> omega)
  · obtain ⟨its,r',pl,hz⟩:=I.tuple hq
    have hlen:=r'.length
    obtain ⟨o,ho,hc,n,hd⟩:=pl
    exact call_list_seq p (.inr rfl) ho hc hd (fun h' c' kp e=>fin its r' hz h' c' kp e) (by simp only [List.size_toArray] <;> omega)
def tyV (K:PySem.W.Frag) (T:String) (x:V) (H:Hp):Prop:=match x with
  | .str _=>T = "str"
  | .int _=>T = "int"
  | .ref p=>(T = "list" ∧ ∃ xs,SqL K H p xs) ∨ (T = "tuple" ∧ ∃ o,K.lookup p = some o ∧ o.cls = .type "tuple" ∧ o.dict = none) ∨
      (T = "dict" ∧ ((∃ kvs,H p = some (.dK kvs)) ∨ ∃ kvs,H p = some (.dT kvs))) ∨ (T = "set" ∧ ∃ S n,H p = some (.set S n))
  | _=>False
theorem tyV_is {pins:List (Addr × Obj)} {σ:St} {H:Hp} {s:Shared} {T:String} {x:V} {v:Value} (I:Inv X pins σ H s) (r:RelV x v) (ty:tyV X.K T x H) :
    s.TypeIs v T ∧ ∀ a,v = .ref a → ∃ ob,s.heap.get? a = some ob ∧ ob.dict = none:=by
  cases x with
  | str z =>
    obtain ⟨t,rfl⟩:=r
    cases (show T = "str" from ty)
    exact ⟨typeIs_str s z t,fun _ e=>nomatch e⟩
  | int i =>
    obtain ⟨t,rfl⟩:=r
    cases (show T = "int" from ty)
    exact ⟨typeIs_int s i t,fun _ e=>nomatch e⟩
  | ref p =>
    cases r
    rcases ty with ⟨rfl,xs,hq⟩ | ⟨rfl,o,hk,hc,hd⟩ | ⟨rfl,hk⟩ | ⟨rfl,S,n,hk⟩
    · obtain ⟨its,_,pl,_⟩:=I.list hq
      refine ⟨pl.isList.typeIs,fun a e=>?_⟩
      cases e
      obtain ⟨o,n,e,c,hd,_⟩:=pl
      exact ⟨o,e,hd⟩
    · refine ⟨⟨o,I.kIn p o hk,hc⟩,fun a e=>?_⟩
      cases e
      exact ⟨o,I.kIn _ o hk,hd⟩
    · have z:∃ o,s.heap.get? p = some o ∧ o.ExactDict:=by
        rcases hk with ⟨kvs,hk⟩ | ⟨kvs,hk⟩
        · obtain ⟨_,_,_,_,o,_,_,e,ex,_⟩:=I.hok p _ hk
          exact ⟨o,e,ex⟩
        · obtain ⟨_,_,_,_,o,_,_,e,ex,_⟩:=I.hok p _ hk
          exact ⟨o,e,ex⟩
      obtain ⟨o,e,ex⟩:=z
      refine ⟨⟨o,e,ex.1⟩,fun a e2=>?_⟩
      cases e2
      exact ⟨o,e,ex.2.1⟩
    · obtain ⟨o,_,_,_,e,ex,_⟩:=I.hok p _ hk
      refine ⟨⟨o,e,ex.1⟩,fun a e2=>?_⟩
      cases e2
      exact ⟨o,e,ex.2.1⟩
  | _=>exact False.elim ty
def tBM (K:PySem.W.Frag) (T:String) (r:V → List V → Hp → VK → Prop) (to:TE) (t:TA):TE:=fun σ H Q=>to σ H fun x H1=>tyV K T x H1 ∧ t σ H1 fun xs H2=>r x xs H2 Q
variable {o e:Expr} {es:List Expr} {to:TE} {t:TA} {name:Str} {apos cpos:Pos} {T id:String} {r:V → List V → Hp → VK → Prop}
theorem pe_bm (pa:PlainAttrs T) (slot:Slot T name id) (hty:typeOf (.builtin id) = pure (.type "method_descriptor")) (hm:MtR X id r) (ho:PE X o to) (ha:PA X (e :: es) t)
    (hbase:attributeBase o name X.env (eval o X.env) = eval o X.env:=by rfl)
    (hfew:((backTo cpos (starEach (e :: es) X.env)).all (fun x=>!x.1) && (backToKw cpos (keywordEach [] X.env)).all (fun x=>x.1.isSome)
      && decide ((e :: es).length + ([]:List Keyword).length + (if ([]:List Keyword).isEmpty then 0 else 1) < 30)) = true:=by rfl)
    (hline:(apos.endLine == cpos.line) = true:=by rfl) (hs:starEach (e :: es) X.env = (false,eval e X.env) :: starEach es X.env:=by rfl) (hplain:(backTo cpos (starEach es X.env)).any (·.1) = false:=by rfl) :
    PE X (.Call (.Attribute o name apos) (e :: es) [] cpos) (tBM X.K T r to t):=by
  intro pins s σ H Q I h
  refine wpAny_Call_method_late hbase hfew hline rfl (thn (ho pins s σ H _ I h) fun v s1 ⟨x,H1,I1,r1,ty,q1⟩=>?_)
  obtain ⟨h1,h2⟩:=tyV_is I1 r1 ty
  refine ⟨T,id,pa,slot,hty,h1,h2,?_⟩
  have hA:=ha cpos pins s1 σ H1 _ I1 q1
  rw [hs] at hA ⊢
  refine Calls.callWith_builtin (by show (false || (backTo cpos (starEach es X.env)).any (·.1)) = false; rw [hplain] <;> rfl) (Calls.evalArgs_plain ?_)
  exact thn hA fun us s2 ⟨vs,H2,I2,r2,q2⟩=>hm pins s2 σ H2 x vs v us Q I2 r1 r2 q2
end
end L2
namespace L2
open PySem PySem.Spec PyProof.Rows
def MtM (X:Cx) (id:String) (r:V → List V → Hp → VK → Prop):Prop :=
  ∀ (pins:List (Addr × Obj)) (s:Shared) (σ:St) (H:Hp) (x:V) (xs:List V) (v:Value) (us:List Value) (Q:VK),Inv X pins σ H s → RelV x v → Vals xs us → r x xs H Q →
    wpAny (model X.prog X.w) X.A (call (.builtin id) (v :: us)) (EP X pins σ Q) X.xe s
theorem Vals.one:∀ {x:V} {us:List Value},Vals [x] us → ∃ u,us = [u] ∧ RelV x u
  | _,_,.cons r .nil=>⟨_,rfl,r⟩
theorem Vals.zero:∀ {us:List Value},Vals [] us → us = []
  | _,.nil=>rfl
theorem Vals.dropLast {xs:List V} {us:List Value} (h:Vals xs us):Vals xs.dropLast us.dropLast:=by
  induction h with
  | nil=>exact .nil
  | cons r t ih =>
    cases t with
    | nil=>exact .nil
    | cons q t'=>exact .cons r ih
theorem Vals.eraseIdx:∀ {xs:List V} {us:List Value} (i:Nat),Vals xs us → Vals (xs.eraseIdx i) (us.eraseIdx i)
  | _,_,_,.nil=>.nil
  | _,_,0,.cons _ t=>t
  | _,_,i + 1,.cons r t=>.cons r (Vals.eraseIdx i t)
theorem erase_last {α:Type} (l:List α):l.eraseIdx (l.length - 1) = l.dropLast:=by
  induction l with
  | nil=>rfl
  | cons a r ih =>
    cases r with
    | nil=>rfl
    | cons b r =>
      have e:(a :: b :: r).length - 1 = ((b :: r).length - 1) + 1:=by
        have h1:(a :: b :: r).length = r.length + 2:=rfl
        have h2:(b :: r).length = r.length + 1:=rfl
        omega
      rw [e,List.eraseIdx_cons_succ,ih]
      all_goals rfl
theorem len_erase {α:Type}:∀ (l:List α) (i:Nat),(l.eraseIdx i).length ≤ l.length
  | [],_=>Nat.le_refl _
  | _ :: _,0=>Nat.le_succ _
  | _ :: r,i + 1=>Nat.succ_le_succ (len_erase r i)
section
variable {X:Cx} {pins:List (Addr × Obj)} {σ:St} {H:Hp} {s:Shared} {l b:Addr} {xs ys zs:List V}
theorem Inv.lset {its its':List Value} {n:Nat} {f:Array Value → Array Value} {t':Nat} (I:Inv X pins σ H s) (hH:H l = some (.lst xs))
    (e:s.heap.get? l = some { cls:=.type "list",data:=.seq its.toArray n }) (hf:f its.toArray = its'.toArray) (hv:Vals ys its') (hz:ys.length ≤ sizeLine) :
    Inv X pins σ (upd H l (.lst ys)) { s with heap:=s.heap.update l (Obj.mapSeq f),toks:=t' }:=by
  have q:=PySem.IsL.update e f
  rw [hf] at q
  refine I.write (x:=l) (e:=l) (by rw [hH]; exact trivial) (.inl rfl) (fun b' u hb hu=>(Heap.get?_update_other s.heap (Obj.mapSeq f) (Ne.symm hb)).trans hu) ⟨_,q⟩ ?_
  exact ⟨hz,its',_,hv,q⟩
theorem Inv.lnew {its:List Value} {t':Nat} (I:Inv X pins σ H s) (hv:Vals ys its) (hz:ys.length ≤ sizeLine) :
    Inv X pins σ (upd H s.heap.objs.size (.lst ys)) { s with heap:=s.heap.push { cls:=.type "list",data:=.seq its.toArray },toks:=t' } :=
  I.laid (fun _ _ q=>Heap.get?_push_of_some _ q) (Nat.le_refl _) ⟨hz,its,0,hv,Heap.get?_push_size _ rfl⟩
theorem Inv.fresh (I:Inv X pins σ H s):H s.heap.objs.size = none:=I.hok.fresh (Nat.le_refl _)
theorem Inv.lstM (I:Inv X pins σ H s) (hH:H l = some (.lst xs)):xs.length ≤ sizeLine ∧ ∃ (its:List Value) (n:Nat),Vals xs its ∧ xs.length = its.length ∧ s.heap.get? l = some { cls:=.type "list",data:=.seq its.toArray n }:=by
  obtain ⟨z,its,n,r,e⟩:=I.hok l _ hH
  exact ⟨z,its,n,r,r.length,e⟩
theorem notLongL {n:Nat} (h:n ≤ sizeLine):Builtin.List.listTooLong n = false:=by
  unfold Builtin.List.listTooLong
  exact decide_eq_false (by omega)
end
section
variable {X:Cx}
def rAppend:V → List V → Hp → VK → Prop:=fun x vs H Q=>∃ l xs y,x = .ref l ∧ vs = [y] ∧ H l = some (.lst xs) ∧ xs.length < sizeLine ∧ Q .non (upd H l (.lst (xs ++ [y])))
theorem mt_append:MtM X "list.append" rAppend:=by
  intro pins s σ H x vs v us Q I rx rv h
  obtain ⟨l,xs,y,rfl,rfl,hH,hz,q⟩:=h
  cases rx
  obtain ⟨u,rfl,ru⟩:=rv.one
  obtain ⟨z,its,n,r,hl,e⟩:=I.lstM hH
  refine call_meets F.slot_list_append ⟨_,e,rfl⟩ F.entry_list_append (F.args_list_append_2 _ _) (PySem.list_append l its.toArray n u (by rw [List.size_toArray]; omega)) ⟨e,?_⟩
  refine ⟨.non,_,I.lset (its':=its ++ [u]) hH e (by simp) (r.append (.cons ru .nil)) ?_,rfl,q⟩
  rw [List.length_append,List.length_singleton]
  omega
def rExtend:V → List V → Hp → VK → Prop:=fun x vs H Q=>∃ l b xs zs,x = .ref l ∧ vs = [.ref b] ∧ H l = some (.lst xs) ∧ H b = some (.lst zs) ∧ xs.length + zs.length ≤ sizeLine ∧ Q .non (upd H l (.lst (xs ++ zs)))
theorem mt_extend:MtM X "list.extend" rExtend:=by
  intro pins s σ H x vs v us Q I rx rv h
  obtain ⟨l,b,xs,zs,rfl,rfl,hH,hB,hz,q⟩:=h
  cases rx
  obtain ⟨u,rfl,ru⟩:=rv.one
  cases ru
  obtain ⟨z,its,n,r,hl,e⟩:=I.lstM hH
  obtain ⟨z2,its2,n2,r2,hl2,e2⟩:=I.lstM hB
  have hsz:its.toArray.size + its2.toArray.size ≤ sizeLine:=by rw [List.size_toArray,List.size_toArray]; omega
  have hlong:¬ (!its.toArray.isEmpty && Builtin.List.listTooLong (its.toArray.size + its2.toArray.size)) = true:=by
    rw [notLongL hsz,Bool.and_false]
    exact Bool.false_ne_true
  refine call_meets F.slot_list_extend ⟨_,e,rfl⟩ F.entry_list_extend (F.args_list_extend_2 _ _)
    (AutoSeq1.list_extend_list_list_0 l its.toArray n b its2.toArray n2 hlong (by rw [List.size_toArray]; omega) (by omega)) ⟨e,e2,?_⟩
  refine ⟨.non,_,I.lset (its':=its ++ its2) hH e (by simp) (r.append r2) ?_,rfl,q⟩
  rw [List.length_append]
  omega
def rPop:V → List V → Hp → VK → Prop:=fun x vs H Q=>∃ l xs y,x = .ref l ∧ vs = [] ∧ H l = some (.lst xs) ∧ xs[xs.length - 1]? = some y ∧ Q y (upd H l (.lst xs.dropLast))
theorem mt_pop:MtM X "list.pop" rPop:=by
  intro pins s σ H x vs v us Q I rx rv h
  obtain ⟨l,xs,y,rfl,rfl,hH,hy,q⟩:=h
  cases rx
  have hus:=rv.zero
  subst hus
  obtain ⟨z,its,n,r,hl,e⟩:=I.lstM hH
  obtain ⟨u,hu,ru⟩:=r.get hy
  have hy':its.toArray[its.toArray.size - 1]? = some u:=by
    show its.toArray[its.length - 1]? = some u
    rw [← Array.getElem?_toList,← hl]
    exact hu
  refine call_meets F.slot_list_pop ⟨_,e,rfl⟩ F.entry_list_pop (F.args_list_pop_1 _) (MeetsSeq.list_pop_last l its.toArray n u hy' (by rw [List.size_toArray]; omega)) ⟨e,?_⟩
  refine ⟨y,_,I.lset (its':=its.dropLast) hH e ?_ r.dropLast ?_,ru,q⟩
  · show its.toArray.eraseIdxIfInBounds (its.toArray.size - 1) = its.dropLast.toArray
    rw [List.size_toArray,List.eraseIdxIfInBounds_toArray,erase_last]
  · rw [List.length_dropLast]
    omega
def rPopAt:V → List V → Hp → VK → Prop:=fun x vs H Q=>∃ l xs i k y,x = .ref l ∧ vs = [.int i] ∧ H l = some (.lst xs) ∧ -(2 ^ 63) ≤ i ∧ i < 2 ^ 63 ∧ seqIndex? i xs.length = some k ∧ xs[k]? = some y ∧ Q y (upd H l (.lst (xs.eraseIdx k)))
theorem mt_popAt:MtM X "list.pop" rPopAt:=by
  intro pins s σ H x vs v us Q I rx rv h
  obtain ⟨l,xs,i,k,y,rfl,rfl,hH,h1,h2,hk,hy,q⟩:=h
  cases rx
  obtain ⟨u,rfl,ru⟩:=rv.one
  obtain ⟨t,rfl⟩:=ru
  obtain ⟨z,its,n,r,hl,e⟩:=I.lstM hH
  obtain ⟨w,hw,rw'⟩:=r.get hy
  refine call_meets F.slot_list_pop ⟨_,e,rfl⟩ F.entry_list_pop (F.args_list_pop_2 _ _)
    (MeetsSeq.list_pop_at l its.toArray n i t k w (fitsIndex_both h1 h2) (by rw [List.size_toArray,← hl]; exact hk) (by rw [← Array.getElem?_toList]; exact hw) (by rw [List.size_toArray]; omega)) ⟨e,?_⟩
  refine ⟨y,_,I.lset (its':=its.eraseIdx k) hH e ?_ (r.eraseIdx k) ?_,rw',q⟩
  · show its.toArray.eraseIdxIfInBounds k = (its.eraseIdx k).toArray
    rw [List.eraseIdxIfInBounds_toArray]
  · have:=len_erase xs k
    omega
def rCat:R2:=fun x y H Q=>∃ l b xs zs,x = .ref l ∧ y = .ref b ∧ H l = some (.lst xs) ∧ H b = some (.lst zs) ∧ xs.length + zs.length ≤ sizeLine ∧ ∀ p,H p = none → Q (.ref p) (upd H p (.lst (xs ++ zs)))
theorem op_cat:OpR X (binaryOp .Add) rCat:=by
  intro pins s σ H x y v u Q I rx ry h
  obtain ⟨l,b,xs,zs,rfl,rfl,hH,hB,hz,q⟩:=h
  cases rx
  cases ry
  obtain ⟨z,its,n,r,hl,e⟩:=I.lstM hH
  obtain ⟨z2,its2,n2,r2,hl2,e2⟩:=I.lstM hB
  refine PySem.P.add_list e e2 ?_ (by rw [List.size_toArray,List.size_toArray]; omega)
  have ea:its.toArray ++ its2.toArray = (its ++ its2).toArray:=by simp
  rw [ea]
  exact ⟨.ref _,_,I.lnew (t':=s.toks) (r.append r2) (by rw [List.length_append]; omega),rfl,q _ I.fresh⟩
end
section
variable {prog:Program} {w:World} {A:Around} {E:Value → Shared → Prop} {s:Shared}
end
section
variable {X:Cx}
end
end L2

namespace L2
open PySem PySem.Spec PyProof.Rows
section
variable {κ:Type} [DecidableEq κ]
def dropK (kvs:List (κ × V)) (k:κ):List (κ × V):=kvs.filter fun kv=>decide (kv.1 ≠ k)
theorem KV.drop {kvs:List (κ × V)} {vs:List (κ × Value)} (r:KV kvs vs) (k:κ):KV (dropK kvs k) (without vs k):=by
  unfold KV at r ⊢
  unfold dropK without
  induction r with
  | nil=>exact .nil
  | @cons p q ps qs h t ih =>
    obtain ⟨h1,h2⟩:=h
    rw [List.filter_cons,List.filter_cons]
    by_cases e:p.1 = k
    · have a:¬ decide (p.1 ≠ k) = true:=by simp [e]
      have b:¬ decide (q.1 ≠ k) = true:=by simp [h1.symm.trans e]
      rw [if_neg a,if_neg b]; exact ih
    · have e':¬ q.1 = k:=fun z=>e (h1.trans z)
      have a:decide (p.1 ≠ k) = true:=by simp [e]
      have b:decide (q.1 ≠ k) = true:=by simp [e']
      rw [if_pos a,if_pos b]; exact .cons ⟨h1,h2⟩ ih
end
section
variable {P:Program} {w:World} {H:Hp} {h:Heap} {a:Addr}
end
section
variable {X:Cx} {pins:List (Addr × Obj)} {σ:St} {H:Hp} {s:Shared} {a:Addr} {y v:V} {u r:Value} {o:Option V} {A:Around} {E:Value → Shared → Prop}
end
section
variable {X:Cx} {pins:List (Addr × Obj)} {σ:St} {H:Hp} {s:Shared} {a:Addr} {kvs:List (Key × V)} {k:Key} {u:Value} {A:Around} {E:Value → Shared → Prop}
end
section
variable {X:Cx} {o i e value:Expr} {pos pos' tpos:Pos} {td ty tv:TE}
end
section
variable {X:Cx} {pos:Pos}
end
structure M1 (X:Cx) (o:Expr) (m:Str) (apos:Pos) (e:Expr) (cpos:Pos):Prop where
  base:attributeBase o m X.env (eval o X.env) = eval o X.env
  few:((backTo cpos (starEach [e] X.env)).all (fun x=>!x.1) && (backToKw cpos (keywordEach [] X.env)).all (fun x=>x.1.isSome)
    && decide (([e]:List Expr).length + ([]:List Keyword).length + (if ([]:List Keyword).isEmpty then 0 else 1) < 30)) = true
  line:(apos.endLine == cpos.line) = true
  trees:backTo cpos (starEach [e] X.env) = [(false,eval e X.env)]
structure M2 (X:Cx) (o:Expr) (m:Str) (apos:Pos) (e f:Expr) (cpos:Pos):Prop where
  base:attributeBase o m X.env (eval o X.env) = eval o X.env
  few:((backTo cpos (starEach [e,f] X.env)).all (fun x=>!x.1) && (backToKw cpos (keywordEach [] X.env)).all (fun x=>x.1.isSome)
    && decide (([e,f]:List Expr).length + ([]:List Keyword).length + (if ([]:List Keyword).isEmpty then 0 else 1) < 30)) = true
  line:(apos.endLine == cpos.line) = true
  trees:backTo cpos (starEach [e,f] X.env) = [(false,eval e X.env),(false,eval f X.env)]
section
variable {X:Cx} {pins:List (Addr × Obj)} {σ:St} {H:Hp} {s:Shared} {a:Addr} {y d:V} {u r:Value} {o:Option V} {A:Around} {E:Value → Shared → Prop}
end
section
variable {X:Cx} {o e f:Expr} {apos cpos:Pos} {td ty tx:TE}
end
section
variable {X:Cx} {pins:List (Addr × Obj)} {σ:St} {H:Hp} {s:Shared} {a:Addr} {kvs:List (Key × V)} {A:Around} {E:Value → Shared → Prop}
end
section
variable {X:Cx} {pins:List (Addr × Obj)} {σ:St} {H:Hp} {s:Shared} {a:Addr} {y:V} {u:Value} {A:Around} {E:Value → Shared → Prop}
end
end L2

namespace Att
open PySem PySem.W PySem.Calls PyProof.Rows
theorem ints_of_wellAll {P:Params} {h:Heap}:∀ (ns:List Int) (vs:List Value),WellAll P h vs (ns.map WData.int) → IntsAre vs ns:=by
  intro ns
  induction ns with
  | nil =>
    intro vs w
    rw [List.map_nil] at w
    cases w
    exact .nil
  | cons n ns ih =>
    intro vs w
    rw [List.map_cons] at w
    cases w with
    | cons a b =>
      cases a
      exact .cons _ _ (ih _ b)
theorem script_of {l:OpenLaw} {n:Nat} (hn:l.most = some n) {P:Params} {h:Heap} {args:List WData} {vals:List Value}
    (hpre:l.row.toRowW.claim.pre args = true) (hwl:WellAll P h vals args) :
    ∃ a vs ns,vals = [Value.ref a] ∧ args = [WData.list (ns.map WData.int)] ∧ h.get? a = some { cls:=.type "list",data:=.seq vs.toArray } ∧ IntsAre vs ns ∧ ns.length ≤ n:=by
  have hsh:WShape.hasAll [] args [.list .int] = true:=(pre_splitW hpre).1
  have hc:l.pre.holds [] { args:=args } = true:=(pre_splitW hpre).2
  obtain ⟨d,r,rfl,h1,h2⟩:=hasAllW_cons hsh
  obtain rfl:=hasAllW_nil h2
  obtain ⟨xs,rfl,h3⟩:=hasW_list h1
  obtain ⟨ns,rfl⟩:=items_int h3
  have hlen:ns.length ≤ n:=by
    unfold OpenLaw.pre at hc
    have h4:(WTm.not (.lt (.lit (.int (n:Int))) (.len (.arg 0)))).holds [] { args:=[.list (ns.map .int)] } = true:=by
      have h4:=(holds_andW hc).1
      rw [hn] at h4
      exact h4
    have h5:=condW_of h4 (w_not (w_lt w_lit (w_len_list (w_arg rfl))))
    rw [List.length_map] at h5
    refine Nat.le_of_not_lt fun q=>?_
    have q':(n:Int) < ((ns.length:Nat):Int):=by omega
    first
      | (rw [decide_eq_true q'] at h5; exact absurd h5 (by decide))
      | (simp at h5; omega)
  cases hwl with
  | cons w1 w2 =>
    cases w2
    cases w1 with
    | list ho hall=>exact ⟨_,_,ns,rfl,rfl,ho,ints_of_wellAll ns _ hall,hlen⟩
theorem post_true (l:OpenLaw) (args:List WData):l.row.toRowW.claim.post args (.bool true) args = true :=
  postW_of (r:=l.row.toRowW) (X:=(true == true))
    (show WShape.has [] (.bool true) .bool = true by first | rfl | decide | simp [WShape.has,WShape.arms,WShape.armsAll])
    (show (WTm.eq .res (.lit (.bool true))).value [] { args:=args,res:=some (.bool true),after:=args } = some (.bool (true == true)) from w_eq_bool (w_res rfl) w_lit) rfl
section
variable {prog:Program} {w:World} {A:Around} {E:Value → Shared → Prop} {s:Shared} {K:Frag}
end
end Att
namespace L2
open PySem PySem.Spec PyProof.Rows
theorem vals_ints:∀ {vs:List Value} {ns:List Int},IntsAre vs ns → Vals (ns.map V.int) vs
  | _,_,.nil=>.nil
  | _,_,.cons n t h=>.cons ⟨t,rfl⟩ (vals_ints h)
def Only (H:Hp):Prop:=∀ b,H b = none ∨ ∃ o xs,H b = some (.frz o (.lst xs))
theorem law_call {P:Program} {w:World} {K:PySem.W.Frag} {mg mb:Str → Option Value} {CX:CXT} {k:Nat} {fa a:Addr} {fd:FuncData} {x:Str} {sp:Sp} {s₁:Shared} {vs:List Value} {ns:List Int}
    (KX:K.In s₁.heap) (hns:s₁.heap.Ns mainGlobals mg) (hb:s₁.heap.Ns builtinsNs mb) (hbb:∀ x:Str,x ≠ "__name__" → mb x = bootBuiltins x) (hlim:s₁.heap.NoLimit) (hg:s₁.gens = #[])
    (ha:s₁.heap.get? a = some { cls:=.type "list",data:=.seq vs.toArray }) (hi:IntsAre vs ns) (hl:ns.length ≤ sizeLine) (hr:Room k callerA)
    (F:∀ base:Heap,K.In base → base.Ns mainGlobals mg → FnOk P w K mg base CX k fa fd [x] sp) (hbind:∀ (s:Shared) (u:Value),BindsTo s fd ⟨[u],[]⟩ [(x,u)])
    (hsp:∀ H:Hp,Only H → SqL K H a (ns.map V.int) → sp [.ref a] H (fun v _=>v = .bl true) fun _ _ _=>False)
    (hCX:∀ H e s',CX [] H s₁ (fun _ _ _=>False) e s' → False) :
    codeAny (model P w) callerA (.call (.ref fa) ⟨[.ref a],[]⟩) (fun r s'=>r = .ok (.ret (.bool true)) ∧ OldK s₁.heap s'.heap ∧ s'.os = s₁.os ∧ AllBare s'.gens) s₁:=by
  have rv:=vals_ints hi
  have lenV:=hi.length
  have core:∀ H:Hp,Only H → SqL K H a (ns.map V.int) → HOk P w H s₁.heap → (∀ b,H b ≠ none → b = a) → (H a ≠ none → K.lookup a = none) →
      codeAny (model P w) callerA (.call (.ref fa) ⟨[.ref a],[]⟩) (fun r s'=>r = .ok (.ret (.bool true)) ∧ OldK s₁.heap s'.heap ∧ s'.os = s₁.os ∧ AllBare s'.gens) s₁:=by
    intro H hO hS hok hA hK
    have base_of:∀ {b:Addr} {o:Obj},s₁.heap.get? b = some o → H b = none → (hidT s₁.heap H).get? b = some o:=fun e n=>hidT_get e n
    have noA:∀ {b:Addr} {o:Obj} {es:Array DictEntry} {ep:Nat},s₁.heap.get? b = some o → o.data = .dict es ep → H b = none:=fun {b o es ep} e d=>by
      cases q:H b with
      | none=>rfl
      | some u =>
        have e':b = a:=hA b (by rw [q]; simp)
        subst e'
        rw [ha] at e; cases e
        have d':Data.seq vs.toArray _ = Data.dict es ep:=d
        cases d'
    have nsK:∀ {b:Addr} {m:Str → Option Value},s₁.heap.Ns b m → (hidT s₁.heap H).Ns b m:=fun {b m} ⟨o,es,ep,e,d,r⟩=>⟨o,es,ep,base_of e (noA e d),d,r⟩
    have hKb:K.In (hidT s₁.heap H):=fun b o e=>base_of (KX b o e) (by
      cases q:H b with
      | none=>rfl
      | some u =>
        have e':b = a:=hA b (by rw [q]; simp)
        subst e'
        rw [hK (by rw [q]; simp)] at e; cases e)
    have hM:Mod K mg (hidT s₁.heap H):=⟨hKb,nsK hns,⟨mb,nsK hb,hbb⟩,let ⟨mc,h1,h2⟩:=hlim; ⟨mc,nsK h1,h2⟩⟩
    have e0:Env0 P w K mg (hidT s₁.heap H) callerA [] s₁ H:=⟨rfl,hM,fun b o e=>of_hidT e,Nat.le_of_eq (hidT_size _ _),trivial,fun b hb=>absurd (show b ∈ ([]:List Addr) from hb) (by simp),hok,.of_eq hg⟩
    refine codeAny_mono ((F _ hKb (nsK hns)).run callerA [] s₁ H ⟨[.ref a],[]⟩ [.ref a] [.ref a] _ _ hr e0 (hbind s₁ (.ref a)) (.cons rfl .nil) (hsp H hO hS)) fun r s' h=>?_
    cases r with
    | error e=>exact (hCX H e s' h).elim
    | ok fl =>
      cases fl with
      | next=>exact False.elim h
      | brk=>exact False.elim h
      | cont=>exact False.elim h
      | ret u =>
        obtain ⟨v,H',os,bare,un,hok',r',q⟩:=h
        have q':v = .bl true:=q
        subst q'
        obtain rfl:u = Value.bool true:=r'
        refine ⟨rfl,OldK.of_keep fun b o e=>?_,os,bare⟩
        cases q:H b with
        | none=>exact un.keep b o e q (by intro z; exact absurd (show b ∈ ([]:List Addr) from z) (by simp)) (by simp)
        | some u =>
          rcases hO b with z | ⟨ob,xs,z⟩
          · rw [q] at z; cases z
          · have z2:=un.frzs b ob _ z
            obtain ⟨e1,_⟩:=hok b _ z
            obtain ⟨e2,_⟩:=hok' b _ z2
            rw [e] at e1; cases e1
            exact e2
  cases hk:K.lookup a with
  | some o =>
    have e:=KX a o hk
    rw [ha] at e
    cases e
    refine core (fun _=>none) (fun _=>.inl rfl) (.inr ⟨_,vs.toArray,_,hk,rfl,rfl,rfl,by rw [List.size_toArray,lenV]; exact hl,by simpa using rv⟩) (fun b u z=>by have z':(none:Option HO) = some u:=z; cases z') (fun b z=>absurd rfl z) fun z=>absurd rfl z
  | none =>
    refine core (fun b=>if b = a then some (.frz { cls:=.type "list",data:=.seq vs.toArray } (.lst (ns.map V.int))) else none) (fun b=>?_) (.inl (.inr ⟨{ cls:=.type "list",data:=.seq vs.toArray },if_pos rfl⟩)) (fun b u z=>?_) (fun b z=>?_) fun _=>hk
    · by_cases hb:b = a
      · exact .inr ⟨_,_,if_pos hb⟩
      · exact .inl (if_neg hb)
    · by_cases hb:b = a
      · have z':=(if_pos hb).symm.trans z
        cases z'
        subst hb
        exact ⟨ha,by rw [List.length_map]; exact hl,vs,_,rv,ha⟩
      · have z':=(if_neg hb).symm.trans z
        cases z'
    · by_cases hb:b = a
      · exact hb
      · exact absurd (if_neg hb) z
end L2
namespace L2
open PySem PySem.Spec PyProof.Rows
end L2
namespace L2
open PySem PySem.Spec PyProof.Rows
def defArgs (s:Stmt):Arguments:=match s with
  | .FunctionDef _ a _ _ _ _ _ _ _ _=>a
  | _=>{ posonlyargs:=[],args:=[],vararg:=none,kwonlyargs:=[],kw_defaults:=[],kwarg:=none,defaults:=[] }
def defBody (s:Stmt):List Stmt:=match s with
  | .FunctionDef _ _ b _ _ _ _ _ _ _=>b
  | _=>[]
def defScope (s:Stmt):Scope:=match s with
  | .FunctionDef _ _ _ _ _ _ sc _ _ _=>sc
  | _=>{ kind:=.function,names:=[],isGenerator:=false,isCoroutine:=false }
abbrev CX0:CXT:=fun _ _ _ _ _ _=>False
abbrev E0:XK:=fun _ _ _=>False
theorem pass0 {X:Cx}:Passes CX0 X E0:=fun _ _ _ _ _ _ _ h=>h.elim
structure Fun (K:PySem.W.Frag) (x qual:Str) (st:Stmt) (f:Addr) (fd:FuncData):Prop where
  ex:∃ (oc:Value) (od:Option Addr) (kV doc pm:Value) (an:Option Addr) (cdv ct:Value) (osl:Array (Option Value)),
    fd = PySem.W.fnOf x qual (defArgs st) (defBody st) (defScope st) .none kV doc pm an cdv ct ∧ K.lookup f = some ⟨oc,od,.func fd,osl⟩ ∧ PySem.W.codeIn K cdv qual = true
  kp:PySem.W.keepIn K (.ref f) = true
section
variable {P:Program} {w:World} {K:PySem.W.Frag} {mg:Str → Option Value} {base:Heap}
theorem Fun.ok {x qual:Str} {st:Stmt} {f:Addr} {fd:FuncData} {N ps:List Str} {k:Nat} {sp:Sp} (F:Fun K x qual st f fd) (S:FnScope N ps (defScope st)) (len:∀ vs H Q E,sp vs H Q E → vs.length = ps.length)
    (hbody:∀ (cdv:Value) (A:Around) (outer:List Env) (s:Shared) (H:Hp) (vs:List V) (Q:VK) (E:XK),Room k (A.deeper (envOfC qual (defScope st) s.heap.objs.size f cdv)) → sp vs H Q E →
      ∃ t,PSs (cxOf CX0 P w K mg base N qual (defScope st) f cdv A outer s H E).nox (defBody st) t ∧ t { nx:=fun _ H'=>Q .non H',rt:=Q } (start N vs) H):FnOk P w K mg base CX0 (k + 1) f fd ps sp:=by
  obtain ⟨oc,od,kV,doc,pm,an,cdv,ct,osl,rfl,lk,hcd⟩:=F.ex
  refine fn_of lk hcd S len fun A outer s H vs Q E hr hsp=>?_
  obtain ⟨t,h,q⟩:=hbody cdv A outer s H vs Q E hr hsp
  exact ⟨t,h.nox,q⟩
theorem Fun.binds {x qual:Str} {st:Stmt} {f:Addr} {fd:FuncData} {ps:List Str} (F:Fun K x qual st f fd)
    (h:∀ (kV doc pm:Value) (an:Option Addr) (cdv ct:Value) (us:List Value),us.length = ps.length → bindArgs (PySem.W.fnOf x qual (defArgs st) (defBody st) (defScope st) .none kV doc pm an cdv ct) ⟨us,[]⟩ = pure (ps.zip us)):Binds K fd ps []:=by
  obtain ⟨oc,od,kV,doc,pm,an,cdv,ct,osl,rfl,lk,hcd⟩:=F.ex
  exact .all (h kV doc pm an cdv ct)
theorem fun_mk {x qual:Str} {st:Stmt} {f:Addr} {oc:Value} {od an:Option Addr} {osl:Array (Option Value)} {kV doc pm cdv ct:Value} (l:K.lookup f = some ⟨oc,od,.func (PySem.W.fnOf x qual (defArgs st) (defBody st) (defScope st) .none kV doc pm an cdv ct),osl⟩)
    (c:PySem.W.codeIn K cdv qual = true) (k:PySem.W.keepIn K (.ref f) = true):Fun K x qual st f (PySem.W.fnOf x qual (defArgs st) (defBody st) (defScope st) .none kV doc pm an cdv ct):=⟨⟨oc,od,kV,doc,pm,an,cdv,ct,osl,rfl,l,c⟩,k⟩
end
section
variable {X:Cx}
end
def Same (H H':Hp):Prop:=∀ b o,H b = some o → H' b = some o
theorem Same.refl (H:Hp):Same H H:=fun _ _ h=>h
theorem Same.trans {H H1 H2:Hp} (a:Same H H1) (b:Same H1 H2):Same H H2:=fun c o h=>b c o (a c o h)
theorem Same.free {H H':Hp} (e:Same H H') {l:Addr} (h:H' l = Option.none):H l = Option.none:=by
  cases q:H l with
  | none=>rfl
  | some o =>
    rw [e l o q] at h
    cases h
theorem Same.seq {K:PySem.W.Frag} {H H':Hp} {a:Addr} {xs:List V} (e:Same H H') (h:SqL K H a xs):SqL K H' a xs:=by
  rcases h with (h | ⟨o,h⟩) | h
  · exact .inl (.inl (e _ _ h))
  · exact .inl (.inr ⟨o,e _ _ h⟩)
  · exact .inr h
section
variable {κ:Type} [DecidableEq κ]
end
end L2

namespace L2
open PySem PySem.Spec PyProof.Rows
theorem asN {a b:Nat} (h:a < b):a < b:=h
theorem asL {a b:Nat} (h:a ≤ b):a ≤ b:=h
theorem asE {a b:Nat} (h:a = b):a = b:=h
def clos (cells:List (Str × Addr)):List (Str × NameKind) → List (Str × Addr) → List (Str × Addr)
  | [],acc=>acc
  | (n,k) :: r,acc=>if k == .free then clos cells r ((n,(cells.lookup n).getD 0) :: acc) else clos cells r acc
theorem clos_app (cells:List (Str × Addr)):∀ (names:List (Str × NameKind)) (acc:List (Str × Addr)),clos cells names acc = clos cells names [] ++ acc
  | [],_=>rfl
  | (n,k) :: r,acc=>by
    unfold clos
    split
    · rw [clos_app cells r (_ :: acc),clos_app cells r [_],List.append_assoc]; rfl
    · exact clos_app cells r acc
theorem clos_mem {cells:List (Str × Addr)} {x:Str} {c:Addr}:∀ {names:List (Str × NameKind)},(x,c) ∈ clos cells names [] → (x,NameKind.free) ∈ names ∧ c = (cells.lookup x).getD 0
  | [],h=>by simp [clos] at h
  | (n,k) :: r,h=>by
    unfold clos at h
    split at h
    · rename_i hk
      rw [clos_app] at h
      rcases List.mem_append.mp h with h | h
      · obtain ⟨h1,h2⟩:=clos_mem h
        exact ⟨List.mem_cons_of_mem _ h1,h2⟩
      · have e:=List.mem_singleton.mp h
        injection e with e1 e2
        subst e1
        have hk':k = .free:=by simpa using hk
        subst hk'
        exact ⟨List.mem_cons_self,e2⟩
    · obtain ⟨h1,h2⟩:=clos_mem h
      exact ⟨List.mem_cons_of_mem _ h1,h2⟩
theorem clos_has {cells:List (Str × Addr)} {x:Str}:∀ {names:List (Str × NameKind)},(x,NameKind.free) ∈ names → (x,(cells.lookup x).getD 0) ∈ clos cells names []
  | [],h=>by simp at h
  | (n,k) :: r,h=>by
    unfold clos
    rcases List.mem_cons.mp h with e | h
    · injection e with e1 e2
      subst e1; subst e2
      rw [if_pos (by rfl),clos_app]
      exact List.mem_append_right _ (by simp)
    · split
      · rw [clos_app]
        exact List.mem_append_left _ (clos_has h)
      · exact clos_has h
theorem cellsFrom_app:∀ (names:List (Str × NameKind)) (n:Nat) (acc:List (Str × Addr)),cellsFrom n names acc = cellsFrom n names [] ++ acc
  | [],_,_=>rfl
  | (x,k) :: r,n,acc=>by
    unfold cellsFrom
    split
    · rw [cellsFrom_app r (n + 1) (_ :: acc),cellsFrom_app r (n + 1) [_],List.append_assoc]; rfl
    · exact cellsFrom_app r n acc
theorem cellsFrom_mem {x:Str} {c:Addr}:∀ {names:List (Str × NameKind)} {n:Nat},(x,c) ∈ cellsFrom n names [] → (x,NameKind.cell) ∈ names
  | [],_,h=>by simp [cellsFrom] at h
  | (y,k) :: r,n,h=>by
    unfold cellsFrom at h
    split at h
    · rename_i hk
      rw [cellsFrom_app] at h
      rcases List.mem_append.mp h with h | h
      · exact List.mem_cons_of_mem _ (cellsFrom_mem h)
      · have e:=List.mem_singleton.mp h
        injection e with e1 e2
        subst e1
        have hk':k = .cell:=by simpa using hk
        subst hk'
        exact List.mem_cons_self
    · exact List.mem_cons_of_mem _ (cellsFrom_mem h)
theorem mem_lookup {α:Type} {x:Str} {a:α}:∀ {l:List (Str × α)},(l.map (·.1)).Nodup → (x,a) ∈ l → l.lookup x = some a
  | [],_,h=>by simp at h
  | (y,b) :: r,nd,h=>by
    have nd':(y :: r.map (·.1)).Nodup:=nd
    obtain ⟨h1,h2⟩:=List.nodup_cons.mp nd'
    rcases List.mem_cons.mp h with e | hm
    · injection e with e1 e2
      subst e1; subst e2
      rw [List.lookup_cons,beq_self_eq_true]
    · have hne:(x == y) = false:=by
        rw [beq_eq_false_iff_ne]
        rintro rfl
        exact h1 (List.mem_map.mpr ⟨(x,a),hm,rfl⟩)
      rw [List.lookup_cons,hne]
      exact mem_lookup h2 hm
theorem lookup_none_of {α:Type} {x:Str}:∀ {l:List (Str × α)},(∀ a,(x,a) ∉ l) → l.lookup x = none
  | [],_=>rfl
  | (y,b) :: r,h=>by
    have hne:(x == y) = false:=by
      rw [beq_eq_false_iff_ne]
      rintro rfl
      exact h b List.mem_cons_self
    rw [List.lookup_cons,hne]
    exact lookup_none_of fun a m=>h a (List.mem_cons_of_mem _ m)
theorem lookup_some_of {α:Type} {x:Str} {a:α}:∀ {l:List (Str × α)},(x,a) ∈ l → ∃ b,l.lookup x = some b
  | [],h=>by simp at h
  | (y,b) :: r,h=>by
    rw [List.lookup_cons]
    cases e:x == y with
    | true=>exact ⟨b,rfl⟩
    | false =>
      rcases List.mem_cons.mp h with q | q
      · injection q with q1 _
        subst q1
        rw [beq_self_eq_true] at e; cases e
      · exact lookup_some_of q
theorem lookup_app {α:Type} {x:Str}:∀ (l k:List (Str × α)),(l ++ k).lookup x = (l.lookup x).or (k.lookup x)
  | [],k=>by simp
  | (y,b) :: r,k=>by
    show List.lookup x ((y,b) :: (r ++ k)) = _
    rw [List.lookup_cons,List.lookup_cons]
    cases x == y with
    | true=>rfl
    | false=>exact lookup_app r k
def FreeOk (sc:Scope) (env:Env):Prop:=∀ x,(x,NameKind.free) ∈ sc.names → env.kindOf x = some .cell ∨ env.kindOf x = some .free
theorem closureFor_eq {sc:Scope} {env:Env} (h:∀ x,(x,NameKind.free) ∈ sc.names → ∃ c,env.cells.lookup x = some c):closureFor sc env = pure (clos env.cells sc.names []):=by
  have go:∀ (names:List (Str × NameKind)) (acc:List (Str × Addr)),(∀ x,(x,NameKind.free) ∈ names → ∃ c,env.cells.lookup x = some c) →
      (forIn names acc fun (x:Str × NameKind) (cs:List (Str × Addr))=>(match x with | (name,kind)=>if (kind == NameKind.free) = true then (do let c ← cellOf env name; pure (ForInStep.yield ((name,c) :: cs))) else pure (ForInStep.yield cs):Sem (ForInStep (List (Str × Addr))))) = pure (clos env.cells names acc):=by
    intro names
    induction names with
    | nil=>intro acc _; rfl
    | cons p r ih =>
      intro acc hn
      obtain ⟨n,k⟩:=p
      have hr:∀ x,(x,NameKind.free) ∈ r → ∃ c,env.cells.lookup x = some c:=fun x hx=>hn x (List.mem_cons_of_mem _ hx)
      rw [List.forIn_cons]
      unfold clos
      by_cases hk:(k == NameKind.free) = true
      · have hk':k = .free:=by simpa using hk
        subst hk'
        obtain ⟨c,hc⟩:=hn n List.mem_cons_self
        have e:cellOf env n = pure c:=by unfold cellOf; rw [hc]
        rw [if_pos (by rfl)]
        simp only [if_pos (show (NameKind.free == NameKind.free) = true from rfl),e,hc,Option.getD_some,pure_bind]
        exact ih _ hr
      · rw [if_neg hk]
        simp only [if_neg hk,pure_bind]
        exact ih _ hr
  unfold closureFor
  have q:=go sc.names [] h
  first
    | (rw [show (forIn sc.names ([]:List (Str × Addr)) _:Sem (List (Str × Addr))) = _ from q]; rfl)
    | (refine (congrArg (fun z=>z >>= pure) q).trans ?_; rfl)
    | (simp only [q]; rfl)
    | exact q
def compEnvO (sc:Scope) (C:Addr) (env:Env):Env :=
  { scope:=relabel sc env,locals:=C,globals:=env.globals,cells:=cellsFrom (C + 1) sc.names (clos env.cells sc.names []),qual:=env.qual,func:=none,code:=env.code,frame:=env.frame,builtins:=env.builtins }
theorem wpAny_newEnvAround {M:Model} {A:Around} {E:Value → Shared → Prop} {s:Shared} {sc:Scope} {env:Env} {cl:List (Str × Addr)} {Q:Env → Shared → Prop}
    (hQ:Q { scope:=sc,locals:=s.heap.objs.size,globals:=env.globals,cells:=cellsFrom (s.heap.objs.size + 1) sc.names cl,qual:=env.qual,func:=none,code:=env.code,frame:=env.frame,builtins:=env.builtins }
      { s with heap:=pushCells (s.heap.push { cls:=.type "dict",data:=.dict #[] }) sc.names }) :
    wpAny M A (newFunctionEnv sc env.globals cl [] env.qual none .none (some env)) Q E s:=by
  simp only [newFunctionEnv,Option.isSome_some,if_true]
  refine wpAny_bind (wpAny_alloc ?_)
  refine wpAny_bind (wpAny_layCells _ (fun name kind cells=>by cases hkc:kind == NameKind.cell <;> simp [hkc]) _ _ _ _ ?_)
  rw [show ({ s with heap:=s.heap.push { cls:=.type "dict",data:=.dict #[] } }:Shared).heap.objs.size = s.heap.objs.size + 1 from Heap.size_push ..]
  refine wpAny_bind ?_
  rw [List.forIn_nil]
  exact wpAny_pure (wpAny_pure hQ)
def cxComp (X:Cx) (N':List Str) (sc:Scope) (C:Addr) (s:Shared) (H:Hp) (fp:List Addr):Cx :=
  { X with N:=N',s₀:=s,H₀:=H,env:=compEnvO sc C X.env,outer:=X.stack,stack:=X.stack,ex:=fp,fn:=fun x=>sc.names.lookup x == some .cell,pn:=[],xe:=fun _ _=>False }
def PTs (X:Cx) (ifs:List Expr) (t:TT):Prop :=
  ∀ (pins:List (Addr × Obj)) (s:Shared) (σ:St) (H:Hp) (Q:Bool → Hp → Prop),Inv X pins σ H s → t σ H Q →
    wpAny (model X.prog X.w) X.A (forIn ifs true fun c r=>if r = true then do let ok ← isTrue c X.env (eval c X.env); pure (ForInStep.yield ok) else pure (ForInStep.yield r)) (TP X pins σ Q) X.xe s
def tYes:TT:=fun _ H Q=>Q true H
theorem pts_nil {X:Cx}:PTs X [] tYes:=fun _ _ _ H _ I h=>wpAny_tests_nil ⟨H,I,h⟩
theorem pts_one {X:Cx} {c:Expr} {t:TT} (h:PT X c t):PTs X [c] t:=fun pins s σ H Q I q=>wpAny_tests_one (h pins s σ H Q I q)
structure CompNames (N N':List Str) (k:Nat) (sc:Scope) (env:Env):Prop where
  kind:sc.kind = .function
  nd:(sc.names.map (·.1)).Nodup
  len:N'.length = N.length + k
  old:∀ (i:Nat) (x:Str),N'[i]? = some x → i < N.length → (x,NameKind.free) ∈ sc.names ∧ N[i]? = some x ∨ sc.names.lookup x = none
  free:FreeOk sc env
theorem relabel_lookup {sc:Scope} {env:Env} {x:Str} {k:NameKind}:∀ {names:List (Str × NameKind)},
    (names.map fun (n,k)=>if (k == NameKind.free && env.scope.kind == .function && env.kindOf n == some .cell) then (n,NameKind.cell) else (n,k)).lookup x = some k →
    names.lookup x = some k ∨ (names.lookup x = some .free ∧ k = .cell)
  | [],h=>by simp at h
  | (n,j) :: r,h=>by
    have ih:=@relabel_lookup sc env x k r
    rw [List.map_cons] at h
    rw [List.lookup_cons]
    by_cases hc:(j == NameKind.free && env.scope.kind == .function && env.kindOf n == some .cell) = true
    · have h':List.lookup x ((n,NameKind.cell) :: (r.map fun (n,k)=>if (k == NameKind.free && env.scope.kind == .function && env.kindOf n == some .cell) then (n,NameKind.cell) else (n,k))) = some k:=by
        rw [← h]; simp only [if_pos hc]
      rw [List.lookup_cons] at h'
      cases e:x == n with
      | true =>
        rw [e] at h'
        have hk:k = .cell:=(Option.some.inj h').symm
        have hj:j = .free:=by
          simp only [Bool.and_eq_true,beq_iff_eq] at hc
          exact hc.1.1
        subst hj
        exact .inr ⟨rfl,hk⟩
      | false =>
        rw [e] at h'
        exact ih h'
    · have h':List.lookup x ((n,j) :: (r.map fun (n,k)=>if (k == NameKind.free && env.scope.kind == .function && env.kindOf n == some .cell) then (n,NameKind.cell) else (n,k))) = some k:=by
        rw [← h]; simp only [if_neg hc]
      rw [List.lookup_cons] at h'
      cases e:x == n with
      | true=>rw [e] at h'; exact .inl h'
      | false=>rw [e] at h'; exact ih h'
section
variable {X:Cx} {N':List Str} {k:Nat} {sc:Scope} {pins:List (Addr × Obj)} {σ:St} {H:Hp} {s:Shared}
theorem comp_cells {C:Addr} {x:Str} {c:Addr} (nd:(sc.names.map (·.1)).Nodup) (h:(compEnvO sc C X.env).cells.lookup x = some c) :
    ((x,c) ∈ cellsFrom (C + 1) sc.names [] ∧ (x,NameKind.cell) ∈ sc.names) ∨ ((x,NameKind.free) ∈ sc.names ∧ c = (X.env.cells.lookup x).getD 0):=by
  have m:=mem_of_lookup h
  have m':(x,c) ∈ cellsFrom (C + 1) sc.names (clos X.env.cells sc.names []):=m
  rw [cellsFrom_app] at m'
  rcases List.mem_append.mp m' with z | z
  · exact .inl ⟨z,cellsFrom_mem z⟩
  · exact .inr (clos_mem z)
theorem comp_free_cell {C:Addr} {x:Str} (nd:(sc.names.map (·.1)).Nodup) (h:(x,NameKind.free) ∈ sc.names):(compEnvO sc C X.env).cells.lookup x = some ((X.env.cells.lookup x).getD 0):=by
  show (cellsFrom (C + 1) sc.names (clos X.env.cells sc.names [])).lookup x = _
  rw [cellsFrom_app,lookup_app,lookup_none_of (fun a m=>?_),Option.none_or]
  · obtain ⟨b,hb⟩:=lookup_some_of (clos_has (cells:=X.env.cells) h)
    have:=(clos_mem (mem_of_lookup hb)).2
    rw [hb,this]
  · have e1:=mem_lookup nd (cellsFrom_mem m)
    rw [mem_lookup nd h] at e1
    cases e1
theorem inv_comp (I:Inv X pins σ H s) (hc:X.calm = true) (S:CompNames X.N N' k sc X.env) {fp:List Addr} (hf:∀ b ∈ fp,FpOk X pins H b) (hfo:∀ b ∈ fp,∃ o,s.heap.get? b = some o)
    {s4:Shared} {D C:Addr} (eD:D = s.heap.objs.size) (eC:C = s.heap.objs.size + 1)
    (e4:s4 = { s with heap:=pushCells ((s.heap.push { cls:=.type "list",data:=.seq #[] 0 }).push { cls:=.type "dict",data:=.dict #[] }) sc.names }) :
    Inv (cxComp X N' sc C s H fp) [(D,{ cls:=.type "list",data:=.seq #[] 0 })] (σ ++ List.replicate k none) H s4 ∧ ∀ b ∈ fp,FpOk (cxComp X N' sc C s H fp) [(D,{ cls:=.type "list",data:=.seq #[] 0 })] H b:=by
  subst eD eC e4
  generalize hh1:s.heap.push { cls:=.type "list",data:=.seq #[] 0 } = h1
  generalize hh2:h1.push { cls:=.type "dict",data:=.dict #[] } = h2
  have sz1:h1.objs.size = s.heap.objs.size + 1:=by rw [← hh1]; exact Heap.size_push ..
  have sz2:h2.objs.size = s.heap.objs.size + 2:=by rw [← hh2,Heap.size_push,sz1]
  have k1:∀ b o,s.heap.get? b = some o → h1.get? b = some o:=fun b o e=>by rw [← hh1]; exact Heap.get?_push_of_some _ e
  have k2:∀ b o,h1.get? b = some o → h2.get? b = some o:=fun b o e=>by rw [← hh2]; exact Heap.get?_push_of_some _ e
  have k3:∀ b o,h2.get? b = some o → (pushCells h2 sc.names).get? b = some o:=pushCells_keeps sc.names h2
  have kk:∀ b o,s.heap.get? b = some o → (pushCells h2 sc.names).get? b = some o:=fun b o e=>k3 b o (k2 b o (k1 b o e))
  have own:CellsOk (pushCells h2 sc.names) h2.objs.size (cellsFrom h2.objs.size sc.names []):=cellsFrom_ok sc.names h2 h2.objs.size [] ⟨fun _ _ hm=>(nomatch hm),List.Pairwise.nil⟩ (Nat.le_refl _)
  have eC1:s.heap.objs.size + 1 + 1 = h2.objs.size:=by rw [sz2]
  have freeCell:∀ x,(x,NameKind.free) ∈ sc.names → ∃ c,X.env.cells.lookup x = some c:=fun x hx=>I.ok.has x (S.free x hx)
  have cells:∀ x c,(compEnvO sc (s.heap.objs.size + 1) X.env).cells.lookup x = some c →
      ((x,c) ∈ cellsFrom h2.objs.size sc.names [] ∧ (x,NameKind.cell) ∈ sc.names ∧ (pushCells h2 sc.names).IsCell c none ∧ h2.objs.size ≤ c) ∨ ((x,NameKind.free) ∈ sc.names ∧ X.env.cells.lookup x = some c):=fun x c e=>by
    rcases comp_cells S.nd e with ⟨m,q⟩ | ⟨m,q⟩
    · rw [eC1] at m
      exact .inl ⟨m,q,(own.empty x c m).1,(own.empty x c m).2⟩
    · obtain ⟨c',hc'⟩:=freeCell x m
      rw [hc',Option.getD_some] at q
      subst q
      exact .inr ⟨m,hc'⟩
  have old:∀ x c,X.env.cells.lookup x = some c → c < s.heap.objs.size:=fun x c e=>by
    obtain ⟨v,q⟩:=I.cell x c e
    exact q.lt
  have fpl:∀ b ∈ fp,b < s.heap.objs.size:=fun b hb=>by
    obtain ⟨o,e⟩:=hfo b hb
    exact Heap.lt_size e
  have hCn:H (s.heap.objs.size + 1) = none:=I.hok.fresh (Nat.le_succ _)
  have hDn:H s.heap.objs.size = none:=I.hok.fresh (Nat.le_refl _)
  have nofs:∀ a,s.heap.objs.size ≤ a → a ∉ frs X.stack:=fun a ha hb=>by
    rcases List.mem_cons.mp (I.stkSub a hb) with e | hb
    · have t1:=asN I.lt
      have t2:=asE e
      have t3:=asL ha
      omega
    · exact I.nofs ha hb
  have fin:∀ b ∈ fp,b ∉ frs X.stack:=fun b hb z=>by
    obtain ⟨f0,f1,f2,f3,f4,f5⟩:=hf b hb
    rcases List.mem_cons.mp (I.stkSub b z) with e | z
    · exact f1 e
    · exact f2 z
  have ok:(cxComp X N' sc (s.heap.objs.size + 1) s H fp).Ok:=by
    refine ⟨I.ok.mod,S.kind,I.ok.glob,I.ok.blt,Nat.le_succ _,?_,?_,?_,I.ok.hd,I.ok.frames,.inl rfl,?_,I.bs,Nat.le_trans I.ok.bsz I.sz,?_,fin,I.stack,I.stkFree⟩
    · intro x y c hx hy
      rcases cells x c hx with ⟨m1,_,_,g1⟩ | ⟨m1,g1⟩ <;> rcases cells y c hy with ⟨m2,_,_,g2⟩ | ⟨m2,g2⟩
      · exact name_of_addr own.apart m1 m2
      · exact absurd (Nat.lt_of_lt_of_le (old y c g2) (Nat.le_trans (by rw [sz2]; exact Nat.le_add_right _ _) g1)) (Nat.lt_irrefl _)
      · exact absurd (Nat.lt_of_lt_of_le (old x c g1) (Nat.le_trans (by rw [sz2]; exact Nat.le_add_right _ _) g2)) (Nat.lt_irrefl _)
      · exact I.ok.inj x y c g1 g2
    · intro x hx
      have hx:(relabel sc X.env).names.lookup x = some .cell ∨ (relabel sc X.env).names.lookup x = some .free:=hx
      have two:sc.names.lookup x = some .cell ∨ sc.names.lookup x = some .free:=by
        rcases hx with hx | hx
        · rcases relabel_lookup (sc:=sc) hx with q | ⟨q,_⟩
          · exact .inl q
          · exact .inr q
        · rcases relabel_lookup (sc:=sc) hx with q | ⟨_,q⟩
          · exact .inr q
          · cases q
      rcases two with q | q
      · have:=PySem.W.cellsFrom_some sc.names (s.heap.objs.size + 1 + 1) (clos X.env.cells sc.names []) (.inl q)
        exact Option.isSome_iff_exists.mp this
      · exact ⟨_,comp_free_cell S.nd (mem_of_lookup q)⟩
    · intro x c hx e
      have hx:(sc.names.lookup x == some NameKind.cell) = true:=hx
      have hx':sc.names.lookup x = some .cell:=by simpa using hx
      rcases cells x c e with ⟨_,_,_,g⟩ | ⟨m,_⟩
      · show s.heap.objs.size ≤ c
        omega
      · rw [mem_lookup S.nd m] at hx'
        cases hx'
    · intro b hb
      refine ⟨?_,fun x c e z=>?_⟩
      · exact Nat.ne_of_lt (Nat.lt_succ_of_lt (fpl b hb))
      · rcases cells x c e with ⟨_,_,_,g⟩ | ⟨_,g⟩
        · have t1:=asN (fpl b hb)
          have t2:=asL g
          have t3:=asE z
          omega
        · exact (hf b hb).2.2.2.2.1 x c g z
    · intro b o e hb
      rcases (hf b hb).2.2.2.1 with z | z
      · exact I.ok.noex b o e z
      · exact absurd (Nat.lt_of_lt_of_le (Heap.lt_size e) (Nat.le_trans I.ok.bsz z)) (Nat.lt_irrefl _)
  have ns:(pushCells h2 sc.names).Ns (s.heap.objs.size + 1) fun _=>none:=by
    have q:h2.Ns h1.objs.size fun _=>none:=by rw [← hh2]; exact Heap.Ns.new h1 (.type "dict")
    rw [sz1] at q
    exact q.keeps k3
  have hD1:h1.get? s.heap.objs.size = some { cls:=.type "list",data:=.seq #[] 0 }:=by rw [← hh1]; exact Heap.get?_push_size _ rfl
  refine ⟨⟨ok,rfl,I.bare,Un.kept kk,⟨_,ns,?_⟩,?_,hCn,?_,?_,I.hok.kept kk,?_⟩,?_⟩
  · intro i x v h1 h2 h3
    have hi:i < X.N.length:=by
      rw [← I.len]
      by_cases hi:i < σ.length
      · exact hi
      · rw [List.getElem?_append_right (by omega),List.getElem?_replicate] at h2
        split at h2 <;> cases h2
    have h2':σ[i]? = some (some v):=by
      rw [List.getElem?_append_left (by rw [I.len]; exact hi)] at h2
      exact h2
    have h1:N'[i]? = some x:=h1
    rcases S.old i x h1 hi with ⟨m,e⟩ | e
    · obtain ⟨mm,hn,hl⟩:=I.loc
      have hv:Vis X.env.scope x:=(S.free x m).elim (fun z=>.inr (.inl z)) fun z=>.inr (.inr z)
      obtain ⟨u,r,l⟩:=hl i x v e h2' hv
      refine ⟨u,r,?_⟩
      rcases l with ⟨z,_⟩ | ⟨_,c,hc,hcell⟩
      · rcases S.free x m with z' | z' <;> rw [z] at z' <;> cases z'
      · refine .inr ⟨?_,c,?_,hcell.keeps kk⟩
        · have hv3:(relabel sc X.env).names.lookup x = some .local ∨ (relabel sc X.env).names.lookup x = some .cell ∨ (relabel sc X.env).names.lookup x = some .free:=h3
          rcases hv3 with q | q | q
          · rcases relabel_lookup (sc:=sc) q with q | ⟨_,q⟩
            · rw [mem_lookup S.nd m] at q; cases q
            · cases q
          · exact .inl q
          · exact .inr q
        · have q:=comp_free_cell (X:=X) (C:=s.heap.objs.size + 1) S.nd m
          rw [hc,Option.getD_some] at q
          exact q
    · exfalso
      have hv3:(relabel sc X.env).names.lookup x = some .local ∨ (relabel sc X.env).names.lookup x = some .cell ∨ (relabel sc X.env).names.lookup x = some .free:=h3
      rcases hv3 with q | q | q <;> rcases relabel_lookup (sc:=sc) q with q | ⟨q,_⟩ <;> rw [e] at q <;> cases q
  · intro x c e
    rcases cells x c e with ⟨_,_,g,_⟩ | ⟨_,g⟩
    · exact ⟨_,g⟩
    · obtain ⟨v,q⟩:=I.cell x c g
      exact ⟨v,q.keeps kk⟩
  · intro x c e
    rcases cells x c e with ⟨_,_,_,g⟩ | ⟨_,g⟩
    · exact I.hok.fresh (by omega)
    · exact I.freeC x c g
  · intro p hp
    have hp':p = (s.heap.objs.size,{ cls:=.type "list",data:=.seq #[] 0 }):=by
      have:p ∈ ([] ++ [(s.heap.objs.size,({ cls:=.type "list",data:=.seq #[] 0 }:Obj))]:List (Addr × Obj)):=hp
      simpa using this
    subst hp'
    refine ⟨k3 _ _ (k2 _ _ hD1),hDn,?_,nofs _ (Nat.le_refl _),fun v z=>by cases z⟩
    show s.heap.objs.size ≠ s.heap.objs.size + 1
    omega
  · show (σ ++ List.replicate k none).length = N'.length
    rw [List.length_append,List.length_replicate,I.len,S.len]
  · intro b hb
    obtain ⟨f0,f1,f2,f3,f4,f5⟩:=hf b hb
    refine ⟨f0,(ok.exf b hb).1,fin b hb,.inl hb,fun x c e=>(ok.exf b hb).2 x c e,fun p hp=>?_⟩
    have hp':p = (s.heap.objs.size,{ cls:=.type "list",data:=.seq #[] 0 }):=by
      have:p ∈ ([] ++ [(s.heap.objs.size,({ cls:=.type "list",data:=.seq #[] 0 }:Obj))]:List (Addr × Obj)):=hp
      simpa using this
    subst hp'
    exact Nat.ne_of_gt (fpl b hb)
end
theorem codeAny_compLoop_own {prog:Program} {w:World} {A:Around} {R:Result → Shared → Prop} {s:Shared} {elt target iter:Expr} {ifs:List Expr} {scope:Scope} {pos:Pos} {it acc:Value} {env:Env} (I:Nat → Shared → Prop)
    (turn:∀ n s,I n s → wpAny (model prog w) A (pyNext it) (fun r s₁=>match r with
      | none=>R (.ok .next) s₁
      | some v=>wpAny (model prog w) A (letOwnedTupleGo target it v) (fun _ s₂'=>wpAny (model prog w) A (assign target env v) (fun _ s₂ =>
          wpAny (model prog w) A (forIn ifs true fun c r=>if r = true then do let ok ← isTrue c env (eval c env); pure (ForInStep.yield ok) else pure (ForInStep.yield r)) (fun ok s₃ =>
            if ok = true then wpAny (model prog w) A (eval elt env) (fun x s₄ =>
              wpAny (model prog w) A (call (.builtin "list.append") [acc,x]) (fun _ s₅=>∃ m,m < n ∧ I m s₅) (fun _ _=>False) s₄) (fun _ _=>False) s₃
            else ∃ m,m < n ∧ I m s₃) (fun _ _=>False) s₂) (fun _ _=>False) s₂') (fun _ _=>False) s₁) (fun _ _=>False) s)
    (n:Nat) (h:I n s) :
    codeAny (model prog w) A (.compLoop (.ListComp elt [⟨target,iter,ifs,0⟩] scope pos) 0 it acc env) R s:=by
  refine codeAny_loop rfl I (fun n s hI=>?_) n h
  show wpAny _ A ((compTurn (.ListComp elt [⟨target,iter,ifs,0⟩] scope pos) 0 it acc env).onRaise (fun x=>do noteFrame x env; theTreesLotGoes x)) _ _ s
  refine wpAny_noted ?_
  rw [compTurn_list]
  refine wpAny_bind (wpAny_standAt (wpAny_bind (wpAny_mono (turn n s hI) (fun r s₁ h₁=>?_) fun _ _ z=>z.elim)))
  cases r with
  | none=>exact wpAny_pure h₁
  | some v =>
    refine wpAny_bind (wpAny_mono h₁ (fun _ s₂' h₂'=>?_) fun _ _ z=>z.elim)
    refine wpAny_bind (wpAny_mono h₂' (fun _ s₂ h₂=>wpAny_bind (wpAny_mono h₂ (fun ok s₃ h₃=>?_) fun _ _ z=>z.elim)) fun _ _ z=>z.elim)
    cases ok with
    | false=>exact wpAny_pure ⟨rfl,h₃⟩
    | true =>
      exact wpAny_bind (wpAny_bind (wpAny_mono h₃ (fun x s₄ h₄=>wpAny_bind (wpAny_mono h₄ (fun _ s₅ h₅=>wpAny_pure (wpAny_pure ⟨rfl,h₅⟩)) fun _ _ z=>z.elim)) fun _ _ z=>z.elim))
def tCompK (k:Nat) (g:TG) (tif:TT) (te:TE) (σ:St) (Q:VK) (J:It) (H1:Hp):Prop:=∃ W:Nat → Nat → List V → Hp → Prop,(∃ m,W 0 m [] H1) ∧ ∀ i m acc H,W i m acc H →
  (J.stop i H ∧ ∀ D,H D = none → Q (.ref D) (upd H D (.lst acc))) ∨
  (J.go i H ∧ acc.length < sizeLine ∧ ∃ N:List V → Hp → Prop,(∀ acc' H',N acc' H' → ∃ m',m' < m ∧ W (i + 1) m' acc' H') ∧ ∀ x H',J.yld i H x H' → g x (σ ++ List.replicate k none) H' fun σ2 H2=>∃ own:St,own.length = k ∧ σ2 = σ ++ own ∧ tif σ2 H2 fun b H3=>if b = true then te σ2 H3 fun v H4=>N (acc ++ [v]) H4 else N acc H3)
def tComp (wi:TI) (k:Nat) (g:TG) (tif:TT) (te:TE):TE:=fun σ H Q=>wi σ H (tCompK k g tif te σ Q)
theorem HOk.track {P:Program} {w:World} {H:Hp} {h:Heap} {a:Addr} {o:HO} (x:HOk P w H h) (hn:H a = none) (new:ObjOk P w (upd H a o) h a o):HOk P w (upd H a o) h:=fun b u e=>by
  by_cases hb:b = a
  · subst hb; rw [upd_same] at e; cases e; exact new
  · rw [upd_ne hb] at e
    exact (x b u e).stay (fun c v _ q=>q) (fun c q=>by rw [upd_ne (ne_of_none q hn)]; exact q) fun c xs q=>by rw [upd_ne (ne_of_none q hn)]; exact q
section
variable {X:Cx} {N':List Str} {k:Nat} {sc:Scope} {tg iter elt:Expr} {ifs:List Expr} {wi:TI} {g:TG} {tif:TT} {te:TE} {pos:Pos}
theorem comp_block {pins:List (Addr × Obj)} {σ:St} {H2:Hp} {s2:Shared} {Q:VK} {RR:Value → Addr → Result → Shared → Prop} {E:Value → Shared → Prop} (hc:X.calm = true) (S:CompNames X.N N' k sc X.env)
    (hg:∀ C s H fp,PG (cxComp X N' sc C s H fp) tg g) (hif:∀ C s H fp,PTs (cxComp X N' sc C s H fp) ifs tif) (he:∀ C s H fp,PE (cxComp X N' sc C s H fp) elt te)
    {it:Addr} {fp:List Addr} {tn:Nat → Heap → Prop} {J:It} (I2:Inv X pins σ H2 s2) (T:Turn X.prog X.w X.K tg J fp it tn) (st2:tn 0 s2.heap) (f2:∀ b ∈ fp,FpOk X pins H2 b)
    {W:Nat → Nat → List V → Hp → Prop} {m0:Nat} (w0:W 0 m0 [] H2)
    (turn:∀ i m acc H,W i m acc H → (J.stop i H ∧ ∀ D,H D = none → Q (.ref D) (upd H D (.lst acc))) ∨
      (J.go i H ∧ acc.length < sizeLine ∧ ∃ N:List V → Hp → Prop,(∀ acc' H',N acc' H' → ∃ m',m' < m ∧ W (i + 1) m' acc' H') ∧ ∀ x H',J.yld i H x H' → g x (σ ++ List.replicate k none) H' fun σ2 H2=>∃ own:St,own.length = k ∧ σ2 = σ ++ own ∧ tif σ2 H2 fun b H3=>if b = true then te σ2 H3 fun v H4=>N (acc ++ [v]) H4 else N acc H3))
    (hRR:∀ D C s' H',D < C → s2.heap.objs.size ≤ D → (∃ m,s'.heap.Ns C m) → H' C = none → C ∉ frs X.stack → Inv X pins σ H' s' → Q (.ref D) H' → RR (.ref D) C (.ok .next) s') :
    wpAny (model X.prog X.w) X.A (newList []) (fun acc s₃=>wpAny (model X.prog X.w) X.A (newFunctionEnv sc X.env.globals (clos X.env.cells sc.names []) [] X.env.qual none .none (some X.env)) (fun cenv s₄ =>
      codeAny (model X.prog X.w) X.A (.compStart (.ListComp elt [⟨tg,iter,ifs,0⟩] sc pos) 0 (.ref it) acc { cenv with scope:=relabel sc X.env }) (RR acc cenv.locals) s₄) E s₃) E s2:=by
  refine wpAny_newObj_type (wpAny_newEnvAround ?_)
  show codeAny _ _ (.compStart _ 0 (.ref it) (.ref s2.heap.objs.size) _) _ _
  have szp:(s2.heap.push { cls:=.type "list",dict:=none,data:=.seq ([]:List Value).toArray }).objs.size = s2.heap.objs.size + 1:=Heap.size_push ..
  obtain ⟨I4,F4⟩:=inv_comp (s4:={ s2 with heap:=pushCells ((s2.heap.push { cls:=.type "list",data:=.seq #[] 0 }).push { cls:=.type "dict",data:=.dict #[] }) sc.names }) I2 hc S f2 (fun b hb=>let ⟨o,e,_⟩:=T.obj 0 _ st2 b hb; ⟨o,e⟩) rfl rfl rfl
  generalize hC:(s2.heap.push { cls:=.type "list",dict:=none,data:=.seq ([]:List Value).toArray }).objs.size = C at *
  have eC:C = s2.heap.objs.size + 1:=szp
  rw [← eC] at I4 F4
  generalize hs4:({ s2 with heap:=pushCells ((s2.heap.push { cls:=.type "list",data:=.seq #[] 0 }).push { cls:=.type "dict",data:=.dict #[] }) sc.names }:Shared) = s4 at I4 F4
  have kk:∀ b o,s2.heap.get? b = some o → s4.heap.get? b = some o:=fun b o e=>by
    rw [← hs4]
    exact pushCells_keeps sc.names _ b o (Heap.get?_push_of_some _ (Heap.get?_push_of_some _ e))
  have st4:tn 0 s4.heap:=T.keep 0 _ _ st2 fun b _ o e=>kk b o e
  generalize hX':cxComp X N' sc C s2 H2 fp = X' at I4 F4
  have henv:X'.env = compEnvO sc C X.env:=by rw [← hX']; rfl
  have xprog:X'.prog = X.prog:=by rw [← hX']; rfl
  have xw:X'.w = X.w:=by rw [← hX']; rfl
  have xK:X'.K = X.K:=by rw [← hX']; rfl
  have xcalm:X'.calm = true:=by rw [← hX']; exact hc
  have xA:X'.A = X.A:=by rw [← hX']; rfl
  have xpn:X'.pn = []:=by rw [← hX']; rfl
  have xxe:X'.xe = fun _ _=>False:=by rw [← hX']; rfl
  have xs0:X'.s₀ = s2:=by rw [← hX']; rfl
  have xH0:X'.H₀ = H2:=by rw [← hX']; rfl
  have xfs:X'.fs = frs X.stack:=by rw [← hX']; rfl
  have xex:X'.ex = fp:=by rw [← hX']; rfl
  have hgX:PG X' tg g:=by rw [← hX']; exact hg C s2 H2 fp
  have hifX:PTs X' ifs tif:=by rw [← hX']; exact hif C s2 H2 fp
  have heX:PE X' elt te:=by rw [← hX']; exact he C s2 H2 fp
  have locC:X'.env.locals = C:=by rw [henv]; rfl
  generalize hDd:s2.heap.objs.size = D at *
  have loop:codeAny (model X.prog X.w) X.A (.compLoop (.ListComp elt [⟨tg,iter,ifs,0⟩] sc pos) 0 (.ref it) (.ref D) (compEnvO sc C X.env)) (RR (.ref D) C) s4:=by
    refine codeAny_compLoop_own (fun n s'=>∃ i H' acc its nn,Inv X' [] (σ ++ List.replicate k none) H' s' ∧ tn i s'.heap ∧ (∀ b ∈ fp,H' b = none) ∧ H' D = none ∧ W i n acc H' ∧ acc.length ≤ sizeLine ∧ Vals acc its ∧ s'.heap.get? D = some { cls:=.type "list",data:=.seq its.toArray nn }) ?_ m0 ?_
    · rintro n s5 ⟨i,H5,acc,its,nn,I5,st5,fr5,hD5,w5,hz5,rv5,hL5⟩
      have hDlt:D < C:=by rw [eC]; exact Nat.lt_succ_self _
      have pinD:Inv X' [(D,{ cls:=.type "list",data:=.seq its.toArray nn })] (σ ++ List.replicate k none) H5 s5:=I5.pins_of fun p hp=>by
        have hp':p = (D,{ cls:=.type "list",data:=.seq its.toArray nn }):=by simpa using hp
        subst hp'
        refine ⟨hL5,hD5,?_,?_,fun v z=>by cases z⟩
        · rw [locC]; exact Nat.ne_of_lt hDlt
        · have q:=(I4.pin (D,{ cls:=.type "list",data:=.seq #[] 0 }) (by simp)).2.2.2.1
          exact q
      have fpD:∀ {H':Hp} {oo:Obj},(∀ b ∈ fp,H' b = none) → ∀ b ∈ fp,FpOk X' [(D,oo)] H' b:=fun {H' oo} hn b hb=>by
        obtain ⟨f0,f1,f2,f3,f4,f5⟩:=F4 b hb
        refine ⟨hn b hb,f1,f2,f3,f4,fun p hp=>?_⟩
        have hp':p = (D,oo):=by
          rw [xpn] at hp
          simpa using hp
        subst hp'
        exact f5 (D,{ cls:=.type "list",data:=.seq #[] 0 }) (by simp)
      rcases turn i n acc H5 w5 with ⟨stop,q⟩ | ⟨go,hlt,N,hN,step⟩
      · have dn:=T.done X' xprog xw xK xcalm i _ s5 _ H5 (fun _ _=>False) pinD (fpD fr5) st5 stop
        rw [xA] at dn
        refine thn dn fun r s6 ⟨hr,I6⟩=>?_
        subst hr
        show RR (.ref D) C (.ok .next) s6
        have hL6:=(I6.pin (D,{ cls:=.type "list",data:=.seq its.toArray nn }) (by simp)).1
        have un6:Un (frs X.stack) fp H2 H5 s2.heap s6.heap:=by
          have:=I6.base
          rw [xs0,xH0,xfs,xex] at this
          exact this
        have hok6:HOk X.prog X.w H5 s6.heap:=by
          have:=I6.hok
          rw [xprog,xw] at this
          exact this
        have hDno:s2.heap.get? D = none:=Heap.get?_none_of_le (by rw [hDd]; exact Nat.le_refl _)
        have un7:Un (frs X.stack) fp H2 (upd H5 D (.lst acc)) s2.heap s6.heap :=
          ⟨un6.keep,un6.slot,fun b o e n hx=>by
              have hb:b ≠ D:=by rintro rfl; rw [hDno] at e; cases e
              rw [upd_ne hb]; exact un6.free b o e n hx,un6.there,
            fun b xs e=>by
              have e':=un6.tups b xs e
              rw [upd_ne (ne_of_none e' hD5)]; exact e',
            fun b o u e=>by
              have e':=un6.frzs b o u e
              rw [upd_ne (ne_of_none e' hD5)]; exact e',
            fun b ps e=>by
              obtain ⟨more,e'⟩:=un6.tbls b ps e
              exact ⟨more,by rw [upd_ne (ne_of_none e' hD5)]; exact e'⟩⟩
        have hok7:HOk X.prog X.w (upd H5 D (.lst acc)) s6.heap:=hok6.track hD5 ⟨hz5,its,nn,rv5,hL6⟩
        have os6:s6.os = s2.os:=by have:=I6.os; rw [xs0] at this; exact this
        have I7:Inv X pins σ (upd H5 D (.lst acc)) s6:=I2.call' os6 un7 hok7 I6.bare fun b hb=>by
          obtain ⟨f0,f1,f2,f3,f4,f5⟩:=f2 b hb
          exact ⟨f3,f1,f4,f5⟩
        obtain ⟨mm,hn,_⟩:=I6.loc
        rw [locC] at hn
        have hC5:H5 C = none:=by have:=I6.free; rw [locC] at this; exact this
        refine hRR D C s6 (upd H5 D (.lst acc)) hDlt (Nat.le_refl _) ⟨mm,hn⟩ ?_ ?_ I7 (q D hD5)
        · rw [upd_ne (Nat.ne_of_gt hDlt)]; exact hC5
        · intro hb
          rcases List.mem_cons.mp (I2.stkSub C hb) with e | hb
          · have t1:=asN I2.lt
            have t2:=asE e
            rw [hDd] at t1
            have t3:=asN hDlt
            omega
          · exact I2.nofs (by rw [hDd]; exact Nat.le_of_lt hDlt) hb
      · have itm:=T.item X' xprog xw xK xcalm i _ s5 _ H5 (fun _ _=>False) pinD (fpD fr5) st5 go
        rw [xA] at itm
        refine thn itm fun r s6 ⟨u,hr,h6⟩=>?_
        subst hr
        refine thn h6 fun _ s7 ⟨x,H7,I7,r7,y7,st7,fr7⟩=>?_
        have I7':Inv X' ([(D,{ cls:=.type "list",data:=.seq its.toArray nn })] ++ pinsAt fp s7.heap) (σ ++ List.replicate k none) H7 s7:=I7.pinned (fpD fr7) (T.obj _ _ st7)
        have asg:=hgX _ s7 _ H7 x u _ I7' r7 (step x H7 y7)
        rw [xprog,xw,xA,henv,xxe] at asg
        refine thn asg fun _ s8 ⟨σ8,H8,I8,own,hown,hσ8,q8⟩=>?_
        have weak:∀ {pl:List (Addr × Obj)} {H':Hp} {s':Shared},Inv X' pl σ8 H' s' → Inv X' [] (σ ++ List.replicate k none) H' s':=fun {pl H' s'} J'=>by
          have J0:Inv X' [] σ8 H' s':=J'.pins_of (fun p hp=>by simp at hp)
          refine J0.weak (by rw [hσ8]; simp [hown]) fun j v hj=>?_
          rw [hσ8]
          by_cases hjl:j < σ.length
          · rw [List.getElem?_append_left hjl] at hj ⊢
            exact hj
          · rw [List.getElem?_append_right (by omega),List.getElem?_replicate] at hj
            split at hj <;> cases hj
        have tst:=hifX _ s8 σ8 H8 _ I8 q8
        rw [xprog,xw,xA,henv,xxe] at tst
        refine thn tst fun b s9 ⟨H9,I9,q9⟩=>?_
        have pin9:∀ {σ':St} {H':Hp} {s':Shared},Inv X' ([(D,{ cls:=.type "list",data:=.seq its.toArray nn })] ++ pinsAt fp s7.heap) σ' H' s' →
            s'.heap.get? D = some { cls:=.type "list",data:=.seq its.toArray nn } ∧ H' D = none ∧ tn (i + 1) s'.heap ∧ (∀ b ∈ fp,H' b = none):=fun {σ' H' s'} J'=>by
          have a1:=J'.pin (D,{ cls:=.type "list",data:=.seq its.toArray nn }) (by simp)
          refine ⟨a1.1,a1.2.1,T.keep _ _ _ st7 fun b hb o e=>(J'.pin (b,o) (List.mem_append_right _ (List.mem_append_right _ (mem_pinsAt hb e)))).1,fun b hb=>?_⟩
          obtain ⟨o,e,d⟩:=T.obj _ _ st7 b hb
          exact (J'.pin (b,o) (List.mem_append_right _ (List.mem_append_right _ (mem_pinsAt hb e)))).2.1
        cases b with
        | false =>
          rw [if_neg Bool.false_ne_true]
          rw [if_neg Bool.false_ne_true] at q9
          obtain ⟨m',hm,w9⟩:=hN _ _ q9
          obtain ⟨p1,p2,p3,p4⟩:=pin9 I9
          exact ⟨m',hm,i + 1,H9,acc,its,nn,weak I9,p3,p4,p2,w9,hz5,rv5,p1⟩
        | true =>
          rw [if_pos rfl]
          rw [if_pos rfl] at q9
          have ev:=heX _ s9 σ8 H9 _ I9 q9
          rw [xprog,xw,xA,henv,xxe] at ev
          refine thn ev fun y s10 ⟨v,H10,I10,r10,n10⟩=>?_
          obtain ⟨m',hm,w10⟩:=hN _ _ n10
          obtain ⟨p1,p2,p3,p4⟩:=pin9 I10
          have hlen:its.length = acc.length:=rv5.length.symm
          refine wpAny_list_append_plain (items:=its.toArray) ⟨nn,p1⟩ (fun h' hl' hs'=>?_) (by simp only [List.size_toArray]; omega)
          have hDfp:D ∉ fp:=fun hb=>(F4 D hb).2.2.2.2.2 (D,{ cls:=.type "list",data:=.seq #[] 0 }) (by simp) rfl
          have I11:Inv X' [] (σ ++ List.replicate k none) H10 { s10 with heap:=h' }:=by
            have J0:Inv X' [] (σ ++ List.replicate k none) H10 s10:=weak I10
            refine J0.turned (t':=s10.toks) (it:=D) (fun b o hb e=>(hs'.2 b hb).trans e) p2 ?_ (.inr ?_) (fun x c e z=>?_) (fun p hp=>?_)
            · rw [locC]; exact Nat.ne_of_lt hDlt
            · rw [xs0,hDd]; exact Nat.le_refl _
            · obtain ⟨v',q⟩:=J0.cell x c e
              obtain ⟨o,ho,hd⟩:=q
              rw [z,p1] at ho
              cases ho
              cases hd
            · rw [xpn] at hp; simp at hp
          obtain ⟨n',hk⟩:=hl'
          have hk':h'.get? D = some { cls:=.type "list",data:=.seq (its ++ [y]).toArray n' }:=by rw [hk]; simp
          refine ⟨m',hm,i + 1,H10,acc ++ [v],its ++ [y],n',I11,T.keep _ _ _ p3 fun b hb o e=>(hs'.2 b (fun z=>hDfp (z ▸ hb))).trans e,p4,p2,w10,?_,rv5.append (.cons r10 .nil),hk'⟩
          rw [List.length_append,List.length_singleton]
          omega
    · refine ⟨0,H2,[],[],0,I4.pins_of (fun p hp=>by simp at hp),st4,fun b hb=>(f2 b hb).1,I2.hok.fresh (by rw [hDd]; exact Nat.le_refl _),w0,Nat.zero_le _,.nil,?_⟩
      exact (I4.pin (D,{ cls:=.type "list",data:=.seq #[] 0 }) (by simp)).1
  exact codeAny_compStart_list loop (T.self _ 0 _ _ _ st4 loop)
theorem pe_comp (hc:X.calm = true) (S:CompNames X.N N' k sc X.env) (hi:PI X tg iter wi)
    (hg:∀ C s H fp,PG (cxComp X N' sc C s H fp) tg g) (hif:∀ C s H fp,PTs (cxComp X N' sc C s H fp) ifs tif) (he:∀ C s H fp,PE (cxComp X N' sc C s H fp) elt te)
    (hs:∀ x,foldedSetIterable iter X.env x = pure x:=by intro _; rfl):PE X (.ListComp elt [⟨tg,iter,ifs,0⟩] sc pos) (tComp wi k g tif te):=by
  intro pins s σ H Q I h
  rw [eval_ListComp]
  have hfree:∀ x,(x,NameKind.free) ∈ sc.names → ∃ c,X.env.cells.lookup x = some c:=fun x hx=>I.ok.has x (S.free x hx)
  refine wpAny_comprehension_free (use:=none) rfl hs (closureFor_eq hfree) S.kind (fun x hx hl=>?_) ?_
  · obtain ⟨n,kd⟩:=x
    dsimp only at hl ⊢
    subst hl
    exact mem_lookup S.nd hx
  · refine thn (hi pins s σ H _ I h) fun v s1 h1=>thn h1 fun itv s2 h2=>?_
    obtain ⟨it,fp,tn,J,H2,e,I2,T,st2,f2,W,⟨m0,w0⟩,turn⟩:=h2
    subst e
    refine comp_block (RR:=fun acc C=>compPost (model X.prog X.w) X.A X.xe none (EP X pins σ Q) acc C) hc S hg hif he I2 T st2 f2 w0 turn ?_
    intro D C s' H' hDC hD hn hCn hCf I' q
    obtain ⟨m,hn⟩:=hn
    refine ⟨m,hn,fun h' hs'=>⟨.ref D,H',?_,rfl,q⟩⟩
    have hCb:s2.heap.objs.size ≤ C:=Nat.le_of_lt (Nat.lt_of_le_of_lt hD hDC)
    refine I'.turned (t':=s'.toks) (it:=C) (fun b o hb e=>(hs'.2 b hb).trans e) hCn ?_ (.inr (Nat.le_trans I2.sz hCb)) (fun x c e z=>?_) (fun p hp z=>?_)
    · exact Nat.ne_of_gt (Nat.lt_of_lt_of_le I2.lt hCb)
    · obtain ⟨v,q⟩:=I2.cell x c e
      exact absurd z (Nat.ne_of_lt (Nat.lt_of_lt_of_le q.lt hCb))
    · exact absurd z (Nat.ne_of_lt (Nat.lt_of_lt_of_le (Heap.lt_size (I2.pin p hp).1) hCb))
theorem ps_setComp {i:Nat} {x:Str} {pos' spos:Pos} (hN:X.N.Nodup) (hi':X.N[i]? = some x) (hx:Loc X.env.scope x) (hc:X.calm = true) (S:CompNames X.N N' k sc X.env) (hi:PI X tg iter wi)
    (hg:∀ C s H fp,PG (cxComp X N' sc C s H fp) tg g) (hif:∀ C s H fp,PTs (cxComp X N' sc C s H fp) ifs tif) (he:∀ C s H fp,PE (cxComp X N' sc C s H fp) elt te)
    (hsw:swapsWith (.ListComp elt [⟨tg,iter,ifs,0⟩] sc pos) (some (.Name x pos')) spos.line X.env = pure true:=by rfl)
    (hs:∀ x,foldedSetIterable iter X.env x = pure x:=by intro _; rfl) (hf:X.fn x = true ∨ X.env.scope.names.lookup x = some .local:=by first | exact .inl rfl | exact .inr rfl | assumption) :
    PS X (.Assign [.Name x pos'] (.ListComp elt [⟨tg,iter,ifs,0⟩] sc pos) spos) (tAsg (tComp wi k g tif te) (gName i)):=by
  intro pins s σ H Dn I h
  rw [exec_Assign_Name_used _ _ _ _ hsw]
  refine wpAny_bind (wpAny_standAt (wpAny_bind ?_))
  show wpAny _ X.A (do let _ ← comprehension (.ListComp elt [⟨tg,iter,ifs,0⟩] sc pos) sc X.env _ (newList []) false (eval iter X.env) (some (assign (.Name x pos') X.env))) _ _ s
  have hfree:∀ x,(x,NameKind.free) ∈ sc.names → ∃ c,X.env.cells.lookup x = some c:=fun x hx=>I.ok.has x (S.free x hx)
  refine wpAny_bind (wpAny_mono (wpAny_comprehension_free (use:=some (assign (.Name x pos') X.env)) (Q:=fun _ s'=>SP X pins Dn .next s') rfl hs (closureFor_eq hfree) S.kind (fun x hx hl=>?_) ?_)
    (fun _ s' hq=>wpAny_pure (wpAny_pure hq)) fun _ _ e=>e)
  · obtain ⟨n,kd⟩:=x
    dsimp only at hl ⊢
    subst hl
    exact mem_lookup S.nd hx
  · refine thn (hi pins s σ H _ I h) fun v s1 h1=>thn h1 fun itv s2 h2=>?_
    obtain ⟨it,fp,tn,J,H2,e,I2,T,st2,f2,W,⟨m0,w0⟩,turn⟩:=h2
    subst e
    refine comp_block (Q:=fun v H'=>gName i v σ H' Dn.nx) (RR:=fun acc C=>compPost (model X.prog X.w) X.A X.xe (some (assign (.Name x pos') X.env)) (fun _ s'=>SP X pins Dn .next s') acc C) hc S hg hif he I2 T st2 f2 w0 turn ?_
    intro D C s' H' hDC hD hn hCn hCf I' q
    obtain ⟨m,hn⟩:=hn
    show wpAny _ _ (assign (.Name x pos') X.env (.ref D)) _ _ _
    have hCb:s2.heap.objs.size ≤ C:=Nat.le_of_lt (Nat.lt_of_le_of_lt hD hDC)
    have hCL:C ≠ X.env.locals:=Nat.ne_of_gt (Nat.lt_of_lt_of_le I2.lt hCb)
    have hCc:∀ x c,X.env.cells.lookup x = some c → c ≠ C:=fun x c e z=>by
      obtain ⟨v,q⟩:=I2.cell x c e
      exact absurd z (Nat.ne_of_lt (Nat.lt_of_lt_of_le q.lt hCb))
    refine wpAny_assign_Name (store_ok2 (v:=.ref D) I' hN hi' hx rfl (fun s'' I'' ⟨a,sb,ha⟩=>?_) hf)
    have hCa:C ≠ a:=by
      rcases ha with e | e
      · rw [e]; exact hCL
      · exact fun z=>hCc x a e z.symm
    refine ⟨m,hn.sameBut sb hCa,fun h' hs'=>⟨_,H',?_,q⟩⟩
    refine I''.turned (t':=s''.toks) (it:=C) (fun b o hb e=>(hs'.2 b hb).trans e) hCn hCL (.inr (Nat.le_trans I2.sz hCb)) hCc (fun p hp z=>?_)
    exact absurd z (Nat.ne_of_lt (Nat.lt_of_lt_of_le (Heap.lt_size (I2.pin p hp).1) hCb))
theorem comp_range {lo:Int} {n:Nat} {σ:St} {H:Hp} {Q:VK} (Pv:Nat → List V → Hp → Prop) (h0:Pv 0 [] H) (hz:∀ i acc H,i < n → Pv i acc H → acc.length < sizeLine)
    (hs:∀ i acc H,i < n → Pv i acc H → g (.int (lo + i)) (σ ++ List.replicate k none) H fun σ2 H2=>∃ own:St,own.length = k ∧ σ2 = σ ++ own ∧ tif σ2 H2 fun b H3=>if b = true then te σ2 H3 fun v H4=>Pv (i + 1) (acc ++ [v]) H4 else Pv (i + 1) acc H3)
    (hd:∀ acc H,Pv n acc H → ∀ D,H D = none → Q (.ref D) (upd H D (.lst acc))) :
    tCompK k g tif te σ Q (Itr lo n) H:=by
  refine ⟨fun i m acc H=>m = n - i ∧ i ≤ n ∧ Pv i acc H,⟨n,by simp,Nat.zero_le _,h0⟩,?_⟩
  rintro i m acc H ⟨rfl,hi,p⟩
  by_cases hlt:i < n
  · refine .inr ⟨hlt,hz i acc H hlt p,Pv (i + 1),fun acc' H' p'=>⟨n - (i + 1),by omega,rfl,hlt,p'⟩,fun x H' y=>?_⟩
    obtain ⟨e,y⟩:=y
    subst e y
    exact hs i acc _ hlt p
  · have e:i = n:=by omega
    subst e
    exact .inl ⟨Nat.le_refl _,hd acc H p⟩
def tForK (g:TG) (tb:TS) (D:Ends) (σ:St) (J:It) (H1:Hp):Prop:=∃ W:Nat → Nat → St → Hp → Prop,(∃ m,W 0 m σ H1) ∧ ∀ i m σ H,W i m σ H →
  (J.stop i H ∧ D.nx σ H) ∨ (J.go i H ∧ ∃ N:St → Hp → Prop,(∀ σ' H',N σ' H' → ∃ m',m' < m ∧ W (i + 1) m' σ' H') ∧ ∀ x H',J.yld i H x H' → g x σ H' fun σ2 H2=>tb { D with nx:=N,ct:=N,bk:=D.nx } σ2 H2)
theorem ps_forK {body:List Stmt} {tb:TS} (hp:PassesOwn (model X.prog X.w) X.A X.env X.xe) (hc:X.calm = true) (hi:PI X tg iter wi) (hg:PG X tg g) (hb:PSs X body tb)
    (hs:∀ x,foldedSetIterable iter X.env x = pure x:=by intro _; rfl):PS X (.For tg iter body [] pos) (fun D σ H=>wi σ H (tForK g tb D σ)):=ps_for hp hc hi hg hb hs
end
end L2

namespace L2
open PySem PySem.Spec PyProof.Rows
inductive Dat where
  | non | bl (b:Bool) | int (i:Int) | str (x:Str) | lst (xs:List Dat) | tup (xs:List Dat)
mutual
def Dat.dep:Dat → Nat
  | .lst xs=>Dat.depL xs + 1
  | .tup xs=>Dat.depL xs + 1
  | _=>0
def Dat.depL:List Dat → Nat
  | []=>0
  | x :: r=>max x.dep (Dat.depL r)
end
mutual
def Dat.eq:Dat → Dat → Bool
  | .non,.non=>true
  | .bl a,.bl b=>a == b
  | .bl a,.int b=>(if a then 1 else 0) == b
  | .int a,.bl b=>a == (if b then 1 else 0)
  | .int a,.int b=>a == b
  | .str a,.str b=>a == b
  | .lst xs,.lst ys=>Dat.eqL xs ys
  | .tup xs,.tup ys=>Dat.eqL xs ys
  | _,_=>false
def Dat.eqL:List Dat → List Dat → Bool
  | [],[]=>true
  | x :: r,y :: q=>Dat.eq x y && Dat.eqL r q
  | _,_=>false
end
mutual
def Rep (H:Hp):Dat → V → Prop
  | .non,v=>v = .non
  | .bl b,v=>v = .bl b
  | .int i,v=>v = .int i
  | .str x,v=>v = .str x
  | .lst ds,v=>∃ a xs,v = .ref a ∧ H a = some (.lst xs) ∧ RepL H ds xs
  | .tup ds,v=>∃ a xs,v = .ref a ∧ H a = some (.tup xs) ∧ RepL H ds xs
def RepL (H:Hp):List Dat → List V → Prop
  | [],xs=>xs = []
  | d :: r,xs=>∃ x q,xs = x :: q ∧ Rep H d x ∧ RepL H r q
end
mutual
theorem Rep.mono {H H':Hp} (s:Same H H'):∀ {d:Dat} {v:V},Rep H d v → Rep H' d v
  | .non,_,h=>h
  | .bl _,_,h=>h
  | .int _,_,h=>h
  | .str _,_,h=>h
  | .lst _,_,h=>by obtain ⟨a,xs,e,e',r⟩:=h; exact ⟨a,xs,e,s _ _ e',RepL.mono s r⟩
  | .tup _,_,h=>by obtain ⟨a,xs,e,e',r⟩:=h; exact ⟨a,xs,e,s _ _ e',RepL.mono s r⟩
theorem RepL.mono {H H':Hp} (s:Same H H'):∀ {ds:List Dat} {xs:List V},RepL H ds xs → RepL H' ds xs
  | [],_,h=>h
  | _ :: _,_,h=>by obtain ⟨x,q,e,r,t⟩:=h; exact ⟨x,q,e,Rep.mono s r,RepL.mono s t⟩
end
mutual
theorem Rep.inj {H:Hp}:∀ {d e:Dat} {v:V},Rep H d v → Rep H e v → d = e
  | .non,e,v,h,h'=>by cases h; cases e <;> first | rfl | (cases h'; done) | (obtain ⟨a,xs,z,_⟩:=h'; cases z)
  | .bl b,e,v,h,h'=>by cases h; cases e <;> first | (cases h'; rfl) | (cases h'; done) | (obtain ⟨a,xs,z,_⟩:=h'; cases z)
  | .int b,e,v,h,h'=>by cases h; cases e <;> first | (cases h'; rfl) | (cases h'; done) | (obtain ⟨a,xs,z,_⟩:=h'; cases z)
  | .str b,e,v,h,h'=>by cases h; cases e <;> first | (cases h'; rfl) | (cases h'; done) | (obtain ⟨a,xs,z,_⟩:=h'; cases z)
  | .lst ds,e,v,h,h'=>by
    obtain ⟨a,xs,rfl,ha,q⟩:=h
    cases e with
    | lst es =>
      obtain ⟨b,ys,z,hb,q'⟩:=h'
      cases z
      rw [ha] at hb
      cases hb
      rw [RepL.inj q q']
    | tup es =>
      obtain ⟨b,ys,z,hb,q'⟩:=h'
      cases z
      rw [ha] at hb
      cases hb
    | _=>cases h'
  | .tup ds,e,v,h,h'=>by
    obtain ⟨a,xs,rfl,ha,q⟩:=h
    cases e with
    | tup es =>
      obtain ⟨b,ys,z,hb,q'⟩:=h'
      cases z
      rw [ha] at hb
      cases hb
      rw [RepL.inj q q']
    | lst es =>
      obtain ⟨b,ys,z,hb,q'⟩:=h'
      cases z
      rw [ha] at hb
      cases hb
    | _=>cases h'
theorem RepL.inj {H:Hp}:∀ {ds es:List Dat} {xs:List V},RepL H ds xs → RepL H es xs → ds = es
  | [],[],_,_,_=>rfl
  | [],_ :: _,_,h,h'=>by cases h; obtain ⟨x,q,e,_⟩:=h'; cases e
  | _ :: _,[],_,h,h'=>by cases h'; obtain ⟨x,q,e,_⟩:=h; cases e
  | d :: r,e :: t,_,h,h'=>by
    obtain ⟨x,q,rfl,r1,t1⟩:=h
    obtain ⟨x',q',z,r2,t2⟩:=h'
    cases z
    rw [Rep.inj r1 r2,RepL.inj t1 t2]
end
mutual
theorem Dat.eq_refl:∀ d:Dat,Dat.eq d d = true
  | .non=>by simp [Dat.eq]
  | .bl _=>by simp [Dat.eq]
  | .int _=>by simp [Dat.eq]
  | .str _=>by simp [Dat.eq]
  | .lst xs=>by rw [Dat.eq]; exact Dat.eqL_refl xs
  | .tup xs=>by rw [Dat.eq]; exact Dat.eqL_refl xs
theorem Dat.eqL_refl:∀ ds:List Dat,Dat.eqL ds ds = true
  | []=>by simp [Dat.eqL]
  | d :: r=>by rw [Dat.eqL,Dat.eq_refl d,Dat.eqL_refl r]; rfl
end
theorem RepL.length {H:Hp}:∀ {ds:List Dat} {xs:List V},RepL H ds xs → xs.length = ds.length
  | [],_,h=>by cases h; rfl
  | _ :: _,_,h=>by obtain ⟨x,q,e,r,t⟩:=h; subst e; simp [RepL.length t]
theorem Dat.eqL_len:∀ {xs ys:List Dat},xs.length ≠ ys.length → Dat.eqL xs ys = false
  | [],[],h=>absurd rfl h
  | [],_ :: _,_=>by simp [Dat.eqL]
  | _ :: _,[],_=>by simp [Dat.eqL]
  | x :: r,y :: q,h=>by
    rw [Dat.eqL,Dat.eqL_len (fun e=>h (by simp [e])),Bool.and_false]
theorem Dat.eqL_all:∀ {xs ys:List Dat},xs.length = ys.length → ∀ (e:Nat → Bool),(∀ j (h1:j < xs.length) (h2:j < ys.length),e j = Dat.eq xs[j] ys[j]) → (List.range xs.length).all e = Dat.eqL xs ys
  | [],[],_,_,_=>by simp [Dat.eqL]
  | [],_ :: _,h,_,_=>by simp at h
  | _ :: _,[],h,_,_=>by simp at h
  | x :: r,y :: q,h,e,he=>by
    have hl:r.length = q.length:=by simpa using h
    rw [List.length_cons,List.range_succ_eq_map,List.all_cons,Dat.eqL,he 0 (by simp) (by simp)]
    have:=Dat.eqL_all (xs:=r) (ys:=q) hl (fun j=>e (j + 1)) (fun j h1 h2=>by
      rw [he (j + 1) (by simpa using h1) (by simpa using h2)]; simp)
    rw [← this,List.all_map]
    rfl
theorem RepL.get {H:Hp}:∀ {ds:List Dat} {xs:List V} {i:Nat} {x:V},RepL H ds xs → xs[i]? = some x → ∃ d,ds[i]? = some d ∧ Rep H d x
  | [],_,_,_,h,e=>by cases h; simp at e
  | d :: _,_,0,_,h,e=>by obtain ⟨x,q,e1,r,t⟩:=h; subst e1; simp at e; subst e; exact ⟨d,rfl,r⟩
  | _ :: _,_,i + 1,_,h,e=>by
    obtain ⟨x,q,e1,r,t⟩:=h
    subst e1
    obtain ⟨d',h1,h2⟩:=RepL.get (i:=i) t (by simpa using e)
    exact ⟨d',by simpa using h1,h2⟩
theorem Dat.depL_mem {d:Dat}:∀ {ds:List Dat},d ∈ ds → d.dep ≤ Dat.depL ds
  | _ :: _,h=>by
    rw [Dat.depL]
    rcases List.mem_cons.mp h with rfl | h
    · exact Nat.le_max_left _ _
    · exact Nat.le_trans (Dat.depL_mem h) (Nat.le_max_right _ _)
section
variable {P:Program} {w:World} {H:Hp}
theorem in1_units (A:Around):A.in1.units = A.units + 1:=rfl
theorem hok_list {s:Shared} {a:Addr} {xs:List V} (ok:HOk P w H s.heap) (h:H a = some (.lst xs)):∃ its:List Value,Vals xs its ∧ s.heap.IsList a its.toArray:=by
  obtain ⟨_,its,n,r,e⟩:=ok a _ h
  exact ⟨its,r,⟨_,e,rfl,n,rfl⟩⟩
theorem hok_tup {s:Shared} {a:Addr} {xs:List V} (ok:HOk P w H s.heap) (h:H a = some (.tup xs)):∃ its:List Value,Vals xs its ∧ s.heap.IsTuple a its.toArray:=by
  obtain ⟨_,its,r,e⟩:=ok a _ h
  exact ⟨its,r,e⟩
theorem Rep.flat {d:Dat} {v:V} (h:Rep H d v) (hf:d.dep = 0):flatV v = true:=by
  cases d with
  | non=>cases h; rfl
  | bl _=>cases h; rfl
  | int _=>cases h; rfl
  | str _=>cases h; rfl
  | lst _=>simp [Dat.dep] at hf
  | tup _=>simp [Dat.dep] at hf
theorem Rep.flatEq {d e:Dat} {v u:V} (h:Rep H d v) (h':Rep H e u) (hf:d.dep = 0) (hf':e.dep = 0):eqV v u = Dat.eq d e:=by
  cases d <;> cases e <;> first
    | (simp [Dat.dep] at hf; done)
    | (simp [Dat.dep] at hf'; done)
    | (cases h; cases h'; simp [eqV,Dat.eq]; done)
theorem eqAt_rep:∀ (n:Nat) {d e:Dat} {v u:V} {x y:Value} {A:Around} {s:Shared},d.dep ≤ n → HOk P w H s.heap → Rep H d v → Rep H e u → RelV v x → RelV u y → A.units + n < cLine → SeqAt.EqAt A s x y (Dat.eq d e):=by
  intro n
  induction n with
  | zero =>
    intro d e v u x y A s hd ok h1 h2 r1 r2 hu
    have f1:=h1.flat (by omega)
    by_cases he:e.dep = 0
    · have f2:=h2.flat he
      have:=eqAt_V (A:=A) (s:=s) r1 r2 f1 f2
      rw [h1.flatEq h2 (by omega) he] at this
      exact this
    · have hu':A.units < cLine:=by omega
      cases e with
      | lst ys =>
        obtain ⟨a,xs,rfl,ha,_⟩:=h2
        obtain ⟨its,_,hl⟩:=hok_list ok ha
        cases r2
        cases d with
        | non=>cases h1; cases r1; exact SeqAt.EqAt.none_list hl hu'
        | bl b=>cases h1; cases r1; exact SeqAt.EqAt.bool_list b hl hu'
        | int i=>cases h1; obtain ⟨t,rfl⟩:=r1; exact SeqAt.EqAt.int_list i t hl hu'
        | str z=>cases h1; obtain ⟨t,rfl⟩:=r1; exact SeqAt.EqAt.str_list z t hl hu'
        | lst _=>simp [Dat.dep] at hd
        | tup _=>simp [Dat.dep] at hd
      | tup ys =>
        obtain ⟨a,xs,rfl,ha,_⟩:=h2
        obtain ⟨its,_,hl⟩:=hok_tup ok ha
        cases r2
        cases d with
        | non=>cases h1; cases r1; exact SeqAt.EqAt.none_tuple hl hu'
        | bl b=>cases h1; cases r1; exact SeqAt.EqAt.bool_tuple b hl hu'
        | int i=>cases h1; obtain ⟨t,rfl⟩:=r1; exact SeqAt.EqAt.int_tuple i t hl hu'
        | str z=>cases h1; obtain ⟨t,rfl⟩:=r1; exact SeqAt.EqAt.str_tuple z t hl hu'
        | lst _=>simp [Dat.dep] at hd
        | tup _=>simp [Dat.dep] at hd
      | _=>simp [Dat.dep] at he
  | succ n ih =>
    intro d e v u x y A s hd ok h1 h2 r1 r2 hu
    by_cases hd0:d.dep ≤ n
    · exact ih hd0 ok h1 h2 r1 r2 (by omega)
    have hu':A.units < cLine:=by omega
    have pairs:∀ {ds es:List Dat} {xs ys:List V} {its its2:List Value},Dat.depL ds ≤ n → RepL H ds xs → RepL H es ys → Vals xs its → Vals ys its2 → ∀ j (h1:j < its.toArray.size) (h2:j < its2.toArray.size),
        SeqAt.EqAt A.in1 s its.toArray[j] its2.toArray[j] (Dat.eq (ds.getD j .non) (es.getD j .non)):=by
      intro ds es xs ys its its2 hdl q1 q2 v1 v2 j j1 j2
      have l1:j < xs.length:=by have:=v1.length; simp at j1; omega
      have l2:j < ys.length:=by have:=v2.length; simp at j2; omega
      obtain ⟨d',e1,p1⟩:=q1.get (i:=j) (x:=xs[j]) (by simp [l1])
      obtain ⟨e',e2,p2⟩:=q2.get (i:=j) (x:=ys[j]) (by simp [l2])
      obtain ⟨w1,g1,z1⟩:=v1.get (i:=j) (x:=xs[j]) (by simp [l1])
      obtain ⟨w2,g2,z2⟩:=v2.get (i:=j) (x:=ys[j]) (by simp [l2])
      have k1:its.toArray[j] = w1:=by
        obtain ⟨_,k⟩:=List.getElem?_eq_some_iff.mp g1
        simpa using k
      have k2:its2.toArray[j] = w2:=by
        obtain ⟨_,k⟩:=List.getElem?_eq_some_iff.mp g2
        simpa using k
      rw [k1,k2,List.getD_eq_getElem?_getD,List.getD_eq_getElem?_getD,e1,e2]
      exact ih (Nat.le_trans (Dat.depL_mem (List.mem_of_getElem? e1)) hdl) ok p1 p2 z1 z2 (by rw [in1_units]; omega)
    cases d with
    | lst ds =>
      have hdl:Dat.depL ds ≤ n:=by rw [Dat.dep] at hd; omega
      obtain ⟨a,xs,rfl,ha,q1⟩:=h1
      obtain ⟨its,v1,hl1⟩:=hok_list ok ha
      cases r1
      cases e with
      | non=>cases h2; cases r2; exact SeqAt.EqAt.list_none hl1 hu'
      | bl b=>cases h2; cases r2; exact SeqAt.EqAt.list_bool b hl1 hu'
      | int i=>cases h2; obtain ⟨t,rfl⟩:=r2; exact SeqAt.EqAt.list_int i t hl1 hu'
      | str z=>cases h2; obtain ⟨t,rfl⟩:=r2; exact SeqAt.EqAt.list_str z t hl1 hu'
      | tup es =>
        obtain ⟨b,ys,rfl,hb,q2⟩:=h2
        obtain ⟨its2,v2,hl2⟩:=hok_tup ok hb
        cases r2
        exact SeqAt.EqAt.of_refs (ne_of ha hb (fun z=>nomatch z)) (SeqAt.RcAt.list_tuple hl1 hl2 hu')
      | lst es =>
        obtain ⟨b,ys,rfl,hb,q2⟩:=h2
        obtain ⟨its2,v2,hl2⟩:=hok_list ok hb
        cases r2
        have len1:its.toArray.size = ds.length:=by have:=v1.length; have:=q1.length; simp; omega
        have len2:its2.toArray.size = es.length:=by have:=v2.length; have:=q2.length; simp; omega
        show SeqAt.EqAt A s (.ref a) (.ref b) (Dat.eqL ds es)
        by_cases hne:a = b
        · 
          subst hne
          rw [ha] at hb
          cases hb
          have same:Dat.eqL ds es = true:=by
            rw [RepL.inj q1 q2]; exact Dat.eqL_refl _
          rw [same]
          exact SeqAt.EqAt.same _
        · refine SeqAt.EqAt.of_refs hne ?_
          by_cases hs:ds.length = es.length
          · have:=SeqAt.RcAt.lists (A:=A) (s:=s) hl1 hl2 (by rw [len1,len2,hs]) hu' (pairs hdl q1 q2 v1 v2)
            rw [len1,Dat.eqL_all hs _ (fun j h1 h2=>by rw [List.getD_eq_getElem?_getD,List.getD_eq_getElem?_getD]; simp [h1,h2])] at this
            exact this
          · rw [Dat.eqL_len hs]
            exact SeqAt.RcAt.lists_lengths hl1 hl2 (by rw [len1,len2]; simpa using hs) hu'
    | tup ds =>
      have hdl:Dat.depL ds ≤ n:=by rw [Dat.dep] at hd; omega
      obtain ⟨a,xs,rfl,ha,q1⟩:=h1
      obtain ⟨its,v1,hl1⟩:=hok_tup ok ha
      cases r1
      cases e with
      | non=>cases h2; cases r2; exact SeqAt.EqAt.tuple_none hl1 hu'
      | bl b=>cases h2; cases r2; exact SeqAt.EqAt.tuple_bool b hl1 hu'
      | int i=>cases h2; obtain ⟨t,rfl⟩:=r2; exact SeqAt.EqAt.tuple_int i t hl1 hu'
      | str z=>cases h2; obtain ⟨t,rfl⟩:=r2; exact SeqAt.EqAt.tuple_str z t hl1 hu'
      | lst es =>
        obtain ⟨b,ys,rfl,hb,q2⟩:=h2
        obtain ⟨its2,v2,hl2⟩:=hok_list ok hb
        cases r2
        exact SeqAt.EqAt.of_refs (ne_of ha hb (fun z=>nomatch z)) (SeqAt.RcAt.tuple_list hl1 hl2 hu')
      | tup es =>
        obtain ⟨b,ys,rfl,hb,q2⟩:=h2
        obtain ⟨its2,v2,hl2⟩:=hok_tup ok hb
        cases r2
        have len1:its.toArray.size = ds.length:=by have:=v1.length; have:=q1.length; simp; omega
        have len2:its2.toArray.size = es.length:=by have:=v2.length; have:=q2.length; simp; omega
        show SeqAt.EqAt A s (.ref a) (.ref b) (Dat.eqL ds es)
        by_cases hne:a = b
        · subst hne
          rw [ha] at hb
          cases hb
          have same:Dat.eqL ds es = true:=by
            rw [RepL.inj q1 q2]; exact Dat.eqL_refl _
          rw [same]
          exact SeqAt.EqAt.same _
        · refine SeqAt.EqAt.of_refs hne ?_
          have:=SeqAt.RcAt.tuples (A:=A) (s:=s) hl1 hl2 hu' (pairs hdl q1 q2 v1 v2)
          by_cases hs:ds.length = es.length
          · rw [len1,len2,← hs,Nat.min_self,beq_self_eq_true,Bool.and_true,Dat.eqL_all hs _ (fun j h1 h2=>by rw [List.getD_eq_getElem?_getD,List.getD_eq_getElem?_getD]; simp [h1,h2])] at this
            exact this
          · rw [len1,len2,show (ds.length == es.length) = false by simpa using hs,Bool.and_false] at this
            rw [Dat.eqL_len hs]
            exact this
    | _=>simp [Dat.dep] at hd0
theorem eq_pairs {n:Nat} {A:Around} {s:Shared} (ok:HOk P w H s.heap) {ds es:List Dat} {xs ys:List V} {its its2:List Value} (hdl:Dat.depL ds ≤ n) (hu:A.units + n < cLine) (q1:RepL H ds xs) (q2:RepL H es ys) (v1:Vals xs its) (v2:Vals ys its2) :
    ∀ j (h1:j < its.toArray.size) (h2:j < its2.toArray.size),SeqAt.EqAt A s its.toArray[j] its2.toArray[j] (Dat.eq (ds.getD j .non) (es.getD j .non)):=by
  intro j j1 j2
  have l1:j < xs.length:=by have:=v1.length; simp at j1; omega
  have l2:j < ys.length:=by have:=v2.length; simp at j2; omega
  obtain ⟨d',e1,p1⟩:=q1.get (i:=j) (x:=xs[j]) (by simp [l1])
  obtain ⟨e',e2,p2⟩:=q2.get (i:=j) (x:=ys[j]) (by simp [l2])
  obtain ⟨w1,g1,z1⟩:=v1.get (i:=j) (x:=xs[j]) (by simp [l1])
  obtain ⟨w2,g2,z2⟩:=v2.get (i:=j) (x:=ys[j]) (by simp [l2])
  have k1:its.toArray[j] = w1:=by
    obtain ⟨_,k⟩:=List.getElem?_eq_some_iff.mp g1
    simpa using k
  have k2:its2.toArray[j] = w2:=by
    obtain ⟨_,k⟩:=List.getElem?_eq_some_iff.mp g2
    simpa using k
  rw [k1,k2,List.getD_eq_getElem?_getD,List.getD_eq_getElem?_getD,e1,e2]
  exact eqAt_rep n (Nat.le_trans (Dat.depL_mem (List.mem_of_getElem? e1)) hdl) ok p1 p2 z1 z2 hu
theorem rcAt_rep (n:Nat) {d e:Dat} {v u:V} {x y:Value} {A:Around} {s:Shared} (hd:d.dep ≤ n) (ok:HOk P w H s.heap) (h1:Rep H d v) (h2:Rep H e u) (r1:RelV v x) (r2:RelV u y) (hu:A.units + n < cLine):SeqAt.RcAt A s x y (Dat.eq d e):=by
  have hu':A.units < cLine:=by omega
  cases d with
  | non =>
    cases h1; cases r1
    cases e with
    | non =>
      cases h2; cases r2
      exact SeqAt.RcAt.none_none
    | bl b =>
      cases h2; cases r2
      exact SeqAt.RcAt.none_bool b
    | int b =>
      cases h2; obtain ⟨t2,rfl⟩:=r2
      exact SeqAt.RcAt.none_int b t2
    | str b =>
      cases h2; obtain ⟨t2,rfl⟩:=r2
      exact SeqAt.RcAt.none_str b t2
    | lst es =>
      obtain ⟨p2,ys,rfl,hb,q2⟩:=h2
      obtain ⟨its2,v2,hl2⟩:=hok_list ok hb
      cases r2
      exact SeqAt.RcAt.none_list hl2 hu'
    | tup es =>
      obtain ⟨p2,ys,rfl,hb,q2⟩:=h2
      obtain ⟨its2,v2,hl2⟩:=hok_tup ok hb
      cases r2
      exact SeqAt.RcAt.none_tuple hl2 hu'
  | bl a =>
    cases h1; cases r1
    cases e with
    | non =>
      cases h2; cases r2
      exact SeqAt.RcAt.bool_none a
    | bl b =>
      cases h2; cases r2
      exact SeqAt.RcAt.bool_bool a b
    | int b =>
      cases h2; obtain ⟨t2,rfl⟩:=r2
      exact SeqAt.RcAt.bool_int a b t2
    | str b =>
      cases h2; obtain ⟨t2,rfl⟩:=r2
      exact SeqAt.RcAt.bool_str a b t2
    | lst es =>
      obtain ⟨p2,ys,rfl,hb,q2⟩:=h2
      obtain ⟨its2,v2,hl2⟩:=hok_list ok hb
      cases r2
      exact SeqAt.RcAt.bool_list a hl2 hu'
    | tup es =>
      obtain ⟨p2,ys,rfl,hb,q2⟩:=h2
      obtain ⟨its2,v2,hl2⟩:=hok_tup ok hb
      cases r2
      exact SeqAt.RcAt.bool_tuple a hl2 hu'
  | int a =>
    cases h1; obtain ⟨t1,rfl⟩:=r1
    cases e with
    | non =>
      cases h2; cases r2
      exact SeqAt.RcAt.int_none a t1
    | bl b =>
      cases h2; cases r2
      exact SeqAt.RcAt.int_bool a t1 b
    | int b =>
      cases h2; obtain ⟨t2,rfl⟩:=r2
      exact SeqAt.RcAt.int_int a t1 b t2
    | str b =>
      cases h2; obtain ⟨t2,rfl⟩:=r2
      exact SeqAt.RcAt.int_str a t1 b t2
    | lst es =>
      obtain ⟨p2,ys,rfl,hb,q2⟩:=h2
      obtain ⟨its2,v2,hl2⟩:=hok_list ok hb
      cases r2
      exact SeqAt.RcAt.int_list a t1 hl2 hu'
    | tup es =>
      obtain ⟨p2,ys,rfl,hb,q2⟩:=h2
      obtain ⟨its2,v2,hl2⟩:=hok_tup ok hb
      cases r2
      exact SeqAt.RcAt.int_tuple a t1 hl2 hu'
  | str a =>
    cases h1; obtain ⟨t1,rfl⟩:=r1
    cases e with
    | non =>
      cases h2; cases r2
      exact SeqAt.RcAt.str_none a t1
    | bl b =>
      cases h2; cases r2
      exact SeqAt.RcAt.str_bool a t1 b
    | int b =>
      cases h2; obtain ⟨t2,rfl⟩:=r2
      exact SeqAt.RcAt.str_int a t1 b t2
    | str b =>
      cases h2; obtain ⟨t2,rfl⟩:=r2
      exact SeqAt.RcAt.str_str a t1 b t2
    | lst es =>
      obtain ⟨p2,ys,rfl,hb,q2⟩:=h2
      obtain ⟨its2,v2,hl2⟩:=hok_list ok hb
      cases r2
      exact SeqAt.RcAt.str_list a t1 hl2 hu'
    | tup es =>
      obtain ⟨p2,ys,rfl,hb,q2⟩:=h2
      obtain ⟨its2,v2,hl2⟩:=hok_tup ok hb
      cases r2
      exact SeqAt.RcAt.str_tuple a t1 hl2 hu'
  | lst ds =>
    have hdl:Dat.depL ds + 1 ≤ n:=by rw [Dat.dep] at hd; exact hd
    obtain ⟨p,xs,rfl,ha,q1⟩:=h1
    obtain ⟨its,v1,hl1⟩:=hok_list ok ha
    cases r1
    cases e with
    | non =>
      cases h2; cases r2
      exact SeqAt.RcAt.list_none hl1 hu'
    | bl b =>
      cases h2; cases r2
      exact SeqAt.RcAt.list_bool b hl1 hu'
    | int b =>
      cases h2; obtain ⟨t2,rfl⟩:=r2
      exact SeqAt.RcAt.list_int b t2 hl1 hu'
    | str b =>
      cases h2; obtain ⟨t2,rfl⟩:=r2
      exact SeqAt.RcAt.list_str b t2 hl1 hu'
    | lst es =>
      obtain ⟨p2,ys,rfl,hb,q2⟩:=h2
      obtain ⟨its2,v2,hl2⟩:=hok_list ok hb
      cases r2
      have len1:its.toArray.size = ds.length:=by have:=v1.length; have:=q1.length; simp; omega
      have len2:its2.toArray.size = es.length:=by have:=v2.length; have:=q2.length; simp; omega
      show SeqAt.RcAt A s (.ref p) (.ref p2) (Dat.eqL ds es)
      by_cases hs:ds.length = es.length
      · have:=SeqAt.RcAt.lists (A:=A) (s:=s) hl1 hl2 (by rw [len1,len2,hs]) hu' (eq_pairs ok (by omega) (by rw [in1_units]; omega:A.in1.units + (n - 1) < cLine) q1 q2 v1 v2)
        rw [len1,Dat.eqL_all hs _ (fun j h1 h2=>by rw [List.getD_eq_getElem?_getD,List.getD_eq_getElem?_getD]; simp [h1,h2])] at this
        exact this
      · rw [Dat.eqL_len hs]
        exact SeqAt.RcAt.lists_lengths hl1 hl2 (by rw [len1,len2]; simpa using hs) hu'
    | tup es =>
      obtain ⟨p2,ys,rfl,hb,q2⟩:=h2
      obtain ⟨its2,v2,hl2⟩:=hok_tup ok hb
      cases r2
      exact SeqAt.RcAt.list_tuple hl1 hl2 hu'
  | tup ds =>
    have hdl:Dat.depL ds + 1 ≤ n:=by rw [Dat.dep] at hd; exact hd
    obtain ⟨p,xs,rfl,ha,q1⟩:=h1
    obtain ⟨its,v1,hl1⟩:=hok_tup ok ha
    cases r1
    cases e with
    | non =>
      cases h2; cases r2
      exact SeqAt.RcAt.tuple_none hl1 hu'
    | bl b =>
      cases h2; cases r2
      exact SeqAt.RcAt.tuple_bool b hl1 hu'
    | int b =>
      cases h2; obtain ⟨t2,rfl⟩:=r2
      exact SeqAt.RcAt.tuple_int b t2 hl1 hu'
    | str b =>
      cases h2; obtain ⟨t2,rfl⟩:=r2
      exact SeqAt.RcAt.tuple_str b t2 hl1 hu'
    | lst es =>
      obtain ⟨p2,ys,rfl,hb,q2⟩:=h2
      obtain ⟨its2,v2,hl2⟩:=hok_list ok hb
      cases r2
      exact SeqAt.RcAt.tuple_list hl1 hl2 hu'
    | tup es =>
      obtain ⟨p2,ys,rfl,hb,q2⟩:=h2
      obtain ⟨its2,v2,hl2⟩:=hok_tup ok hb
      cases r2
      have len1:its.toArray.size = ds.length:=by have:=v1.length; have:=q1.length; simp; omega
      have len2:its2.toArray.size = es.length:=by have:=v2.length; have:=q2.length; simp; omega
      show SeqAt.RcAt A s (.ref p) (.ref p2) (Dat.eqL ds es)
      have:=SeqAt.RcAt.tuples (A:=A) (s:=s) hl1 hl2 hu' (eq_pairs ok (by omega) (by rw [in1_units]; omega:A.in1.units + (n - 1) < cLine) q1 q2 v1 v2)
      by_cases hs:ds.length = es.length
      · rw [len1,len2,← hs,Nat.min_self,beq_self_eq_true,Bool.and_true,Dat.eqL_all hs _ (fun j h1 h2=>by rw [List.getD_eq_getElem?_getD,List.getD_eq_getElem?_getD]; simp [h1,h2])] at this
        exact this
      · rw [len1,len2,show (ds.length == es.length) = false by simpa using hs,Bool.and_false] at this
        rw [Dat.eqL_len hs]
        exact this
theorem rcNeAt_rep (n:Nat) {d e:Dat} {v u:V} {x y:Value} {A:Around} {s:Shared} (hd:d.dep ≤ n) (ok:HOk P w H s.heap) (h1:Rep H d v) (h2:Rep H e u) (r1:RelV v x) (r2:RelV u y) (hu:A.units + n < cLine):SeqAt.RcNeAt A s x y (!Dat.eq d e):=by
  have hu':A.units < cLine:=by omega
  cases d with
  | non =>
    cases h1; cases r1
    cases e with
    | non =>
      cases h2; cases r2
      exact SeqAt.RcNeAt.none_none
    | bl b =>
      cases h2; cases r2
      exact SeqAt.RcNeAt.none_bool b
    | int b =>
      cases h2; obtain ⟨t2,rfl⟩:=r2
      exact SeqAt.RcNeAt.none_int b t2
    | str b =>
      cases h2; obtain ⟨t2,rfl⟩:=r2
      exact SeqAt.RcNeAt.none_str b t2
    | lst es =>
      obtain ⟨p2,ys,rfl,hb,q2⟩:=h2
      obtain ⟨its2,v2,hl2⟩:=hok_list ok hb
      cases r2
      exact SeqAt.RcNeAt.none_list hl2 hu'
    | tup es =>
      obtain ⟨p2,ys,rfl,hb,q2⟩:=h2
      obtain ⟨its2,v2,hl2⟩:=hok_tup ok hb
      cases r2
      exact SeqAt.RcNeAt.none_tuple hl2 hu'
  | bl a =>
    cases h1; cases r1
    cases e with
    | non =>
      cases h2; cases r2
      exact SeqAt.RcNeAt.bool_none a
    | bl b =>
      cases h2; cases r2
      exact SeqAt.RcNeAt.bool_bool a b
    | int b =>
      cases h2; obtain ⟨t2,rfl⟩:=r2
      exact SeqAt.RcNeAt.bool_int a b t2
    | str b =>
      cases h2; obtain ⟨t2,rfl⟩:=r2
      exact SeqAt.RcNeAt.bool_str a b t2
    | lst es =>
      obtain ⟨p2,ys,rfl,hb,q2⟩:=h2
      obtain ⟨its2,v2,hl2⟩:=hok_list ok hb
      cases r2
      exact SeqAt.RcNeAt.bool_list a hl2 hu'
    | tup es =>
      obtain ⟨p2,ys,rfl,hb,q2⟩:=h2
      obtain ⟨its2,v2,hl2⟩:=hok_tup ok hb
      cases r2
      exact SeqAt.RcNeAt.bool_tuple a hl2 hu'
  | int a =>
    cases h1; obtain ⟨t1,rfl⟩:=r1
    cases e with
    | non =>
      cases h2; cases r2
      exact SeqAt.RcNeAt.int_none a t1
    | bl b =>
      cases h2; cases r2
      exact SeqAt.RcNeAt.int_bool a t1 b
    | int b =>
      cases h2; obtain ⟨t2,rfl⟩:=r2
      exact SeqAt.RcNeAt.int_int a t1 b t2
    | str b =>
      cases h2; obtain ⟨t2,rfl⟩:=r2
      exact SeqAt.RcNeAt.int_str a t1 b t2
    | lst es =>
      obtain ⟨p2,ys,rfl,hb,q2⟩:=h2
      obtain ⟨its2,v2,hl2⟩:=hok_list ok hb
      cases r2
      exact SeqAt.RcNeAt.int_list a t1 hl2 hu'
    | tup es =>
      obtain ⟨p2,ys,rfl,hb,q2⟩:=h2
      obtain ⟨its2,v2,hl2⟩:=hok_tup ok hb
      cases r2
      exact SeqAt.RcNeAt.int_tuple a t1 hl2 hu'
  | str a =>
    cases h1; obtain ⟨t1,rfl⟩:=r1
    cases e with
    | non =>
      cases h2; cases r2
      exact SeqAt.RcNeAt.str_none a t1
    | bl b =>
      cases h2; cases r2
      exact SeqAt.RcNeAt.str_bool a t1 b
    | int b =>
      cases h2; obtain ⟨t2,rfl⟩:=r2
      exact SeqAt.RcNeAt.str_int a t1 b t2
    | str b =>
      cases h2; obtain ⟨t2,rfl⟩:=r2
      exact SeqAt.RcNeAt.str_str a t1 b t2
    | lst es =>
      obtain ⟨p2,ys,rfl,hb,q2⟩:=h2
      obtain ⟨its2,v2,hl2⟩:=hok_list ok hb
      cases r2
      exact SeqAt.RcNeAt.str_list a t1 hl2 hu'
    | tup es =>
      obtain ⟨p2,ys,rfl,hb,q2⟩:=h2
      obtain ⟨its2,v2,hl2⟩:=hok_tup ok hb
      cases r2
      exact SeqAt.RcNeAt.str_tuple a t1 hl2 hu'
  | lst ds =>
    have hdl:Dat.depL ds + 1 ≤ n:=by rw [Dat.dep] at hd; exact hd
    obtain ⟨p,xs,rfl,ha,q1⟩:=h1
    obtain ⟨its,v1,hl1⟩:=hok_list ok ha
    cases r1
    cases e with
    | non =>
      cases h2; cases r2
      exact SeqAt.RcNeAt.list_none hl1 hu'
    | bl b =>
      cases h2; cases r2
      exact SeqAt.RcNeAt.list_bool b hl1 hu'
    | int b =>
      cases h2; obtain ⟨t2,rfl⟩:=r2
      exact SeqAt.RcNeAt.list_int b t2 hl1 hu'
    | str b =>
      cases h2; obtain ⟨t2,rfl⟩:=r2
      exact SeqAt.RcNeAt.list_str b t2 hl1 hu'
    | lst es =>
      obtain ⟨p2,ys,rfl,hb,q2⟩:=h2
      obtain ⟨its2,v2,hl2⟩:=hok_list ok hb
      cases r2
      have len1:its.toArray.size = ds.length:=by have:=v1.length; have:=q1.length; simp; omega
      have len2:its2.toArray.size = es.length:=by have:=v2.length; have:=q2.length; simp; omega
      show SeqAt.RcNeAt A s (.ref p) (.ref p2) (!Dat.eqL ds es)
      by_cases hs:ds.length = es.length
      · have:=SeqAt.RcNeAt.lists (A:=A) (s:=s) hl1 hl2 (by rw [len1,len2,hs]) hu' (eq_pairs ok (by omega) (by rw [in1_units]; omega:A.in1.units + (n - 1) < cLine) q1 q2 v1 v2)
        rw [len1,Dat.eqL_all hs _ (fun j h1 h2=>by rw [List.getD_eq_getElem?_getD,List.getD_eq_getElem?_getD]; simp [h1,h2])] at this
        exact this
      · rw [Dat.eqL_len hs]
        exact SeqAt.RcNeAt.lists_lengths hl1 hl2 (by rw [len1,len2]; simpa using hs) hu'
    | tup es =>
      obtain ⟨p2,ys,rfl,hb,q2⟩:=h2
      obtain ⟨its2,v2,hl2⟩:=hok_tup ok hb
      cases r2
      exact SeqAt.RcNeAt.list_tuple hl1 hl2 hu'
  | tup ds =>
    have hdl:Dat.depL ds + 1 ≤ n:=by rw [Dat.dep] at hd; exact hd
    obtain ⟨p,xs,rfl,ha,q1⟩:=h1
    obtain ⟨its,v1,hl1⟩:=hok_tup ok ha
    cases r1
    cases e with
    | non =>
      cases h2; cases r2
      exact SeqAt.RcNeAt.tuple_none hl1 hu'
    | bl b =>
      cases h2; cases r2
      exact SeqAt.RcNeAt.tuple_bool b hl1 hu'
    | int b =>
      cases h2; obtain ⟨t2,rfl⟩:=r2
      exact SeqAt.RcNeAt.tuple_int b t2 hl1 hu'
    | str b =>
      cases h2; obtain ⟨t2,rfl⟩:=r2
      exact SeqAt.RcNeAt.tuple_str b t2 hl1 hu'
    | lst es =>
      obtain ⟨p2,ys,rfl,hb,q2⟩:=h2
      obtain ⟨its2,v2,hl2⟩:=hok_list ok hb
      cases r2
      exact SeqAt.RcNeAt.tuple_list hl1 hl2 hu'
    | tup es =>
      obtain ⟨p2,ys,rfl,hb,q2⟩:=h2
      obtain ⟨its2,v2,hl2⟩:=hok_tup ok hb
      cases r2
      have len1:its.toArray.size = ds.length:=by have:=v1.length; have:=q1.length; simp; omega
      have len2:its2.toArray.size = es.length:=by have:=v2.length; have:=q2.length; simp; omega
      show SeqAt.RcNeAt A s (.ref p) (.ref p2) (!Dat.eqL ds es)
      have:=SeqAt.RcNeAt.tuples (A:=A) (s:=s) hl1 hl2 hu' (eq_pairs ok (by omega) (by rw [in1_units]; omega:A.in1.units + (n - 1) < cLine) q1 q2 v1 v2)
      by_cases hs:ds.length = es.length
      · rw [len1,len2,← hs,Nat.min_self,beq_self_eq_true,Bool.and_true,Dat.eqL_all hs _ (fun j h1 h2=>by rw [List.getD_eq_getElem?_getD,List.getD_eq_getElem?_getD]; simp [h1,h2])] at this
        exact this
      · rw [len1,len2,show (ds.length == es.length) = false by simpa using hs,Bool.and_false] at this
        rw [Dat.eqL_len hs]
        exact this
end
section
variable {X:Cx}
def rEqD:R2:=fun x y H Q=>∃ d e,Rep H d x ∧ Rep H e y ∧ d.dep ≤ 40 ∧ Q (.bl (Dat.eq d e)) H
def rNeD:R2:=fun x y H Q=>∃ d e,Rep H d x ∧ Rep H e y ∧ d.dep ≤ 40 ∧ Q (.bl (!Dat.eq d e)) H
theorem op_eqD (hu:X.A.units + 64 < cLine):OpR X (compareOp .Eq) rEqD:=by
  intro pins s σ H x y v u Q I rx ry h
  obtain ⟨d,e,h1,h2,hd,q⟩:=h
  exact rcAt_rep 40 hd I.hok h1 h2 rx ry (by omega) _ _ _ _ ⟨.bl _,H,I,rfl,q⟩
theorem op_neD (hu:X.A.units + 64 < cLine):OpR X (compareOp .NotEq) rNeD:=by
  intro pins s σ H x y v u Q I rx ry h
  obtain ⟨d,e,h1,h2,hd,q⟩:=h
  exact rcNeAt_rep 40 hd I.hok h1 h2 rx ry (by omega) _ _ _ _ ⟨.bl _,H,I,rfl,q⟩
def tyName (H:Hp):V → Option String
  | .non=>some "NoneType"
  | .bl _=>some "bool"
  | .int _=>some "int"
  | .str _=>some "str"
  | .ref a=>match H a with
    | some (.lst _)=>some "list"
    | some (.tup _)=>some "tuple"
    | some (.dK _)=>some "dict"
    | _=>none
  | _=>none
def isSub (T n:String):Bool:=T == n || (T == "bool" && n == "int")
theorem call_isinst:CallR X (.builtin "isinstance") (fun vs H Q=>∃ x n T,vs = [x,.ty n] ∧ tyName H x = some T ∧ n ∈ ["int","bool","str","list","tuple","dict"] ∧ Q (.bl (isSub T n)) H):=by
  intro pins s σ H vs us Q I r h
  obtain ⟨x,n,T,rfl,ht,hn,q⟩:=h
  obtain ⟨u,w',rfl,rx,rn⟩:=vals2 r
  cases (show w' = Value.type n from rn)
  have key:∃ t,TyOf X.K H x t ∧ t = .type T:=by
    cases x with
    | non=>cases ht; exact ⟨_,.non,rfl⟩
    | bl b=>cases ht; exact ⟨_,.bl b,rfl⟩
    | int b=>cases ht; exact ⟨_,.int b,rfl⟩
    | str b=>cases ht; exact ⟨_,.str b,rfl⟩
    | ref a =>
      unfold tyName at ht
      dsimp only at ht
      cases e:H a with
      | none=>rw [e] at ht; cases ht
      | some o =>
        rw [e] at ht
        cases o with
        | lst xs=>cases ht; exact ⟨_,.lst e,rfl⟩
        | tup xs=>cases ht; exact ⟨_,.tup e,rfl⟩
        | dK xs=>cases ht; exact ⟨_,.dK e,rfl⟩
        | _=>cases ht
    | _=>cases ht
  obtain ⟨t,ty,rfl⟩:=key
  have hT:T ∈ ["NoneType","bool","int","str","list","tuple","dict"]:=by
    cases x with
    | non=>cases ht; decide
    | bl b=>cases ht; decide
    | int b=>cases ht; decide
    | str b=>cases ht; decide
    | ref a =>
      unfold tyName at ht
      dsimp only at ht
      cases e:H a with
      | none=>rw [e] at ht; cases ht
      | some o =>
        rw [e] at ht
        cases o with
        | lst xs=>cases ht; decide
        | tup xs=>cases ht; decide
        | dK xs=>cases ht; decide
        | _=>cases ht
    | _=>cases ht
  have e:PySem.W.kitOne X.K (.type T) (.type n) = some (isSub T n):=by
    simp only [List.mem_cons,List.mem_nil_iff,or_false] at hT hn
    rcases hT with rfl | rfl | rfl | rfl | rfl | rfl | rfl <;> rcases hn with rfl | rfl | rfl | rfl | rfl | rfl <;> rfl
  exact isinst_ok I rx ty e fun tk=>⟨.bl _,H,I.tok tk,rfl,q⟩
def numsV (lo:Int) (n:Nat):List V:=(List.range n).map fun i=>.int (lo + (i:Nat))
theorem vals_of_get:∀ {xs:List V} {its:List Value},xs.length = its.length → (∀ (j:Nat) (x:V) (v:Value),xs[j]? = some x → its[j]? = some v → RelV x v) → Vals xs its
  | [],[],_,_=>.nil
  | [],_ :: _,h,_=>by simp at h
  | _ :: _,[],h,_=>by simp at h
  | x :: xs,v :: its,h,g=>.cons (g 0 x v rfl rfl) (vals_of_get (by simpa using h) fun j y u e1 e2=>g (j + 1) y u (by simpa using e1) (by simpa using e2))
theorem vals_nums {lo:Int} {n:Nat} {its:List Value} (hl:its.length = n) (h:∀ (j:Nat) (v:Value),its[j]? = some v → ∃ t,v = Value.int (lo + (j:Int) * 1) t):Vals (numsV lo n) its:=by
  refine vals_of_get (by simp [numsV,hl]) fun j x v e1 e2=>?_
  unfold numsV at e1
  rw [List.getElem?_map] at e1
  cases e:(List.range n)[j]? with
  | none=>rw [e] at e1; cases e1
  | some i =>
    rw [e] at e1
    cases e1
    have hi:i = j:=by
      obtain ⟨h1,h2⟩:=List.getElem?_eq_some_iff.mp e
      rw [List.getElem_range] at h2
      exact h2.symm
    subst hi
    obtain ⟨t,ht⟩:=h i v e2
    exact ⟨t,by rw [ht,Int.mul_one]⟩
theorem call_list_rng (hc:X.calm = true):CallR X (.type "list") (fun vs H Q=>∃ p lo hi,vs = [.ref p] ∧ H p = some (.rng lo hi) ∧ (-(2 ^ 62) ≤ lo ∧ lo < 2 ^ 62 ∧ -(2 ^ 62) ≤ hi ∧ hi < 2 ^ 62) ∧ hi - lo ≤ 1000000 ∧ ∀ l,H l = none → Q (.ref l) (upd H l (.lst (numsV lo (hi - lo).toNat)))):=by
  intro pins s σ H vs us Q I r h
  obtain ⟨p,lo,hi,rfl,hp,⟨b1,b2,b3,b4⟩,hz,q⟩:=h
  obtain ⟨u,rfl,rx⟩:=vals1 r
  cases rx
  obtain ⟨t,u,v,e⟩:=(show ObjOk X.prog X.w H s.heap p (.rng lo hi) from I.hok p _ hp)
  have hn:Builtin.Range.rangeSize lo hi 1 = (((hi - lo).toNat:Nat):Int):=by rw [rangeSize_one]; split <;> omega
  refine call_list_range (n:=(hi - lo).toNat) (I.ok.hd hc) e (small_one b1 b2 b3 b4) hn (by omega) fun h' tk acc' c' hk hS hacc=>?_
  have rv:Vals (numsV lo (hi - lo).toNat) acc'.toList:=vals_nums (by simpa using hacc.1) fun j v hj=>hacc.2 j v (by simpa using hj)
  refine ⟨.ref _,_,I.laid (o:=.lst (numsV lo (hi - lo).toNat)) hk (Nat.le_refl _) ⟨?_,acc'.toList,c',rv,by simpa using hS⟩,rfl,q _ I.fresh⟩
  have hl:(numsV lo (hi - lo).toNat).length = (hi - lo).toNat:=by simp [numsV]
  rw [hl,sizeLine_eq]
  omega
end
end L2

namespace L2
open PySem PySem.Spec PyProof.Rows
section
variable {X:Cx}
def rAddU:R2:=fun x y H Q=>match x,y with
  | .int i,.int j=>Q (.int (i + j)) H
  | .str i,.str j=>i.length + j.length ≤ sizeLine ∧ Q (.str (i ++ j)) H
  | .ref l,.ref b=>∃ xs zs,H l = some (.lst xs) ∧ H b = some (.lst zs) ∧ xs.length + zs.length ≤ sizeLine ∧ ∀ p,H p = none → Q (.ref p) (upd H p (.lst (xs ++ zs)))
  | _,_=>False
theorem u_add:OpR X (binaryOp .Add) rAddU:=by
  intro pins s σ H x y v u Q I rx ry h
  cases x <;> cases y <;> first
    | exact op_add pins s σ H _ _ v u Q I rx ry ⟨_,_,rfl,rfl,h⟩
    | exact op_add_str pins s σ H _ _ v u Q I rx ry ⟨_,_,rfl,rfl,h.1,h.2⟩
    | (obtain ⟨xs,zs,h1,h2,h3,h4⟩:=h; exact op_cat pins s σ H _ _ v u Q I rx ry ⟨_,_,xs,zs,rfl,rfl,h1,h2,h3,h4⟩)
    | exact False.elim h
def rMulU:R2:=fun x y H Q=>match x,y with
  | .int i,.int j=>CMul i j ∧ Q (.int (i * j)) H
  | _,_=>False
def rSubU:R2:=fun x y H Q=>match x,y with
  | .int i,.int j=>Q (.int (i - j)) H
  | _,_=>False
theorem u_sub:OpR X (binaryOp .Sub) rSubU:=by
  intro pins s σ H x y v u Q I rx ry h
  cases x <;> cases y <;> first
    | exact op_sub pins s σ H _ _ v u Q I rx ry ⟨_,_,rfl,rfl,h⟩
    | exact False.elim h
def rModU:R2:=fun x y H Q=>match x,y with
  | .int i,.int j=>0 < j ∧ Q (.int (i % j)) H
  | _,_=>False
theorem u_mod:OpR X (binaryOp .Mod) rModU:=by
  intro pins s σ H x y v u Q I rx ry h
  cases x <;> cases y <;> first
    | exact op_mod pins s σ H _ _ v u Q I rx ry ⟨_,_,rfl,rfl,h.1,h.2⟩
    | exact False.elim h
def rPowU:R2:=fun x y H Q=>match x,y with
  | .int i,.int j=>CPow i j ∧ Q (.int (i ^ j.toNat)) H
  | _,_=>False
theorem u_pow:OpR X (binaryOp .Pow) rPowU:=by
  intro pins s σ H x y v u Q I rx ry h
  cases x <;> cases y <;> first
    | exact op_pow pins s σ H _ _ v u Q I rx ry ⟨_,_,rfl,rfl,h.1,h.2⟩
    | exact False.elim h
def rNegU:V → Hp → VK → Prop:=fun x H Q=>match x with
  | .int i=>Q (.int (-i)) H
  | _=>False
theorem u_neg:UnR X (unaryOp .USub) rNegU:=by
  intro pins s σ H x v Q I rx h
  cases x <;> first
    | exact un_neg pins s σ H _ v Q I rx ⟨_,rfl,h⟩
    | exact False.elim h
def rCmpU (p:Int → Int → Bool):R2:=fun x y H Q=>match x,y with
  | .int i,.int j=>Q (.bl (p i j)) H
  | _,_=>False
theorem u_lt:OpR X (compareOp .Lt) (rCmpU fun i j=>decide (i < j)):=by
  intro pins s σ H x y v u Q I rx ry h
  cases x <;> cases y <;> first
    | exact op_lt pins s σ H _ _ v u Q I rx ry ⟨_,_,rfl,rfl,h⟩
    | exact False.elim h
theorem u_le:OpR X (compareOp .LtE) (rCmpU fun i j=>decide (i ≤ j)):=by
  intro pins s σ H x y v u Q I rx ry h
  cases x <;> cases y <;> first
    | exact op_le pins s σ H _ _ v u Q I rx ry ⟨_,_,rfl,rfl,h⟩
    | exact False.elim h
theorem u_gt:OpR X (compareOp .Gt) (rCmpU fun i j=>decide (j < i)):=by
  intro pins s σ H x y v u Q I rx ry h
  cases x <;> cases y <;> first
    | exact op_gt pins s σ H _ _ v u Q I rx ry ⟨_,_,rfl,rfl,h⟩
    | exact False.elim h
def rEqU:R2:=fun x y H Q=>match x,y with
  | .int i,.int j=>Q (.bl (decide (i = j))) H
  | .str i,.str j=>Q (.bl (decide (i = j))) H
  | .bl i,.bl j=>Q (.bl (decide (i = j))) H
  | x,y=>rEqD x y H Q
def rNeU:R2:=fun x y H Q=>match x,y with
  | .int i,.int j=>Q (.bl (!decide (i = j))) H
  | .str i,.str j=>Q (.bl (!decide (i = j))) H
  | .bl i,.bl j=>Q (.bl (!decide (i = j))) H
  | x,y=>rNeD x y H Q
theorem u_eq (hu:X.A.units + 64 < cLine):OpR X (compareOp .Eq) rEqU:=by
  intro pins s σ H x y v u Q I rx ry h
  cases x <;> cases y <;> first
    | (refine op_eq pins s σ H _ _ v u Q I rx ry ⟨rfl,?_⟩; have h':=h; simp only [rEqU] at h'; simpa using h')
    | exact op_eqD hu pins s σ H _ _ v u Q I rx ry h
theorem u_ne (hu:X.A.units + 64 < cLine):OpR X (compareOp .NotEq) rNeU:=by
  intro pins s σ H x y v u Q I rx ry h
  cases x <;> cases y <;> first
    | (refine op_ne pins s σ H _ _ v u Q I rx ry ⟨rfl,?_⟩; have h':=h; simp only [rNeU] at h'; simpa using h')
    | exact op_neD hu pins s σ H _ _ v u Q I rx ry h
def rIxU (K:PySem.W.Frag):R2:=fun x y H Q=>match x,y with
  | .str z,.int i=>∃ c,z.length ≤ sizeLine ∧ atI z.cps.toList i = some c ∧ Q (.str ⟨#[c]⟩) H
  | .ref p,.int i=>∃ xs v,(SqL K H p xs ∨ SqT K H p xs) ∧ atI xs i = some v ∧ Q v H
  | _,_=>False
theorem u_ix:IxR X (rIxU X.K):=by
  intro value slice pins s σ H x y v u Q I rx ry h hs
  cases x <;> cases y <;> first
    | (obtain ⟨c,h1,h2,h3⟩:=h; exact ix_str value slice pins s σ H _ _ v u Q I rx ry ⟨_,_,c,rfl,rfl,h1,h2,h3⟩ hs)
    | (obtain ⟨xs,w,h1 | h1,h2,h3⟩:=h
       · exact ix_list value slice pins s σ H _ _ v u Q I rx ry ⟨_,xs,_,w,rfl,rfl,h1,h2,h3⟩ hs
       · exact ix_tup value slice pins s σ H _ _ v u Q I rx ry ⟨_,xs,_,w,rfl,rfl,h1,h2,h3⟩ hs)
    | exact False.elim h
def rLenU (K:PySem.W.Frag):List V → Hp → VK → Prop:=fun vs H Q=>match vs with
  | [.str z]=>z.length ≤ sizeLine ∧ Q (.int z.length) H
  | [.ref p]=>∃ xs,(SqL K H p xs ∨ SqT K H p xs) ∧ Q (.int xs.length) H
  | _=>False
theorem k_len:CallR X (.builtin "len") (rLenU X.K):=by
  intro pins s σ H vs us Q I r h
  match vs,h with
  | [.str z],h=>exact call_len_str pins s σ H _ us Q I r ⟨z,rfl,h.1,h.2⟩
  | [.ref p],h =>
    obtain ⟨xs,h1,h2⟩:=h
    exact call_len_seq pins s σ H _ us Q I r ⟨p,xs,rfl,h1,h2⟩
def rListU (K:PySem.W.Frag):List V → Hp → VK → Prop:=fun vs H Q=>match vs with
  | [.ref p]=>(∃ xs,(SqL K H p xs ∨ SqT K H p xs) ∧ ∀ l,H l = none → Q (.ref l) (upd H l (.lst xs))) ∨
      ∃ lo hi,H p = some (.rng lo hi) ∧ (-(2 ^ 62) ≤ lo ∧ lo < 2 ^ 62 ∧ -(2 ^ 62) ≤ hi ∧ hi < 2 ^ 62) ∧ hi - lo ≤ 1000000 ∧ ∀ l,H l = none → Q (.ref l) (upd H l (.lst (numsV lo (hi - lo).toNat)))
  | _=>False
theorem k_list (hc:X.calm = true):CallR X (.type "list") (rListU X.K):=by
  intro pins s σ H vs us Q I r h
  match vs,h with
  | [.ref p],h =>
    rcases h with ⟨xs,h1,h2⟩ | ⟨lo,hi,h1,h2,h3,h4⟩
    · exact call_list_of pins s σ H _ us Q I r ⟨p,xs,rfl,h1,h2⟩
    · exact call_list_rng hc pins s σ H _ us Q I r ⟨p,lo,hi,rfl,h1,h2,h3,h4⟩
def rIsiU:List V → Hp → VK → Prop:=fun vs H Q=>match vs with
  | [x,.ty n]=>∃ T,tyName H x = some T ∧ n ∈ ["int","bool","str","list","tuple","dict"] ∧ Q (.bl (isSub T n)) H
  | _=>False
theorem k_isinstance:CallR X (.builtin "isinstance") rIsiU:=by
  intro pins s σ H vs us Q I r h
  match vs,h with
  | [x,.ty n],h =>
    obtain ⟨T,h1,h2,h3⟩:=h
    exact call_isinst pins s σ H _ us Q I r ⟨x,n,T,rfl,h1,h2,h3⟩
end
def compCheck (N N':List Str) (k:Nat) (sc esc:Scope):Bool :=
  (sc.kind == .function) && decide ((sc.names.map (·.1)).Nodup) && (N'.length == N.length + k) &&
  ((List.range N.length).all fun i=>match N'[i]? with
    | none=>true
    | some x=>(sc.names.lookup x == none) || (sc.names.any (fun p=>p.1 == x && p.2 == .free) && N[i]? == some x)) &&
  (sc.names.all fun p=>p.2 != .free || esc.names.lookup p.1 == some .cell || esc.names.lookup p.1 == some .free)
theorem cn {X:Cx} {sc:Scope} (N':List Str) (k:Nat) (h:compCheck X.N N' k sc X.env.scope = true):CompNames X.N N' k sc X.env:=by
  unfold compCheck at h
  simp only [Bool.and_eq_true,decide_eq_true_eq,beq_iff_eq] at h
  obtain ⟨⟨⟨⟨h1,h2⟩,h3⟩,h4⟩,h5⟩:=h
  refine ⟨h1,h2,h3,fun i x e hi=>?_,fun x hx=>?_⟩
  · have q:=List.all_eq_true.mp h4 i (List.mem_range.mpr hi)
    rw [e] at q
    simp only [Bool.or_eq_true,Bool.and_eq_true,beq_iff_eq,List.any_eq_true] at q
    rcases q with q | ⟨⟨p,hp,e1,e2⟩,e3⟩
    · exact .inr q
    · obtain ⟨y,kk⟩:=p
      dsimp only at e1 e2
      subst e1; subst e2
      exact .inl ⟨hp,e3⟩
  · have q:=List.all_eq_true.mp h5 _ hx
    simp only [Bool.or_eq_true,bne_iff_ne,ne_eq,not_true_eq_false,false_or,beq_iff_eq] at q
    exact q
theorem PE.imp {X:Cx} {e:Expr} {t t':TE} (h:PE X e t) (i:∀ σ H Q,t' σ H Q → t σ H Q):PE X e t':=fun pins s σ H Q I q=>h pins s σ H Q I (i σ H Q q)
def vM (i:Nat):TE:=fun σ H Q=>match σ[i]? with
  | some (some v)=>Q v H
  | _=>False
theorem pn {X:Cx} (i:Nat) {x:Str} {pos:Pos} (hN:X.N[i]? = some x:=by rfl) (hv:Vis X.env.scope x:=by first | exact Or.inl rfl | exact Or.inr (Or.inl rfl) | exact Or.inr (Or.inr rfl)) (hd:(x == ("__debug__":Str)) = false:=by decide)
    (hcd:(x == ("__classdict__":Str)) = false:=by decide):PE X (.Name x pos) (vM i):=(pe_var hN hv hd hcd).imp fun σ H Q h=>by
  unfold vM at h
  cases e:σ[i]? with
  | none=>rw [e] at h; exact False.elim h
  | some w =>
    rw [e] at h
    cases w with
    | none=>exact False.elim h
    | some v=>exact ⟨v,e,h⟩
def bM (t:TE):TT:=fun σ H Q=>t σ H fun x H'=>match x with
  | .bl k=>Q k H'
  | .int i=>Q (i != 0) H'
  | .non=>Q false H'
  | _=>False
section
variable {X:Cx} {a b c:Expr} {ta tb tc:TE} {tA tB:TT} {rest:List Expr} {pos:Pos}
theorem tru_of {K:PySem.W.Frag} {x:V} {H:Hp} {Q:Bool → Hp → Prop} (h:match x with | .bl k=>Q k H | .int i=>Q (i != 0) H | .non=>Q false H | _=>False):∃ k,TruV K x H k ∧ Q k H:=by
  cases x with
  | bl k=>exact ⟨k,rfl,h⟩
  | int i=>exact ⟨_,rfl,h⟩
  | non=>exact ⟨_,rfl,h⟩
  | _=>exact False.elim h
theorem pt_m (ha:PE X a ta) (he:∀ whole,isTrue a X.env whole = (do let v ← whole; standAt a.pos; holding [v] (truthy v)):=by intro _; rfl):PT X a (bM ta):=by
  intro pins s σ H Q I h
  refine isTrue_plain (thn (ha pins s σ H _ I h) fun v s1 ⟨x,H1,I1,r1,q1⟩=>?_) (he _)
  exact thn (tru_ok pins s1 σ H1 x v Q I1 r1 (tru_of q1)) fun _ _ q=>q
theorem pt_cm {op:CmpOp} {r:R2} (ho:OpR X (compareOp op) r) (ha:PE X a ta) (hb:PE X b tb) (hm:behindInMarks op b = false):PT X (.Compare a [op] [b] pos) (fun σ H Q=>ta σ H fun x H1=>tb σ H1 fun y H2=>r x y H2 fun z H3=>match z with | .bl k=>Q k H3 | _=>False):=by
  intro pins s σ H Q I h
  refine wpAny_isTrue_Compare1 (thn (ha pins s σ H _ I h) fun v s1 ⟨x,H1,I1,r1,q1⟩=>thn (hb pins s1 σ H1 _ I1 q1) fun u s2 ⟨y,H2,I2,r2,q2⟩ =>
    thn (ho pins s2 σ H2 x y v u _ I2 r1 r2 q2) fun d s3 ⟨z,H3,I3,r3,q3⟩=>?_) hm
  cases z with
  | bl k=>cases r3; exact wpAny_truthy_bool ⟨H3,I3,q3⟩
  | _=>exact False.elim q3
theorem pt_chm {op op':CmpOp} {r r':R2} (ho:OpR X (compareOp op) r) (ho':OpR X (compareOp op') r') (ha:PE X a ta) (hb:PE X b tb) (hc:PE X c tc)
    (hm:lastMarks [op,op'] [b,c] = false:=by with_unfolding_all rfl):PT X (.Compare a [op,op'] [b,c] pos) (fun σ H Q=>ta σ H fun x H1=>tb σ H1 fun y H2=>r x y H2 fun z H3=>match z with
      | .bl k=>if k = true then tc σ H3 fun w' H4=>r' y w' H4 fun z H5=>match z with | .bl k=>Q k H5 | _=>False else Q false H3
      | _=>False):=by
  intro pins s σ H Q I h
  refine isTrue_chain (thn (ha pins s σ H _ I h) fun v s1 ⟨x,H1,I1,r1,q1⟩=>test_link (thn (hb pins s1 σ H1 _ I1 q1) fun u s2 ⟨y,H2,I2,r2,q2⟩ =>
    thn (ho pins s2 σ H2 x y v u _ I2 r1 r2 q2) fun d s3 ⟨z,H3,I3,r3,q3⟩=>?_)) hm
  cases z with
  | bl k =>
    cases r3
    refine wpAny_truthy_bool ?_
    cases k with
    | false=>exact ite_ff ⟨H3,I3,by simpa using q3⟩
    | true =>
      refine ite_tt (test_last (thn (hc pins s3 σ H3 (fun w' H4=>r' y w' H4 fun z H5=>match z with | .bl k=>Q k H5 | _=>False) I3 (by simpa using q3)) fun w' s4 ⟨z',H4,I4,r4,q4⟩=>thn (ho' pins s4 σ H4 y z' u w' (fun z H5=>match z with | .bl k=>Q k H5 | _=>False) I4 r2 r4 q4) fun d' s5 ⟨z2,H5,I5,r5,q5⟩=>?_))
      cases z2 with
      | bl k2=>cases r5; exact wpAny_truthy_bool ⟨H5,I5,q5⟩
      | _=>exact False.elim q5
  | _=>exact False.elim q3
theorem pe_am (ha:PE X a ta) (hb:PE X (.BoolOp .And (b :: rest) pos) tb):PE X (.BoolOp .And (a :: b :: rest) pos) (fun σ H Q=>ta σ H fun x H1=>match x with | .bl c=>if c = true then tb σ H1 Q else Q (.bl false) H1 | _=>False):=by
  intro pins s σ H Q I h
  refine BoolOp_and (thn (ha pins s σ H _ I h) fun v s1 ⟨x,H1,I1,r1,q1⟩=>?_)
  cases x with
  | bl c =>
    cases r1
    refine wpAny_truthy_bool ?_
    cases c with
    | true=>exact hb pins s1 σ H1 Q I1 (by simpa using q1)
    | false=>exact ⟨.bl false,H1,I1,rfl,by simpa using q1⟩
  | _=>exact False.elim q1
theorem pe_nm (ha:PE X a ta):PE X (.UnaryOp .Not a pos) (fun σ H Q=>ta σ H fun x H1=>match x with | .bl c=>Q (.bl (!c)) H1 | _=>False):=by
  intro pins s σ H Q I h
  refine UnaryOp_ (thn (ha pins s σ H _ I h) fun v s1 ⟨x,H1,I1,r1,q1⟩=>?_)
  cases x with
  | bl c=>cases r1; exact not_of (wpAny_truthy_bool ⟨.bl (!c),H1,I1,rfl,q1⟩)
  | _=>exact False.elim q1
def appM:V → List V → Hp → VK → Prop:=fun x vs H Q=>match x,vs with
  | .ref l,[y]=>∃ xs,H l = some (.lst xs) ∧ xs.length < sizeLine ∧ Q .non (upd H l (.lst (xs ++ [y])))
  | _,_=>False
theorem mt_appM:MtR X "list.append" appM:=by
  intro pins s σ H x vs v us Q I rx rv h
  match x,vs,rx,rv,h with
  | .ref l,[y],rx,rv,h =>
    obtain ⟨xs,h1,h2,h3⟩:=h
    exact mt_append pins s σ H _ _ v us Q I rx rv ⟨l,xs,y,rfl,rfl,h1,h2,h3⟩
def popM:V → List V → Hp → VK → Prop:=fun x vs H Q=>match x,vs with
  | .ref l,[.int i]=>∃ xs k y,H l = some (.lst xs) ∧ (-(2 ^ 63) ≤ i ∧ i < 2 ^ 63) ∧ seqIndex? i xs.length = some k ∧ xs[k]? = some y ∧ Q y (upd H l (.lst (xs.eraseIdx k)))
  | .ref l,[]=>∃ xs y,H l = some (.lst xs) ∧ xs[xs.length - 1]? = some y ∧ Q y (upd H l (.lst xs.dropLast))
  | _,_=>False
theorem mt_popM:MtR X "list.pop" popM:=by
  intro pins s σ H x vs v us Q I rx rv h
  match x,vs,rx,rv,h with
  | .ref l,[.int i],rx,rv,h =>
    obtain ⟨xs,k,y,h1,h2,h3,h4,h5⟩:=h
    exact mt_popAt pins s σ H _ _ v us Q I rx rv ⟨l,xs,i,k,y,rfl,rfl,h1,h2.1,h2.2,h3,h4,h5⟩
  | .ref l,[],rx,rv,h =>
    obtain ⟨xs,y,h1,h2,h3⟩:=h
    exact mt_pop pins s σ H _ _ v us Q I rx rv ⟨l,xs,y,rfl,rfl,h1,h2,h3⟩
end
theorem pt_w {X:Cx} {e:Expr} {t:TT} (h:PW X e t):PT X e t:=h.pt
def Has (P:Program) (w:World) (K:PySem.W.Frag) (mg:Str → Option Value) (base:Heap) (x:Str) (k:Nat) (ps:List Str) (sp:Sp):Prop :=
  ∃ f fd,FnOk P w K mg base CX0 k f fd ps sp ∧ mg x = some (.ref f) ∧ PySem.W.keepIn K (.ref f) = true ∧ Binds K fd ps []
def Def (K:PySem.W.Frag) (mg:Str → Option Value) (x:Str) (st:Stmt):Prop:=∃ f fd,Fun K x x st f fd ∧ mg x = some (.ref f)
section
variable {X:Cx} {x:Str} {j k:Nat} {ps:List Str} {sp:Sp} {e:Expr} {es:List Expr} {t:TA} {p pos:Pos}
theorem pe_fn (h:Has X.prog X.w X.K X.mg X.base x j ps sp) (hjk:j ≤ k) (hr:Room k X.A) (hg:Gl X x) (ha:PA X (e :: es) t) (hdb:(x == ("__debug__":Str)) = false:=by decide)
    (he:starEach (e :: es) X.env = (false,eval e X.env) :: starEach es X.env:=by rfl) (hpl:(backTo pos (starEach es X.env)).any (·.1) = false:=by rfl):PE X (.Call (.Name x p) (e :: es) [] pos) (tCall sp [] E0 t):=by
  obtain ⟨f,fd,G,m,kp,b⟩:=h
  exact pe_call G (hr.mono hjk) hg m kp b .nil pass0 ha hdb he hpl
end
section
variable {P:Program} {w:World} {K:PySem.W.Frag} {mg:Str → Option Value} {base:Heap}
theorem Def.ok {x:Str} {st:Stmt} {N ps:List Str} {k:Nat} {sp:Sp} (D:Def K mg x st) (S:FnScope N ps (defScope st))
    (hb:∀ (kV doc pm:Value) (an:Option Addr) (cdv ct:Value) (us:List Value),us.length = ps.length → bindArgs (PySem.W.fnOf x x (defArgs st) (defBody st) (defScope st) .none kV doc pm an cdv ct) ⟨us,[]⟩ = pure (ps.zip us))
    (len:∀ vs H Q E,sp vs H Q E → vs.length = ps.length)
    (hbody:∀ (f:Addr) (cdv:Value) (A:Around) (outer:List Env) (s:Shared) (H:Hp) (vs:List V) (Q:VK) (E:XK),Room k (A.deeper (envOfC x (defScope st) s.heap.objs.size f cdv)) → sp vs H Q E →
      ∃ t,PSs (cxOf CX0 P w K mg base N x (defScope st) f cdv A outer s H E).nox (defBody st) t ∧ t { nx:=fun _ H'=>Q .non H',rt:=Q } (start N vs) H):Has P w K mg base x (k + 1) ps sp:=by
  obtain ⟨f,fd,F,m⟩:=D
  exact ⟨f,fd,F.ok S len (fun cdv A outer s H vs Q E hr h=>hbody f cdv A outer s H vs Q E hr h),m,F.kp,F.binds hb⟩
end
end L2

namespace L2
open PySem PySem.Spec PyProof.Rows
section
variable {X:Cx} {pins:List (Addr × Obj)} {σ:St} {H:Hp} {s:Shared}
theorem Inv.turnedNew {h':Heap} {t':Nat} {fp:List Addr} {a:Addr} {o:HO} (I:Inv X pins σ H s) (hf:∀ b ∈ fp,FpOk X pins H b) (k:∀ b u,b ∉ fp → s.heap.get? b = some u → h'.get? b = some u)
    (hp:s.heap.objs.size ≤ a) (new:ObjOk X.prog X.w (upd H a o) h' a o):Inv X pins σ (upd H a o) { s with heap:=h',toks:=t' }:=by
  have hn:H a = none:=I.hok.fresh hp
  have ne:∀ b u,s.heap.get? b = some u → b ≠ a:=fun b u e=>Nat.ne_of_lt (Nat.lt_of_lt_of_le (Heap.lt_size e) hp)
  have nfp:∀ b u,H b = some u → b ∉ fp:=fun b u e z=>by rw [(hf b z).1] at e; cases e
  refine I.step (g':=s.gens) (d':=s.drawn) (ch:=fp) (fun b hb=>⟨(hf b hb).2.2.2.1,(hf b hb).2.1,(hf b hb).2.2.2.2.1,(hf b hb).2.2.2.2.2⟩) (fun b u _ _ hc e _=>k b u hc e) (fun b u _ _ hc e _=>⟨u.slots,k b u hc e⟩)
    (fun b u _ e n=>by rw [upd_ne (ne b u e)]; exact n) (fun b u hc e=>⟨u,k b u hc e⟩) (fun b xs e=>by rw [upd_ne (ne_of_none e hn)]; exact e) (fun b u xs e=>by rw [upd_ne (ne_of_none e hn)]; exact e)
    (fun b ps e=>⟨#[],by rw [upd_ne (ne_of_none e hn),e]; simp⟩) (fun m hm=>?_) (fun b u e=>?_) I.bare
  · obtain ⟨u,es,ep,ho,r⟩:=hm
    exact ⟨u,es,ep,k _ u (fun z=>(hf _ z).2.1 rfl) ho,r⟩
  · by_cases hb:b = a
    · subst hb; rw [upd_same] at e; cases e; exact new
    · rw [upd_ne hb] at e
      refine (I.hok b u e).stay (fun c v hc q=>k c v ?_ q) (fun c q=>by rw [upd_ne (ne_of_none q hn)]; exact q) fun c xs q=>by rw [upd_ne (ne_of_none q hn)]; exact q
      rcases hc with z | z
      · rw [z]; exact nfp b u e
      · exact nfp c _ z
theorem Inv.turnedL {h':Heap} {t':Nat} {fp:List Addr} (I:Inv X pins σ H s) (hf:∀ b ∈ fp,FpOk X pins H b) (k:∀ b u,b ∉ fp → s.heap.get? b = some u → h'.get? b = some u):Inv X pins σ H { s with heap:=h',toks:=t' }:=by
  have nfp:∀ b u,H b = some u → b ∉ fp:=fun b u e z=>by rw [(hf b z).1] at e; cases e
  refine I.step (g':=s.gens) (d':=s.drawn) (ch:=fp) (fun b hb=>⟨(hf b hb).2.2.2.1,(hf b hb).2.1,(hf b hb).2.2.2.2.1,(hf b hb).2.2.2.2.2⟩) (fun b u _ _ hc e _=>k b u hc e) (fun b u _ _ hc e _=>⟨u.slots,k b u hc e⟩)
    (fun b u _ e n=>n) (fun b u hc e=>⟨u,k b u hc e⟩) (fun b xs e=>e) (fun b u xs e=>e)
    (fun b ps e=>⟨#[],by rw [e]; simp⟩) (fun m hm=>?_) (fun b u e=>?_) I.bare
  · obtain ⟨u,es,ep,ho,r⟩:=hm
    exact ⟨u,es,ep,k _ u (fun z=>(hf _ z).2.1 rfl) ho,r⟩
  · refine (I.hok b u e).stay (fun c v hc q=>k c v ?_ q) (fun c q=>q) fun c xs q=>q
    rcases hc with z | z
    · rw [z]; exact nfp b u e
    · exact nfp c _ z
def Ite (K:PySem.W.Frag) (a:Addr):It :=
  ⟨fun i H=>∃ xs x,SqL K H a xs ∧ xs[i]? = some x,fun i H x H'=>∃ T y,x = .ref T ∧ H T = none ∧ H' = upd H T (.tup [.int i,y]) ∧ ∀ xs,SqL K H a xs → xs[i]? = some y,fun i H=>∃ xs,SqL K H a xs ∧ xs.length ≤ i⟩
theorem turn_enum {P:Program} {w:World} {K:PySem.W.Frag} {ts:List Expr} {kk:Nat} {tp:Pos} (a e it:Addr) (hei:e ≠ it) :
    Turn P w K (.Tuple ts kk tp) (Ite K a) [e,it] e (fun i h=>(∃ old,IsEnum h e it i old) ∧ h.IsListIter it a i) where
  mem:=by simp
  obj:=fun i h st b hb=>by
    rcases List.mem_cons.mp hb with z | z
    · subst z
      obtain ⟨⟨old,he⟩,_⟩:=st
      exact ⟨_,he,fun v z=>by cases z⟩
    · have z':b = it:=by simpa using z
      subst z'
      obtain ⟨_,o,e,c,d⟩:=st
      exact ⟨o,e,fun v z=>by rw [d] at z; cases z⟩
  keep:=fun i h h' st k=>⟨by obtain ⟨⟨old,he⟩,_⟩:=st; exact ⟨old,k e (by simp) _ he⟩,st.2.at fun o x=>k it (by simp) o x⟩
  item:=by
    intro X hP hw hK hc i pins s σ H E I hf st hg
    subst hP hw hK
    obtain ⟨xs,x,hq,hx⟩:=hg
    obtain ⟨its,rv,p,hz⟩:=I.list hq
    obtain ⟨u,hu,ru⟩:=rv.get hx
    obtain ⟨⟨old,he⟩,hit⟩:=st
    refine wpAny_pyNext_enum_item he hit p.isList (x:=u) (by simpa using hu) hei fun h' ho hit' hT hsz hk=>?_
    refine ⟨_,rfl,wpAny_letOwnedTupleGo_enum ho fun h'' he'' hs''=>?_⟩
    have hTe:s.heap.objs.size ≠ e:=Nat.ne_of_gt (Heap.lt_size he)
    have hTi:s.heap.objs.size ≠ it:=by obtain ⟨o,ho',_⟩:=hit; exact Nat.ne_of_gt (Heap.lt_size ho')
    have kk:∀ b u,b ∉ [e,it] → s.heap.get? b = some u → h''.get? b = some u:=fun b u hb q=>by
      have b1:b ≠ e:=fun z=>hb (by simp [z])
      have b2:b ≠ it:=fun z=>hb (by simp [z])
      exact (hs''.2 b b1).trans (hk b u b1 b2 q)
    have hT'':=(hs''.2 _ hTe).trans hT
    refine ⟨.ref s.heap.objs.size,_,I.turnedNew (t':=s.toks + 1) (o:=.tup [.int i,x]) hf kk (Nat.le_refl _) ⟨by show 2 ≤ sizeLine; decide,[.int i s.toks,u],.cons ⟨_,rfl⟩ (.cons ru .nil),⟨_,hT'',rfl,_,rfl⟩⟩,rfl,
      ⟨_,x,rfl,I.fresh,rfl,fun ys hy=>by rw [I.list_inj hy hq]; exact hx⟩,⟨⟨_,by simpa using he''⟩,hit'.at fun o x=>(hs''.2 it hei.symm).trans x⟩,fun b hb=>?_⟩
    have hbs:b < s.heap.objs.size:=by
      rcases List.mem_cons.mp hb with z | z
      · rw [z]; exact Heap.lt_size he
      · have z':b = it:=by simpa using z
        rw [z']
        obtain ⟨o,ho',_⟩:=hit
        exact Heap.lt_size ho'
    rw [upd_ne (Nat.ne_of_lt hbs)]
    exact (hf b hb).1
  done:=by
    intro X hP hw hK hc i pins s σ H E I hf st hg
    subst hP hw hK
    obtain ⟨xs,hq,hx⟩:=hg
    obtain ⟨its,rv,p,hz⟩:=I.list hq
    have hl:=rv.length
    obtain ⟨⟨old,he⟩,hit⟩:=st
    exact wpAny_pyNext_enum_end (I.ok.hd hc) he hit p.isList (by simp; omega) fun h' eb=>⟨rfl,I.turnedL (t':=s.toks) hf fun b u hb q=>eb b u (fun z=>hb (by simp [z])) q⟩
  self:=fun _ _ _ _ _ st h=>by obtain ⟨⟨old,he⟩,_⟩:=st; exact wpAny_pyIter_enum he h
def iEnum (K:PySem.W.Frag) (tl:TA):TI:=fun σ H R=>tl σ H fun vs H1=>match vs with
  | [.ref a]=>(∃ xs,SqL K H1 a xs) ∧ R (Ite K a) H1
  | _=>False
end
section
variable {X:Cx} {K:PySem.W.Frag}
theorem k_lenK (hK:X.K = K:=by rfl):CallR X (.builtin "len") (rLenU K):=hK ▸ k_len
theorem k_listK (hc:X.calm = true) (hK:X.K = K:=by rfl):CallR X (.type "list") (rListU K):=hK ▸ k_list hc
theorem u_ixK (hK:X.K = K:=by rfl):IxR X (rIxU K):=hK ▸ u_ix
theorem pg_tupK {es:List Expr} {k:Nat} {t:TGs} {n:Nat} {pos:Pos} (hc:X.calm = true) (h:PGs X es t)
    (hn:(assignEach es X.env).length = n:=by rfl) (hst:(assignEach es X.env).findIdx? (·.1) = none:=by rfl) (hK:X.K = K:=by rfl):PG X (.Tuple es k pos) (gTup K n t):=hK ▸ pg_tup hc h hn hst
def tML (r:V → List V → Hp → VK → Prop) (to:TE) (t:TA):TE:=fun σ H Q=>to σ H fun x H1=>match x with
  | .ref p=>∃ xs,H1 p = some (.lst xs) ∧ t σ H1 fun vs H2=>r x vs H2 Q
  | _=>False
variable {o e:Expr} {es:List Expr} {to:TE} {t:TA} {name:Str} {apos cpos:Pos} {T id:String} {r:V → List V → Hp → VK → Prop}
theorem pe_ml (pa:PlainAttrs "list") (slot:Slot "list" name id) (hty:typeOf (.builtin id) = pure (.type "method_descriptor")) (hm:MtR X id r) (ho:PE X o to) (ha:PA X (e :: es) t)
    (hbase:attributeBase o name X.env (eval o X.env) = eval o X.env:=by rfl)
    (hfew:((backTo cpos (starEach (e :: es) X.env)).all (fun x=>!x.1) && (backToKw cpos (keywordEach [] X.env)).all (fun x=>x.1.isSome)
      && decide ((e :: es).length + ([]:List Keyword).length + (if ([]:List Keyword).isEmpty then 0 else 1) < 30)) = true:=by rfl)
    (hline:(apos.endLine == cpos.line) = true:=by rfl) (hs:starEach (e :: es) X.env = (false,eval e X.env) :: starEach es X.env:=by rfl) (hplain:(backTo cpos (starEach es X.env)).any (·.1) = false:=by rfl) :
    PE X (.Call (.Attribute o name apos) (e :: es) [] cpos) (tML r to t):=by
  intro pins s σ H Q I h
  refine wpAny_Call_method_late hbase hfew hline rfl (thn (ho pins s σ H _ I h) fun v s1 ⟨x,H1,I1,r1,q1⟩=>?_)
  cases x with
  | ref p=>?_
  | _=>exact False.elim q1
  obtain ⟨xs,hx,q1⟩:=q1
  obtain ⟨h1,h2⟩:=tyV_is (T:="list") I1 r1 (.inl ⟨rfl,xs,SqL.of hx⟩)
  refine ⟨"list",id,pa,slot,hty,h1,h2,?_⟩
  have hA:=ha cpos pins s1 σ H1 _ I1 q1
  rw [hs] at hA ⊢
  refine Calls.callWith_builtin (by show (false || (backTo cpos (starEach es X.env)).any (·.1)) = false; rw [hplain] <;> rfl) (Calls.evalArgs_plain ?_)
  exact thn hA fun us s2 ⟨vs,H2,I2,r2,q2⟩=>hm pins s2 σ H2 (.ref p) vs v us Q I2 r1 r2 q2
end
end L2

namespace L2
open PySem PySem.Spec PyProof.Rows
theorem same_new {H:Hp} {p:Addr} (h:H p = none) (o:HO):Same H (upd H p o):=fun b u q=>by rw [upd_ne (ne_of_none q h)]; exact q
theorem Same.upd {H H':Hp} {p:Addr} (s:Same H H') (h:H p = none) (o:HO):Same H (upd H' p o):=fun b u q=>by rw [upd_ne (ne_of_none q h)]; exact s b u q
theorem repL_ints {H:Hp}:∀ (ns:List Int),RepL H (ns.map Dat.int) (ns.map V.int)
  | []=>rfl
  | n :: r=>⟨.int n,r.map V.int,rfl,rfl,repL_ints r⟩
theorem depL_ints:∀ (ns:List Int),Dat.depL (ns.map Dat.int) = 0
  | []=>rfl
  | n :: r=>by
    rw [List.map_cons,Dat.depL,depL_ints r]
    rfl
theorem eqL_ints:∀ (ns ms:List Int),Dat.eqL (ns.map Dat.int) (ms.map Dat.int) = decide (ns = ms)
  | [],[]=>by simp [Dat.eqL]
  | [],_ :: _=>by simp [Dat.eqL]
  | _ :: _,[]=>by simp [Dat.eqL]
  | n :: r,m :: q=>by
    rw [List.map_cons,List.map_cons,Dat.eqL,eqL_ints r q,Dat.eq]
    by_cases h:n = m
    · subst h; simp
    · simp [h]
theorem big {n:Nat} (h:n ≤ 100000):n < sizeLine:=by rw [sizeLine_eq]; omega
end L2

namespace L2
open PySem PySem.Spec PyProof.Rows
section
variable {X:Cx}
end
section
variable {X:Cx}
end
end L2

namespace Mi
open PySem
noncomputable section
inductive Sv where
  | i (n:Int) | s (x:Str)
inductive Sw where
  | non | bl (b:Bool) | int (i:Int) | str (x:Str)
inductive Dt where
  | non | bl (b:Bool) | int (i:Int) | str (x:Str) | lst (xs:List Dt) | tup (xs:List Dt) | scr (ns:List Int) | exc (c f:Str) (d:Dt) | ins (c:Str) (fs:List (Str × Sv)) | dct (kvs:List (Sum Int Str × Sw))
mutual
def Dt.dep:Dt → Nat
  | .lst xs=>Dt.depL xs + 1
  | .tup xs=>Dt.depL xs + 1
  | .scr _=>1000
  | .exc _ _ _=>1000
  | .ins _ _=>1000
  | .dct _=>1000
  | _=>0
def Dt.depL:List Dt → Nat
  | []=>0
  | x :: r=>max x.dep (Dt.depL r)
end
mutual
def Dt.eq:Dt → Dt → Bool
  | .non,.non=>true
  | .bl a,.bl b=>a == b
  | .bl a,.int b=>(if a then 1 else 0) == b
  | .int a,.bl b=>a == (if b then 1 else 0)
  | .int a,.int b=>a == b
  | .str a,.str b=>a == b
  | .lst xs,.lst ys=>Dt.eqL xs ys
  | .tup xs,.tup ys=>Dt.eqL xs ys
  | _,_=>false
def Dt.eqL:List Dt → List Dt → Bool
  | [],[]=>true
  | x :: r,y :: q=>Dt.eq x y && Dt.eqL r q
  | _,_=>false
end
structure Xn where
  cls:Str
  f:Str
  d:Dt
abbrev R (α:Type):=Option (Except Xn α)
def okR {α:Type} (a:α):R α:=some (.ok a)
def bindR {α β:Type} (x:R α) (f:α → R β):R β:=match x with
  | none=>none
  | some (.error e)=>some (.error e)
  | some (.ok a)=>f a
def optR {α:Type} (o:Option α):R α:=match o with
  | none=>none
  | some a=>okR a
@[simp] theorem bindR_ok {α β:Type} (a:α) (f:α → R β):bindR (okR a) f = f a:=rfl
@[simp] theorem bindR_none {α β:Type} (f:α → R β):bindR none f = none:=rfl
@[simp] theorem bindR_err {α β:Type} (e:Xn) (f:α → R β):bindR (some (.error e)) f = some (.error e):=rfl
@[simp] theorem optR_some {α:Type} (a:α):optR (some a) = okR a:=rfl
@[simp] theorem optR_none {α:Type}:optR (none:Option α) = none:=rfl
abbrev Rh:=List (Option Dt)
abbrev Sl:=Dt × Nat
abbrev Ro:=List (Option Sl)
abbrev EM:=Rh → R Dt
abbrev TM:=Rh → R Bool
abbrev AM:=Rh → R (List Dt)
abbrev FM:=List Dt → R Dt
def ixA (n:Nat) (i:Int):Option Nat:=if 0 ≤ i then (if i < n then some i.toNat else none) else if -(n:Int) ≤ i then some (i + n).toNat else none
def itA {α:Type} (xs:List α) (i:Int):Option α:=(ixA xs.length i).bind fun j=>xs[j]?
def addD:Dt → Dt → Option Dt
  | .int i,.int j=>some (.int (i + j))
  | .str i,.str j=>@ite _ (i.length + j.length ≤ 100000) (Classical.propDecidable _) (some (.str (i ++ j))) none
  | .lst xs,.lst ys=>@ite _ (xs.length + ys.length ≤ 100000) (Classical.propDecidable _) (some (.lst (xs ++ ys))) none
  | _,_=>none
def subD:Dt → Dt → Option Dt
  | .int i,.int j=>some (.int (i - j))
  | _,_=>none
def mulD:Dt → Dt → Option Dt
  | .int i,.int j=>@ite _ (((-18446744073709551616 < i ∧ i < 18446744073709551616) ∨ (-18446744073709551616 < j ∧ j < 18446744073709551616)) ∨ i.natAbs.log2 + j.natAbs.log2 ≤ 67108864) (Classical.propDecidable _) (some (.int (i * j))) none
  | _,_=>none
def divD:Dt → Dt → Option Dt
  | .int i,.int j=>@ite _ (0 < j ∧ j < 1000000000000000000000000) (Classical.propDecidable _) (some (.int (i / j))) none
  | _,_=>none
def modD:Dt → Dt → Option Dt
  | .int i,.int j=>if 0 < j then some (.int (i % j)) else none
  | _,_=>none
def powD:Dt → Dt → Option Dt
  | .int i,.int j=>@ite _ (0 ≤ j ∧ j ≤ 1000000 ∧ i.natAbs < 18446744073709551616) (Classical.propDecidable _) (some (.int (i ^ j.toNat))) none
  | _,_=>none
def negD:Dt → Option Dt
  | .int i=>some (.int (-i))
  | _=>none
def cmpD (p:Int → Int → Bool):Dt → Dt → Option Dt
  | .int i,.int j=>some (.bl (p i j))
  | _,_=>none
def eqD (x y:Dt):Option Dt:=if x.dep ≤ 40 ∧ y.dep ≤ 40 then some (.bl (Dt.eq x y)) else none
def neD (x y:Dt):Option Dt:=if x.dep ≤ 40 ∧ y.dep ≤ 40 then some (.bl (!Dt.eq x y)) else none
def isNonD:Dt → Bool
  | .non=>true
  | _=>false
def isD (x y:Dt):Option Dt:=match y with
  | .non=>some (.bl (isNonD x))
  | _=>none
def isntD (x y:Dt):Option Dt:=match y with
  | .non=>some (.bl (!isNonD x))
  | _=>none
def ixD:Dt → Dt → Option Dt
  | .lst xs,.int i=>itA xs i
  | .tup xs,.int i=>itA xs i
  | .scr ns,.int i=>(itA ns i).map .int
  | .str z,.int i=>@ite _ (z.length ≤ 100000) (Classical.propDecidable _) ((itA z.cps.toList i).map fun c=>.str ⟨#[c]⟩) none
  | _,_=>none
def lenD:List Dt → Option Dt
  | [.lst xs]=>some (.int xs.length)
  | [.tup xs]=>some (.int xs.length)
  | [.scr ns]=>some (.int ns.length)
  | [.str z]=>@ite _ (z.length ≤ 100000) (Classical.propDecidable _) (some (.int z.length)) none
  | _=>none
def listD:List Dt → Option Dt
  | [.lst xs]=>some (.lst xs)
  | [.tup xs]=>some (.lst xs)
  | [.scr ns]=>some (.lst (ns.map .int))
  | _=>none
def nums (lo:Int) (n:Nat):List Dt:=(List.range n).map fun i:Nat=>.int (lo + (i:Int))
def tyD:Dt → String
  | .non=>"NoneType"
  | .bl _=>"bool"
  | .int _=>"int"
  | .str _=>"str"
  | .lst _=>"list"
  | .tup _=>"tuple"
  | .scr _=>""
  | .exc _ _ _=>""
  | .ins _ _=>""
  | .dct _=>""
def isiD (n:String) (x:Dt):Option Dt:=if tyD x = "" then none else some (.bl (tyD x == n || (tyD x == "bool" && n == "int")))
def boolsD:List Dt → Option (List Bool)
  | []=>some []
  | .bl b :: r=>(boolsD r).map (b :: ·)
  | _ :: _=>none
def absD:List Dt → Option Dt
  | [.int i]=>some (.int (if i < 0 then -i else i))
  | _=>none
def hasD (x:Dt) (ys:List Dt):Option Bool:=if x.dep = 0 ∧ Dt.depL ys = 0 then some (ys.any fun y=>Dt.eq y x) else none
def inD (ng:Bool) (x y:Dt):Option Dt:=match y with
  | .lst ys=>(hasD x ys).map fun b=>.bl (if ng = true then !b else b)
  | .tup ys=>(hasD x ys).map fun b=>.bl (if ng = true then !b else b)
  | .str z=>match x with
    | .str y=>match y.cps.toList with
      | [c]=>some (.bl (if ng = true then !decide (c ∈ z.cps.toList) else decide (c ∈ z.cps.toList)))
      | _=>none
    | _=>none
  | _=>none
def cutIx (n d:Nat):Option Int → Nat
  | none=>d
  | some v=>if v < 0 then (v + (n:Int)).toNat else min v.toNat n
def cutA {α:Type} (xs:List α) (lo hi:Option Int):List α:=(xs.drop (cutIx xs.length 0 lo)).take (cutIx xs.length xs.length hi - cutIx xs.length 0 lo)
def slD:Dt → Option Int → Option Int → Option Dt
  | .lst xs,lo,hi=>some (.lst (cutA xs lo hi))
  | .str z,lo,hi=>@ite _ (z.length ≤ 100000) (Classical.propDecidable _) (some (.str ⟨(cutA z.cps.toList lo hi).toArray⟩)) none
  | _,_,_=>none
abbrev OM:=Rh → R (Option Int)
def oNo:OM:=fun _=>okR none
def oE (e:Rh → R Dt):OM:=fun ρ=>bindR (e ρ) fun d=>match d with
  | .int i=>okR (some i)
  | _=>none
def eSl (a:Rh → R Dt) (lo hi:OM):Rh → R Dt:=fun ρ=>bindR (a ρ) fun x=>bindR (lo ρ) fun l=>bindR (hi ρ) fun h=>optR (slD x l h)
def posC (c:Nat):List Nat → Option Nat
  | []=>none
  | x :: r=>if x = c then some 0 else (posC c r).map (· + 1)
def findD (x:Dt) (ys:List Dt):Option Dt:=match x,ys with
  | .str z,[.str y]=>match y.cps.toList with
    | [c]=>some (.int (match posC c z.cps.toList with | some i=>(i:Int) | none=>-1))
    | _=>none
  | _,_=>none
def countD (x:Dt) (ys:List Dt):Option Dt:=match x,ys with
  | .str z,[.str y]=>match y.cps.toList with
    | [c]=>some (.int (z.cps.toList.count c:Nat))
    | _=>none
  | _,_=>none
def strsD:List Dt → Option (List Str)
  | []=>some []
  | .str z :: r=>(strsD r).map (z :: ·)
  | _ :: _=>none
def joinD (x:Dt) (ys:List Dt):Option Dt:=match x,ys with
  | .str z,[.lst ds]=>match strsD ds with
    | some zs=>@ite _ ((zs.map (·.length)).sum + zs.length * z.length ≤ 100000) (Classical.propDecidable _) (some (.str (Str.join z zs))) none
    | none=>none
  | _,_=>none
def isStrD:Dt → Bool
  | .str _=>true
  | _=>false
def eMt (f:Dt → List Dt → Option Dt) (a:Rh → R Dt) (am:Rh → R (List Dt)):Rh → R Dt:=fun ρ=>bindR (a ρ) fun x=>if isStrD x = true then bindR (am ρ) fun xs=>optR (f x xs) else none
def signsD (z:Str):List Dt:=z.cps.toList.map fun c=>.str ⟨#[c]⟩
def eC (d:Dt):EM:=fun _=>okR d
def eV (i:Nat):EM:=fun ρ=>match ρ[i]? with
  | some (some d)=>okR d
  | _=>none
def eB (f:Dt → Dt → Option Dt) (a b:EM):EM:=fun ρ=>bindR (a ρ) fun x=>bindR (b ρ) fun y=>optR (f x y)
def eU (f:Dt → Option Dt) (a:EM):EM:=fun ρ=>bindR (a ρ) fun x=>optR (f x)
def eAnd (a b:EM):EM:=fun ρ=>bindR (a ρ) fun x=>match x with
  | .bl k=>if k = true then b ρ else okR (.bl false)
  | _=>none
def eOr (a b:EM):EM:=fun ρ=>bindR (a ρ) fun x=>match x with
  | .bl k=>if k = true then okR (.bl true) else b ρ
  | _=>none
def eNot (a:EM):EM:=fun ρ=>bindR (a ρ) fun x=>match x with
  | .bl k=>okR (.bl (!k))
  | _=>none
def eChain (p q:Dt → Dt → Option Dt) (a b c:EM):EM:=fun ρ=>bindR (a ρ) fun x=>bindR (b ρ) fun y=>bindR (optR (p x y)) fun z=>match z with
  | .bl k=>if k = true then bindR (c ρ) fun w=>optR (q y w) else okR (.bl false)
  | _=>none
def eIf (c:TM) (a b:EM):EM:=fun ρ=>bindR (c ρ) fun k=>if k = true then a ρ else b ρ
def aNil:AM:=fun _=>okR []
def aCons (e:EM) (r:AM):AM:=fun ρ=>bindR (e ρ) fun x=>bindR (r ρ) fun xs=>okR (x :: xs)
def eLst (a:AM):EM:=fun ρ=>bindR (a ρ) fun xs=>@ite _ (xs.length ≤ 100000) (Classical.propDecidable _) (okR (.lst xs)) none
def eTup (a:AM):EM:=fun ρ=>bindR (a ρ) fun xs=>@ite _ (xs.length ≤ 100000) (Classical.propDecidable _) (okR (.tup xs)) none
def eCall (f:FM) (a:AM):EM:=fun ρ=>bindR (a ρ) f
def eBi (f:List Dt → Option Dt) (a:AM):EM:=fun ρ=>bindR (a ρ) fun xs=>optR (f xs)
def eIsi (n:String) (a:EM):EM:=fun ρ=>bindR (a ρ) fun x=>optR (isiD n x)
def tB (a:EM):TM:=fun ρ=>bindR (a ρ) fun x=>match x with
  | .bl k=>okR k
  | _=>none
def tM (a:EM):TM:=fun ρ=>bindR (a ρ) fun x=>match x with
  | .bl k=>okR k
  | .int i=>okR (i != 0)
  | .non=>okR false
  | _=>none
def tAn (a b:TM):TM:=fun ρ=>bindR (a ρ) fun k=>if k = true then b ρ else okR false
def tOr (a b:TM):TM:=fun ρ=>bindR (a ρ) fun k=>if k = true then okR true else b ρ
def tNo (a:TM):TM:=fun ρ=>bindR (a ρ) fun k=>okR (!k)
def tYes:TM:=fun _=>okR true
abbrev IM:=Rh → R (List Dt)
def iSq (e:EM):IM:=fun ρ=>bindR (e ρ) fun d=>match d with
  | .lst xs=>okR xs
  | .tup xs=>okR xs
  | .scr ns=>okR (ns.map .int)
  | .str z=>okR (signsD z)
  | _=>none
def iR1 (e:AM):IM:=fun ρ=>bindR (e ρ) fun vs=>match vs with
  | [.int j]=>@ite _ (-4611686018427387904 ≤ j ∧ j < 4611686018427387904) (Classical.propDecidable _) (okR (nums 0 j.toNat)) none
  | _=>none
def enumD (n:Nat):List Dt → List Dt
  | []=>[]
  | x :: r=>.tup [.int n,x] :: enumD (n + 1) r
def iEn (e:AM):IM:=fun ρ=>bindR (e ρ) fun vs=>match vs with
  | [.lst xs]=>okR (enumD 0 xs)
  | _=>none
def zipD:List Dt → List Dt → List Dt
  | x :: r,y :: q=>.tup [x,y] :: zipD r q
  | _,_=>[]
def iZi (e:AM):IM:=fun ρ=>bindR (e ρ) fun vs=>match vs with
  | [.lst xs,.lst ys]=>okR (zipD xs ys)
  | _=>none
inductive Tg where
  | one (i:Nat)
  | tup (is:List Nat)
def bindT:Tg → Dt → Option (List (Nat × Dt))
  | .one i,d=>some [(i,d)]
  | .tup is,.tup ds=>if ds.length = is.length then some (is.zip ds) else none
  | .tup _,_=>none
def Tg.idx:Tg → List Nat
  | .one i=>[i]
  | .tup is=>is
def setsH:Rh → List (Nat × Dt) → Rh
  | ρ,[]=>ρ
  | ρ,(i,d) :: r=>setsH (ρ.set i (some d)) r
def setsO:Ro → List (Nat × Dt) → Ro
  | ρ,[]=>ρ
  | ρ,(i,d) :: r=>setsO (ρ.set i (some (d,0))) r
def compGo (ρ:Rh) (k:Nat) (tg:Tg) (c:TM) (e:EM):List Dt → List Dt → R (List Dt)
  | [],acc=>okR acc
  | d :: ds,acc=>match bindT tg d with
    | none=>none
    | some bs=>bindR (c (setsH (ρ ++ List.replicate k none) bs)) fun b=>if b = true then bindR (e (setsH (ρ ++ List.replicate k none) bs)) fun x=>compGo ρ k tg c e ds (acc ++ [x]) else compGo ρ k tg c e ds acc
def eComp (it:IM) (k:Nat) (tg:Tg) (c:TM) (e:EM):EM:=fun ρ=>bindR (it ρ) fun ds=>@ite _ (ds.length ≤ 100000 ∧ (tg.idx.all fun i=>decide (ρ.length ≤ i)) = true) (Classical.propDecidable _) (bindR (compGo ρ k tg c e ds []) fun es=>okR (.lst es)) none
inductive Out where
  | nx (ρ:Ro) | rt (d:Dt) | bk (ρ:Ro) | ct (ρ:Ro)
abbrev SM:=Ro → R Out
def full (ρ:Ro):Rh:=ρ.map fun o=>o.map Prod.fst
def frz (ρ:Ro):Rh:=ρ.map fun o=>match o with
  | some (d,n)=>if n = 0 ∨ d.dep = 0 then some d else none
  | none=>none
def frz1 (i:Nat) (ρ:Ro):Ro:=match ρ[i]? with
  | some (some (d,_))=>ρ.set i (some (d,0))
  | _=>ρ
def frzAt:List Nat → Ro → Ro
  | [],ρ=>ρ
  | i :: r,ρ=>frzAt r (frz1 i ρ)
def sNil:SM:=fun ρ=>okR (.nx ρ)
def sSeq (a b:SM):SM:=fun ρ=>bindR (a ρ) fun o=>match o with
  | .nx ρ'=>b ρ'
  | o=>okR o
def sNever:SM:=fun _=>none
def sBreak:SM:=fun ρ=>okR (.bk ρ)
def sCont:SM:=fun ρ=>okR (.ct ρ)
def sIf (c:TM) (a b:SM):SM:=fun ρ=>bindR (c (full ρ)) fun k=>if k = true then a ρ else b ρ
def sDrop (e:EM):SM:=fun ρ=>bindR (e (full ρ)) fun _=>okR (.nx ρ)
def sSet (i n:Nat) (vs:List Nat) (e:EM):SM:=fun ρ=>bindR (e (full ρ)) fun d =>
  if d.dep ≤ n then okR (.nx (ρ.set i (some (d,n)))) else bindR (e (frz (frzAt vs ρ))) fun d'=>okR (.nx ((frzAt vs ρ).set i (some (d',n))))
def sRet (L n:Nat) (vs:List Nat) (e:EM):SM:=fun ρ=>bindR (e (full ρ)) fun d =>
  if d.dep ≤ n ∧ d.dep ≤ L then okR (.rt d) else if n = L then bindR (e (frz (frzAt vs ρ))) fun d'=>okR (.rt d') else none
def sRetN:SM:=fun _=>okR (.rt .non)
def sRetV (L i:Nat):SM:=fun ρ=>match ρ[i]? with
  | some (some (d,k))=>if k = L ∨ L = 0 ∨ (d.dep ≤ k ∧ d.dep ≤ L ∧ k < 1000) then okR (.rt d) else none
  | _=>none
def sApp (i n:Nat) (e:EM):SM:=fun ρ=>match ρ[i]? with
  | some (some (.lst ds,k + 1))=>bindR (e (full ρ)) fun d=>@ite _ (ds.length ≤ 100000 ∧ d.dep ≤ n ∧ d.dep ≤ k) (Classical.propDecidable _) (okR (.nx (ρ.set i (some (.lst (ds ++ [d]),k + 1))))) none
  | _=>none
def sPop (j i:Nat) (e:EM):SM:=fun ρ=>match ρ[i]? with
  | some (some (.lst ds,k + 1))=>bindR (e (full ρ)) fun d=>match d with
    | .int z=>match ixA ds.length z with
      | some q=>match ds[q]? with
        | some c=>@ite _ (i ≠ j ∧ ds.length ≤ 1000000) (Classical.propDecidable _) (okR (.nx ((ρ.set i (some (.lst (ds.eraseIdx q),k + 1))).set j (some (c,k))))) none
        | none=>none
      | none=>none
    | _=>none
  | _=>none
def sAppPop (j i:Nat) (e:EM):SM:=fun ρ=>match ρ[j]?,ρ[i]? with
  | some (some (.lst es,l + 1)),some (some (.lst ds,k + 1))=>bindR (e (full ρ)) fun d=>match d with
    | .int z=>match ixA ds.length z with
      | some q=>match ds[q]? with
        | some c=>@ite _ (i ≠ j ∧ ds.length ≤ 1000000 ∧ es.length ≤ 100000 ∧ (k = l ∨ (c.dep ≤ k ∧ c.dep ≤ l ∧ k < 1000))) (Classical.propDecidable _) (okR (.nx ((ρ.set i (some (.lst (ds.eraseIdx q),k + 1))).set j (some (.lst (es ++ [c]),l + 1))))) none
        | none=>none
      | none=>none
    | _=>none
  | _,_=>none
def forGo (tg:Tg) (b:SM):List Dt → SM
  | [],ρ=>okR (.nx ρ)
  | d :: ds,ρ=>match bindT tg d with
    | none=>none
    | some bs=>bindR (b (setsO ρ bs)) fun o=>match o with
      | .nx ρ'=>forGo tg b ds ρ'
      | .ct ρ'=>forGo tg b ds ρ'
      | .bk ρ'=>okR (.nx ρ')
      | .rt d=>okR (.rt d)
def sFor (vs:List Nat) (it:IM) (tg:Tg) (b:SM):SM:=fun ρ=>bindR (it (frz (frzAt vs ρ))) fun ds=>forGo tg b ds (frzAt vs ρ)
def sForR (it:IM) (i:Nat) (b:SM):SM:=fun ρ=>bindR (it (full ρ)) fun ds=>forGo (.one i) b ds ρ
def whGo (c:TM) (b:SM):Nat → SM
  | 0,_=>none
  | m + 1,ρ=>bindR (c (full ρ)) fun k=>if k = true then bindR (b ρ) fun o=>match o with
      | .nx ρ'=>whGo c b m ρ'
      | .ct ρ'=>whGo c b m ρ'
      | .bk ρ'=>okR (.nx ρ')
      | .rt d=>okR (.rt d)
    else okR (.nx ρ)
def WNs:{ n:Nat // n = 1000000 }:=Classical.choice ⟨⟨1000000,rfl⟩⟩
def WN:Nat:=WNs.val
theorem WN_eq:WN = 1000000:=WNs.property
def sWhile (c:TM) (b:SM):SM:=fun ρ=>whGo c b WN ρ
def startO (n:Nat) (ds:List Dt):Ro:=ds.map (fun d=>some (d,0)) ++ List.replicate (n - ds.length) none
def endF:Out → R Dt
  | .nx _=>okR .non
  | .rt d=>okR d
  | _=>none
def runF (P n:Nat) (b:SM):FM:=fun ds=>if ds.length = P then bindR (b (startO n ds)) endF else none
end
end Mi

namespace L2
open PySem PySem.Spec PyProof.Rows
theorem cut_ix (n d:Nat) (o:Option Int) (hd:d ≤ n):HT.sIx n d o ≤ n:=by
  cases o with
  | none=>exact hd
  | some v =>
    show (if v < 0 then (v + (n:Int)).toNat else min v.toNat n) ≤ n
    split <;> omega
theorem indices_eq (lo hi:Option Int) (n:Nat):Builtin.Str.strSliceIndices lo hi 1 n = (List.range (HT.sIx n n hi - HT.sIx n 0 lo)).map fun k=>HT.sIx n 0 lo + k:=by
  unfold Builtin.Str.strSliceIndices sliceRange
  have c1:∀ (o:Option Int) (d:Nat),(match o with | none=>(d:Int) | some i=>(if (1:Int) > 0 then max 0 (min (if i < 0 then i + (n:Int) else i) n) else max (-1) (min (if i < 0 then i + (n:Int) else i) (n - 1)))) = ((HT.sIx n d o:Nat):Int):=by
    intro o d
    cases o with
    | none=>rfl
    | some v =>
      show _ = (((if v < 0 then (v + (n:Int)).toNat else min v.toNat n:Nat)):Int)
      dsimp only
      rw [if_pos (by decide)]
      split <;> omega
  dsimp only
  rw [if_pos (show (1:Int) > 0 by decide),if_pos (show (1:Int) > 0 by decide),if_pos (show (1:Int) > 0 by decide)]
  have e1:=c1 lo 0
  have e2:=c1 hi n
  rw [show ((0:Nat):Int) = 0 by rfl] at e1
  have h1:∀ a b:Int,a = ((HT.sIx n 0 lo:Nat):Int) → b = ((HT.sIx n n hi:Nat):Int) → (List.range ((if a < b then (b - a + 1 - 1) / 1 else 0).toNat)).map (fun k:Nat=>(a + 1 * (k:Int)).toNat) = (List.range (HT.sIx n n hi - HT.sIx n 0 lo)).map fun k=>HT.sIx n 0 lo + k:=by
    intro a b ha hb
    subst ha hb
    have e:(if ((HT.sIx n 0 lo:Nat):Int) < ((HT.sIx n n hi:Nat):Int) then (((HT.sIx n n hi:Nat):Int) - ((HT.sIx n 0 lo:Nat):Int) + 1 - 1) / 1 else 0).toNat = HT.sIx n n hi - HT.sIx n 0 lo:=by
      split
      · rw [Int.ediv_one]; omega
      · omega
    rw [e]
    refine List.map_congr_left fun k _=>?_
    omega
  exact h1 _ _ e1 e2
theorem picked_eq:∀ (xs:List Nat) (a k:Nat),a + k ≤ xs.length → ((List.range k).map fun j=>a + j).filterMap (xs[·]?) = (xs.drop a).take k:=by
  intro xs a k h
  induction k with
  | zero=>simp
  | succ k ih =>
    rw [List.range_succ,List.map_append,List.filterMap_append,ih (by omega),List.take_add_one]
    congr 1
    have:a + k < xs.length:=by omega
    simp [List.getElem?_drop,this]
theorem slice_eq (z:Str) (lo hi:Option Int):Txt.slice z lo hi = ⟨(Mi.cutA z.cps.toList lo hi).toArray⟩:=by
  obtain ⟨⟨xs⟩⟩:=z
  have hl:(⟨⟨xs⟩⟩:Str).length = xs.length:=rfl
  unfold Txt.slice
  rw [indices_eq,hl]
  have e0:∀ o d,Mi.cutIx xs.length d o = HT.sIx xs.length d o:=fun o d=>by cases o <;> rfl
  have hb:=cut_ix xs.length xs.length hi (Nat.le_refl _)
  have ha:=cut_ix xs.length 0 lo (Nat.zero_le _)
  have hc:Mi.cutA xs lo hi = (xs.drop (HT.sIx xs.length 0 lo)).take (HT.sIx xs.length xs.length hi - HT.sIx xs.length 0 lo):=by
    unfold Mi.cutA; rw [e0,e0]
  show _ = (⟨(Mi.cutA xs lo hi).toArray⟩:Str)
  rw [hc]
  split
  · rename_i h
    have h':HT.sIx xs.length xs.length hi - HT.sIx xs.length 0 lo = xs.length:=by simpa using h
    have a0:HT.sIx xs.length 0 lo = 0:=by omega
    rw [h',a0,List.drop_zero,List.take_length]
  · by_cases hle:HT.sIx xs.length 0 lo ≤ HT.sIx xs.length xs.length hi
    · have:=picked_eq xs (HT.sIx xs.length 0 lo) (HT.sIx xs.length xs.length hi - HT.sIx xs.length 0 lo) (by omega)
      rw [← this]
      simp
    · rw [show HT.sIx xs.length xs.length hi - HT.sIx xs.length 0 lo = 0 by omega]
      simp
section
variable {X:Cx}
def rSlU (K:PySem.W.Frag):V → Option Int → Option Int → Hp → VK → Prop:=fun x lo hi H Q=>match x with
  | .str z=>z.length ≤ sizeLine ∧ Q (.str ⟨(Mi.cutA z.cps.toList lo hi).toArray⟩) H
  | .ref a=>∃ xs,SqL K H a xs ∧ ∀ p,H p = none → Q (.ref p) (upd H p (.lst (cutV xs lo hi)))
  | _=>False
theorem part_of {v:Value} {o:Option Int} (h:IsPart v o):∃ l:Option (Int × Tok),v = partValue l ∧ l.map (·.1) = o:=by
  cases h with
  | none=>exact ⟨none,rfl,rfl⟩
  | int i t=>exact ⟨some (i,t),rfl,rfl⟩
theorem u_sl {K:PySem.W.Frag} (hK:X.K = K:=by rfl):SlR X (rSlU K):=by
  subst hK
  intro pins s σ H x v vl vu lo hi sl Q I rx hs pl pu h
  cases x with
  | ref a =>
    obtain ⟨xs,h1,h2⟩:=h
    exact sl_list pins s σ H _ v vl vu lo hi sl Q I rx hs pl pu ⟨a,xs,rfl,h1,h2⟩
  | str z =>
    obtain ⟨hz,q⟩:=h
    obtain ⟨t,rfl⟩:=rx
    obtain ⟨l,rfl,el⟩:=part_of pl
    obtain ⟨u,rfl,eu⟩:=part_of pu
    obtain ⟨o,g1,g2,g3⟩:=hs
    refine ⟨"str",_,F.slot_str_getitem.lookup,typeIs_str _ _ _,wpAny_getItem_str_slice (l:=l) (u:=u) (st:=none) ⟨o,g1,g2,g3⟩ rfl ?_⟩
    have hp:(if ((1:Int) == 1 && (Builtin.Str.strSliceIndices lo hi 1 z.length).length == z.length) = true then Made.val (.str z t) else Made.str ⟨((Builtin.Str.strSliceIndices lo hi 1 z.length).filterMap (z.cps[·]?)).toArray⟩).post (EP X pins σ Q) s:=by
      refine post_val_or_str ⟨Nat.le_trans (Txt.slice_le z lo hi) hz,fun t' k=>?_⟩
      refine ⟨.str (Txt.slice z lo hi),H,I.tok _,⟨_,rfl⟩,?_⟩
      rw [slice_eq]; exact q
    unfold sliceMade slicePicked
    rw [el,eu]
    exact hp
  | _=>exact False.elim h
end
def Its (z:Str):It:=⟨fun i _=>i < z.cps.size,fun i H x H'=>H' = H ∧ ∃ c,z.cps[i]? = some c ∧ x = .str ⟨#[c]⟩,fun i _=>z.cps.size ≤ i⟩
theorem turn_str {P:Program} {w:World} {K:PySem.W.Frag} {tg:Expr} (z:Str) (t:Tok) (it:Addr) (ty:String) (hty:ty = strIterType z):Turn P w K tg (Its z) [it] it (fun i h=>h.IsStrIter it ty z t i) where
  mem:=by simp
  obj:=fun i h st b hb=>by
    have e:b = it:=by simpa using hb
    subst e
    obtain ⟨o,e,c,d⟩:=st
    exact ⟨o,e,fun v z=>by rw [d] at z; cases z⟩
  keep:=fun i h h' st k=>by obtain ⟨o,ho,r⟩:=st; exact ⟨o,k it (by simp) o ho,r⟩
  item:=by
    intro X hP hw hK hc i pins s σ H E I hf st hg
    subst hP hw hK
    have hi:i < z.cps.size:=hg
    have hx:z.cps[i]? = some z.cps[i]:=Array.getElem?_eq_getElem hi
    obtain ⟨f0,f1,f2,f3,f4,f5⟩:=hf it (by simp)
    have fin:∀ h',h'.IsStrIter it ty z t (i + 1) → Heap.SameBut it s.heap h' → ∃ u,some (Value.str ⟨#[z.cps[i]]⟩ s.toks) = some u ∧ wpAny (model X.prog X.w) X.A (letOwnedTupleGo tg (.ref it) u) (fun _ s2=>∃ x H',Inv X pins σ H' s2 ∧ RelV x u ∧ (Its z).yld i H x H' ∧ s2.heap.IsStrIter it ty z t (i + 1) ∧ ∀ b ∈ [it],H' b = none) E { s with heap:=h',toks:=s.toks + 1 }:=by
      intro h' st' sb
      have I1:Inv X pins σ H { s with heap:=h',toks:=s.toks + 1 }:=I.turned (t':=s.toks + 1) (fun b o hb e=>(sb.2 b hb).trans e) f0 f1 f3 f4 f5
      obtain ⟨o,e,c,d⟩:=id st'
      refine ⟨_,rfl,go_of (s:={ s with heap:=h',toks:=s.toks + 1 }) e c d ?_ ⟨.str ⟨#[z.cps[i]]⟩,H,I1,⟨_,rfl⟩,⟨rfl,_,hx,rfl⟩,st',fun b hb=>(hf b hb).1⟩⟩
      rw [hty]; unfold strIterType; split <;> decide
    cases ha:z.cps.all (· < 128)
    · have e:ty = "str_iterator":=by rw [hty]; unfold strIterType; rw [ha]; rfl
      subst e
      exact wpAny_pyNext_wide_item st hx fun h' a b=>fin h' a b
    · have e:ty = "str_ascii_iterator":=by rw [hty]; unfold strIterType; rw [ha]; rfl
      subst e
      exact wpAny_pyNext_ascii_item st hx fun h' a b=>fin h' a b
  done:=by
    intro X hP hw hK hc i pins s σ H E I hf st hg
    subst hP hw hK
    have hx:z.cps[i]? = none:=Array.getElem?_eq_none hg
    obtain ⟨f0,f1,f2,f3,f4,f5⟩:=hf it (by simp)
    have fin:∀ h',Heap.ExtBut it s.heap h' → (none:Option Value) = none ∧ Inv X pins σ H { s with heap:=h' }:=fun h' eb=>⟨rfl,I.turned (t':=s.toks) (fun b o hb e=>eb b o hb e) f0 f1 f3 f4 f5⟩
    cases ha:z.cps.all (· < 128)
    · have e:ty = "str_iterator":=by rw [hty]; unfold strIterType; rw [ha]; rfl
      subst e
      exact wpAny_pyNext_wide_end (I.ok.hd hc) st hx fun h' a=>fin h' a
    · have e:ty = "str_ascii_iterator":=by rw [hty]; unfold strIterType; rw [ha]; rfl
      subst e
      exact wpAny_pyNext_ascii_end (I.ok.hd hc) st hx fun h' a=>fin h' a
  self:=fun A i s Q E st h=>by
    cases ha:z.cps.all (· < 128)
    · have e:ty = "str_iterator":=by rw [hty]; unfold strIterType; rw [ha]; rfl
      subst e
      exact wpAny_pyIter_striter_wide st h
    · have e:ty = "str_ascii_iterator":=by rw [hty]; unfold strIterType; rw [ha]; rfl
      subst e
      exact wpAny_pyIter_striter_ascii st h
section
variable {X:Cx}
def iAny (K:PySem.W.Frag) (tl:TE):TI:=fun σ H R=>tl σ H fun x H1=>match x with
  | .ref a=>(∃ xs,SqL K H1 a xs) ∧ R (Itl K a) H1 ∨ (∃ xs,SqT K H1 a xs) ∧ R (Itt K a) H1
  | .str z=>R (Its z) H1
  | _=>False
theorem pi_all {K:PySem.W.Frag} {tg l:Expr} {tl:TE} (hl:PE X l tl) (hK:X.K = K:=by rfl):PI X tg l (iAny K tl):=by
  subst hK
  intro pins s σ H R I h
  refine thn (hl pins s σ H _ I h) fun v s1 ⟨x,H1,I1,r1,q1⟩=>?_
  cases x with
  | ref a =>
    cases r1
    rcases q1 with ⟨⟨xs,hq⟩,q⟩ | ⟨⟨xs,hq⟩,q⟩
    · obtain ⟨its,rv,p,hz⟩:=I1.list hq
      refine wpAny_pyIter_list p.isList ?_
      refine ⟨s1.heap.objs.size,[s1.heap.objs.size],_,_,H1,rfl,I1.kept (t':=s1.toks) fun b o e=>Heap.get?_push_of_some _ e,turn_list a _,⟨_,Heap.get?_push_size _ rfl,rfl,rfl⟩,fun b hb=>?_,q⟩
      have e:b = s1.heap.objs.size:=by simpa using hb
      subst e
      exact I1.fpOk (Nat.le_refl _) (I1.hok.fresh (Nat.le_refl _))
    · obtain ⟨its,rv,p,hz⟩:=I1.tuple hq
      refine wpAny_pyIter_tuple (show s1.heap.IsTuple a its.toArray from p) ?_
      refine ⟨s1.heap.objs.size,[s1.heap.objs.size],_,_,H1,rfl,I1.kept (t':=s1.toks) fun b o e=>Heap.get?_push_of_some _ e,turn_tuple a _,⟨_,Heap.get?_push_size _ rfl,rfl,rfl⟩,fun b hb=>?_,q⟩
      have e:b = s1.heap.objs.size:=by simpa using hb
      subst e
      exact I1.fpOk (Nat.le_refl _) (I1.hok.fresh (Nat.le_refl _))
  | str z =>
    obtain ⟨t,rfl⟩:=r1
    refine wpAny_pyIter_strU ?_
    refine ⟨s1.heap.objs.size,[s1.heap.objs.size],_,_,H1,rfl,I1.kept (t':=s1.toks) fun b o e=>Heap.get?_push_of_some _ e,turn_str z t _ _ rfl,⟨_,Heap.get?_push_size _ rfl,rfl,rfl⟩,fun b hb=>?_,q1⟩
    have e:b = s1.heap.objs.size:=by simpa using hb
    subst e
    exact I1.fpOk (Nat.le_refl _) (I1.hok.fresh (Nat.le_refl _))
  | _=>exact False.elim q1
def findM:V → List V → Hp → VK → Prop:=fun x vs H Q=>match x,vs with
  | .str z,[.str y]=>Q (.int (Txt.find z y)) H
  | _,_=>False
theorem mt_findM:MtR X "str.find" findM:=by
  intro pins s σ H x vs v us Q I rx rv h
  match x,vs,rx,rv,h with
  | .str z,[.str y],rx,rv,h =>
    obtain ⟨t,rfl⟩:=rx
    obtain ⟨u,rfl,ru⟩:=vals1 rv
    obtain ⟨t2,rfl⟩:=ru
    exact SC.find ⟨.int _,H,I.tok _,⟨_,rfl⟩,h⟩
theorem strs_vals:∀ {ys:List Str} {us:List Value},Vals (ys.map V.str) us → StrsAre us ys
  | [],_,.nil=>.nil
  | y :: ys,_,.cons r t=>by obtain ⟨k,rfl⟩:=r; exact .cons y k (strs_vals t)
def joinM:V → List V → Hp → VK → Prop:=fun x vs H Q=>match x,vs with
  | .str z,[.ref a]=>∃ ys:List Str,H a = some (.lst (ys.map V.str)) ∧ (ys.map (·.length)).sum + ys.length * z.length ≤ 16777216 ∧ Q (.str (Str.join z ys)) H
  | _,_=>False
theorem mt_joinM:MtR X "str.join" joinM:=by
  intro pins s σ H x vs v us Q I rx rv h
  match x,vs,rx,rv,h with
  | .str z,[.ref a],rx,rv,h =>
    obtain ⟨t,rfl⟩:=rx
    obtain ⟨u,rfl,ru⟩:=vals1 rv
    cases ru
    obtain ⟨ys,h1,h2,h3⟩:=h
    obtain ⟨its,rv,hl⟩:=hok_list I.hok h1
    exact join_list hl (by simpa using strs_vals rv) h2 fun t' k=>⟨.str (Str.join z ys),H,I.tok _,⟨t',by rw [eq_of_beq (join_closes (ys:=ys) (rfl:z = z))]⟩,h3⟩
end
theorem sub_one (z:Str) (c i:Nat):(i + 1 ≤ z.length ∧ Builtin.Str.subAt z ⟨#[c]⟩ i = true) ↔ z.cps.toList[i]? = some c:=by
  obtain ⟨⟨xs⟩⟩:=z
  unfold Builtin.Str.subAt
  show (i + 1 ≤ xs.length ∧ ((⟨xs⟩:Array Nat).extract i (i + 1) == #[c]) = true) ↔ xs[i]? = some c
  constructor
  · rintro ⟨h1,h2⟩
    have h3:=congrArg Array.toList (eq_of_beq h2)
    simp at h3
    have hlt:i < xs.length:=by omega
    rw [List.getElem?_eq_getElem hlt]
    have h4:(List.take 1 (List.drop i xs)) = [c]:=by
      have:=h3
      simpa [List.extract_eq_drop_take] using this
    rw [List.drop_eq_getElem_cons hlt,List.take_succ_cons] at h4
    exact congrArg some (List.cons.inj h4).1
  · intro h
    have hlt:i < xs.length:=(List.getElem?_eq_some_iff.mp h).1
    have he:xs[i] = c:=(List.getElem?_eq_some_iff.mp h).2
    refine ⟨by omega,?_⟩
    have:(⟨xs⟩:Array Nat).extract i (i + 1) = #[c]:=by
      apply Array.toList_inj.mp
      simp [List.extract_eq_drop_take]
      rw [List.drop_eq_getElem_cons hlt]
      simp [he]
    rw [this]; simp
theorem pos_spec (c:Nat):∀ (xs:List Nat),(Mi.posC c xs = none ∧ ∀ i:Nat,xs[i]? ≠ some c) ∨ ∃ i:Nat,Mi.posC c xs = some i ∧ xs[i]? = some c ∧ ∀ j:Nat,j < i → xs[j]? ≠ some c
  | []=>.inl ⟨rfl,fun i=>by simp⟩
  | x :: r=>by
    rw [Mi.posC]
    by_cases h:x = c
    · rw [if_pos h]; exact .inr ⟨0,rfl,by simp [h],fun j hj=>by omega⟩
    · rw [if_neg h]
      rcases pos_spec c r with ⟨h1,h2⟩ | ⟨i,h1,h2,h3⟩
      · rw [h1]
        refine .inl ⟨rfl,fun i=>?_⟩
        cases i with
        | zero=>simpa using h
        | succ i=>simpa using h2 i
      · rw [h1]
        refine .inr ⟨i + 1,rfl,by simpa using h2,fun j hj=>?_⟩
        cases j with
        | zero=>simpa using h
        | succ j=>simpa using h3 j (by omega)
theorem occ_first (z y:Str) (hi:Nat):∀ (l:List Nat) (free:Nat),(∀ i ∈ l,free ≤ i) → l.Pairwise (· < ·) →
    ((forIn l ((#[]:Array Nat),free) (StrLaws.occBody z y hi 1)).run.fst.toList = [] ∧ ∀ i ∈ l,¬ (i + y.length ≤ hi ∧ Builtin.Str.subAt z y i = true)) ∨
    ∃ i,i ∈ l ∧ (forIn l ((#[]:Array Nat),free) (StrLaws.occBody z y hi 1)).run.fst.toList = [i] ∧ (i + y.length ≤ hi ∧ Builtin.Str.subAt z y i = true) ∧ ∀ j ∈ l,j < i → ¬ (j + y.length ≤ hi ∧ Builtin.Str.subAt z y j = true)
  | [],free,_,_=>.inl ⟨by simp,fun i h=>by simp at h⟩
  | a :: l,free,hf,hp=>by
    rw [List.forIn_cons]
    unfold StrLaws.occBody
    have ha:free ≤ a:=hf a List.mem_cons_self
    have hp':=List.pairwise_cons.mp hp
    by_cases hc:a + y.length ≤ hi ∧ Builtin.Str.subAt z y a = true
    · have c1:(((#[]:Array Nat),free).fst.size < 1 ∧ ((#[]:Array Nat),free).snd ≤ a) ∧ a + y.length ≤ hi:=⟨⟨by simp,ha⟩,hc.1⟩
      rw [if_pos ⟨c1,hc.2⟩]
      refine .inr ⟨a,List.mem_cons_self,?_,hc,fun j hj hlt=>?_⟩
      · have stay:∀ (l:List Nat) (st:Array Nat × Nat),st.fst.size = 1 → (forIn l st (StrLaws.occBody z y hi 1)).run.fst = st.fst:=by
          intro l
          induction l with
          | nil=>intro st _; rfl
          | cons b l ih =>
            intro st hs
            rw [List.forIn_cons]
            unfold StrLaws.occBody
            rw [if_neg (by rw [hs]; intro h; omega)]
            exact ih (st.fst,st.snd) hs
        have:=stay l (#[a],a + y.length) rfl
        show (forIn l (#[a],a + y.length) (StrLaws.occBody z y hi 1)).run.fst.toList = [a]
        rw [this]
      · rcases List.mem_cons.mp hj with rfl | hm
        · omega
        · have:=hp'.1 j hm; omega
    · have c2:¬ (((((#[]:Array Nat),free).fst.size < 1 ∧ ((#[]:Array Nat),free).snd ≤ a) ∧ a + y.length ≤ hi) ∧ Builtin.Str.subAt z y a = true):=fun h=>hc ⟨h.1.2,h.2⟩
      rw [if_neg c2]
      rcases occ_first z y hi l free (fun i hi'=>hf i (List.mem_cons_of_mem _ hi')) hp'.2 with ⟨h1,h2⟩ | ⟨i,h1,h2,h3,h4⟩
      · refine .inl ⟨h1,fun i hi'=>?_⟩
        rcases List.mem_cons.mp hi' with rfl | hm
        · exact hc
        · exact h2 i hm
      · refine .inr ⟨i,List.mem_cons_of_mem _ h1,h2,h3,fun j hj hlt=>?_⟩
        rcases List.mem_cons.mp hj with rfl | hm
        · exact hc
        · exact h4 j hm hlt
theorem occ_one (z:Str) (c:Nat):Builtin.Str.occurrences z ⟨#[c]⟩ 0 z.length 1 = (match Mi.posC c z.cps.toList with | some i=>[i] | none=>[]):=by
  rw [StrLaws.occ_eq]
  have hlen:(⟨#[c]⟩:Str).length = 1:=rfl
  have hzl:z.length = z.cps.toList.length:=by simp [Str.length]
  have hm:∀ i,i < z.length → i ∈ List.range' 0 (z.length + 1 - 0):=fun i hi=>by simp [List.mem_range']; omega
  rcases occ_first z ⟨#[c]⟩ z.length (List.range' 0 (z.length + 1 - 0)) 0 (fun _ _=>Nat.zero_le _) (List.pairwise_lt_range' (s:=0) (n:=z.length + 1 - 0) (step:=1) (by decide)) with ⟨h1,h2⟩ | ⟨i,h1,h2,h3,h4⟩
  · rw [h1]
    rcases pos_spec c z.cps.toList with ⟨g1,_⟩ | ⟨j,g1,g2,_⟩
    · rw [g1]
    · exact absurd ((sub_one z c j).mpr g2) (h2 j (hm j (by rw [hzl]; exact (List.getElem?_eq_some_iff.mp g2).1)))
  · rw [h2]
    have hi:=(sub_one z c i).mp h3
    rcases pos_spec c z.cps.toList with ⟨_,g2⟩ | ⟨j,g1,g2,g3⟩
    · exact absurd hi (g2 i)
    · rw [g1]
      have hj:j < z.length:=by rw [hzl]; exact (List.getElem?_eq_some_iff.mp g2).1
      rcases Nat.lt_trichotomy i j with q | q | q
      · exact absurd hi (g3 i q)
      · rw [q]
      · exact absurd ((sub_one z c j).mpr g2) (h4 j (hm j hj) q)
theorem find_one (z:Str) (c:Nat):Txt.find z ⟨#[c]⟩ = (match Mi.posC c z.cps.toList with | some i=>(i:Int) | none=>-1):=by
  unfold Txt.find
  rw [occ_one]
  cases Mi.posC c z.cps.toList <;> rfl
end L2

namespace L2
open PySem PySem.Spec PyProof.Rows
section
variable {X:Cx} {K:PySem.W.Frag}
end
end L2

namespace L2
open PySem PySem.Spec PyProof.Rows
def XO (e:Addr) (C:Value) (d:Option Addr) (h:Heap):Prop:=∃ oe vs,h.get? e = some oe ∧ oe.cls = C ∧ oe.dict = d ∧ oe.data = .fields vs ∧ 1 < vs.size
abbrev xo (e:Addr) (C:Value) (d:Option Addr):HO:=.ext (XO e C d)
def Fl (n:Nat) (e:Addr) (C:Value) (d:Option Addr) (mk:Value) (H:Hp) (h:Heap):Prop :=
  ∃ oe vs T oT ts,h.get? e = some oe ∧ oe.cls = C ∧ oe.dict = d ∧ oe.data = .fields vs ∧ vs[1]? = some (.ref T) ∧ n ≤ T ∧ T ≠ e ∧ H T = none ∧ h.get? T = some oT ∧ oT.data = .fields ts ∧ ts[3]? = some mk
def Fly (n:Nat) (e:Addr) (C:Value) (d:Option Addr) (H:Hp) (h:Heap):Prop :=
  H e = some (xo e C d) ∧ ((∃ oe vs,h.get? e = some oe ∧ oe.cls = C ∧ oe.dict = d ∧ oe.data = .fields vs ∧ vs[1]? = some .none) ∨ Fl n e C d .none H h)
structure Nt (n:Nat) (fs ch:List Addr) (e:Addr) (H:Hp) (h h':Heap):Prop where
  keep:∀ b o,h.get? b = some o → b ≠ e → b ∉ fs → b ∉ ch → h'.get? b = some o
  slot:∀ b o,h.get? b = some o → b ≠ e → b ∉ ch → ∃ sl,h'.get? b = some { o with slots:=sl }
  there:∀ b o,h.get? b = some o → ∃ o',h'.get? b = some o'
  old:∀ b ∈ ch,n ≤ b ∧ H b = none ∧ ∃ o vs,h.get? b = some o ∧ o.data = .fields vs
section
variable {M:Model} {A:Around} {E:Value → Shared → Prop} {s:Shared} {n:Nat} {e L:Addr} {C:Value} {d:Option Addr} {H:Hp} {base:Heap} {env:Env} {outer:List Env}
end
section
variable {X:Cx} {pins:List (Addr × Obj)} {σ:St} {H:Hp} {s:Shared} {n:Nat} {e:Addr} {C:Value} {d:Option Addr} {A:Around} {E:Value → Shared → Prop} {fs ch:List Addr} {h h':Heap}
end
def CXe (P:Program) (w:World):CXT:=fun outer H s E x s'=>∃ e C d H',x = .ref e ∧ s'.os = s.os ∧ AllBare s'.gens ∧ Un (frs outer) [] H H' s.heap s'.heap ∧ HOk P w H' s'.heap ∧ Fly s.heap.objs.size e C d H' s'.heap ∧ s.heap.objs.size ≤ s'.heap.objs.size ∧ E x d H'
section
variable {X:Cx} {pins:List (Addr × Obj)} {σ:St} {H:Hp} {s s':Shared} {E E':XK}
def XP (X:Cx) (pins:List (Addr × Obj)) (σ:St) (E:XK) (x:Value) (s':Shared):Prop:=∃ n e C d H',x = .ref e ∧ Inv X pins σ H' s' ∧ Fly n e C d H' s'.heap ∧ X.s₀.heap.objs.size ≤ n ∧ n ≤ s'.heap.objs.size ∧ (∀ p ∈ X.pn ++ pins,p.1 < n) ∧ E x d H'
end
section
variable {P:Program} {w:World} {K:PySem.W.Frag} {mg:Str → Option Value} {base:Heap} {N:List Str} {qual:Str} {scope:Scope} {f:Addr} {cd:Value} {A:Around} {outer:List Env} {s:Shared} {H:Hp} {E E':XK}
end
end L2

namespace L2
open PySem PySem.Spec PyProof.Rows
abbrev TEX:=St → Hp → VK → XK → Prop
abbrev TSX:=Ends → (St → XK) → St → Hp → Prop
section
variable {X:Cx} {k:Nat} {f:Addr} {fd:FuncData} {ps:List Str} {sp:Sp} {dvs:List V} {ds:List Value} {x:Str} {p pos:Pos} {e:Expr} {es:List Expr} {t:TA} {te:TE} {tx:TEX} {st:Stmt} {rest:List Stmt} {u u':TSX}
variable {pins:List (Addr × Obj)} {σ:St} {H:Hp} {s:Shared} {a:Addr}
end
end L2

namespace PySem.W
open PySem PySem.Calls PyProof.Rows Builtin Builtin.ObjectAttr
def excTail:List Value → Bool
  | .ref _ :: r=>excTail r
  | [.type a,.type b,.type c,.type d]=>a == "ValueError" && b == "Exception" && c == "BaseException" && d == "object"
  | _=>false
def excOver (K:Frag) (C:Addr):Bool:=(clsIn K C).any fun cd=>excTail cd.mro
section
variable {prog:Program} {w:World} {A:Around} {s:Shared} {K:Frag} {x C:Addr} {R:Result → Shared → Prop}
end
end PySem.W
namespace PySem.Xc
open PySem
section
variable {M:Model} {prog:Program} {w:World} {A:Around} {E:Value → Shared → Prop} {h:Heap} {g:Array GenState} {d:Drawn} {t:Nat} {os:OsState} {R:Result → Shared → Prop}
variable {nm q:Str} {C N:Addr} {bs bm bmB:List Value} {hdct:Bool} {sn:List Str} {sub:List Value} {ab:Bool} {col:Option Bool} {dd:Option Addr} {k0 k1 k2 k3 k5:Option Value} {B newId initId:String}
end
end PySem.Xc

namespace PySem.W
open PySem
def xcIn (K:Frag) (C:Addr):Bool:=match K.lookup C with
  | some ⟨.type "type",_,.cls cd,sl⟩=>(match cd.mro,sl.toList with
    | .ref C' :: bm,[_,_,_,_,some (.builtin n),_]=>C' == C && !cd.hasDel && excTail bm && n == "ValueError.__new__" && cd.hasDict
    | _,_=>false)
  | _=>false
end PySem.W
namespace PySem.Xc
open PySem
section
variable {M:Model} {A:Around} {E:Value → Shared → Prop} {s:Shared} {env:Env}
variable {nm q:Str} {C N:Addr} {bs bm:List Value} {hdct:Bool} {sn:List Str} {sub:List Value} {ab:Bool} {col:Option Bool} {dd:Option Addr} {k0 k1 k2 k3 k5:Option Value} {newId:String}
end
section
open PySem.W
variable {prog:Program} {w:World} {A:Around} {E:Value → Shared → Prop} {K:Frag} {x C:Addr} {ox:Obj} {od:Option Obj} {name:Str} {expr fill:Bool} {h:Heap} {g:Array GenState} {d:Drawn} {t:Nat} {os:OsState}
end
end PySem.Xc
namespace L2
open PySem PySem.Spec PyProof.Rows
def XN (e:Addr) (C:Value) (d:Option Addr) (h:Heap):Prop:=∃ t1,h.get? e = some { cls:=C,dict:=d,data:=.fields #[.ref t1,.none,.none,.none,.bool false,.none] }
abbrev xn (e:Addr) (C:Value) (d:Option Addr):HO:=.ext (XN e C d)
section
variable {X:Cx} {pins:List (Addr × Obj)} {σ:St} {H:Hp} {s:Shared} {k:Nat} {f C:Addr} {fd:FuncData} {ps:List Str} {sp:Sp} {x:Str} {p pos:Pos} {e:Expr} {es:List Expr} {t:TA} {te:TE}
structure XBase (K:PySem.W.Frag) (B:Addr):Prop where
  ga:PySem.W.specialIn K (.ref B) "__getattribute__" = some (some (.builtin "type.__getattribute__"))
  rd:PySem.W.readsIn K B (.type "type") = true
  fd:PySem.W.findCls K (.ref B) (.type "type") "__init__" = some (.val (.builtin "ValueError.__init__"))
  hi:PySem.W.handedIn (.builtin "ValueError.__init__") = true
structure XSet (K:PySem.W.Frag) (C:Addr) (f:Str):Prop where
  st:PySem.W.findIn K (.ref C) "__setattr__" = some (some (.builtin "object.__setattr__"))
  ov:PySem.W.excOver K C = true
  tk:PySem.W.takerIn K C f = some none
  hd:(PySem.W.clsIn K C).any (·.hasDict) = true
end
end L2

namespace PySem.Xc
open PySem PySem.W
section
variable {prog:Program} {w:World} {A:Around} {E:Value → Shared → Prop} {K:Frag} {x C:Addr} {ox:Obj} {od:Option Obj} {name:Str} {expr fill:Bool} {h:Heap} {g:Array GenState} {d:Drawn} {t:Nat} {os:OsState}
end
structure XIs (K:Frag) (C:Addr):Prop where
  xc:xcIn K C = true
  ga:findIn K (.ref C) "__getattribute__" = some (some (.builtin "BaseException.__getattribute__"))
  gg:findIn K (.ref C) "__getattr__" = some none
  hd:hasDictIn K C = true
  ca:findIn K (.ref C) "__class__" = some (some (.builtin "object.__class__"))
  cg:specialIn K (.builtin "object.__class__") "__get__" = some (some (.builtin "getset_descriptor.__get__"))
  ct:takesIn K (.builtin "object.__class__") = some true
  mo:mroIn K C (.type "object") = some true
end PySem.Xc
namespace L2
open PySem PySem.Spec PyProof.Rows
section
variable {X:Cx} {pins:List (Addr × Obj)} {σ:St} {H:Hp} {s:Shared} {C e d:Addr} {f:Str} {pos:Pos} {ta:TE}
def isX (H:Hp) (e C:Addr) (d:Option Addr):Prop:=H e = some (xn e (.ref C) d) ∨ H e = some (xo e (.ref C) d)
end
end L2

namespace L2
open PySem PySem.Spec PyProof.Rows
section
variable {P:Program} {w:World} {K:PySem.W.Frag} {mg:Str → Option Value} {base:Heap} {x:Str} {k:Nat} {ps N:List Str} {sp sp':Sp} {st:Stmt}
end
section
variable {X:Cx} {x:Str} {j k:Nat} {ps:List Str} {sp:Sp} {e:Expr} {es:List Expr} {t:TA} {p pos:Pos} {E:XK}
end
end L2

namespace Att
open PySem PySem.W PySem.Calls PyProof.Rows
theorem weights {ns:List Int} (h:WData.weightAll (ns.map WData.int) ≤ 2 ^ 20):∀ i ∈ ns,i.natAbs.log2 < 2 ^ 20:=by
  induction ns with
  | nil=>intro i hi; cases hi
  | cons n r ih =>
    rw [List.map_cons,WData.weightAll] at h
    intro i hi
    rcases List.mem_cons.mp hi with rfl | hi
    · rw [WData.weight] at h
      split at h
      · rename_i z
        have:i = 0:=beq_iff_eq.mp z
        subst this
        decide
      · omega
    · exact ih (by omega) i hi
theorem attach_callW {l:OpenLaw} {n:Nat} {q:Program} {loose:List Str} {XP:(Str → Option Value) → Heap → Prop} {YP:World → Heap → Prop} {d:DefRec}
    (hn:l.most = some n) (hdf:d.params.defaults = [])
    (call:∀ (w:World) (s₀ s₁:Shared) (mg mb:Str → Option Value) (fa:Addr) (o:Obj) (pm cd doc:Value) (a:Addr) (vs:List Value) (ns:List Int),
      Ground q loose [] XP w s₀ mg mb s₁.heap → YP w s₁.heap →
      s₁.heap.get? fa = some o → o.data = .func (docDef d.name d.params d.body d.scope pm cd doc) → s₁.heap.CodeRec cd d.name → mg d.name = some (.ref fa) →
      s₁.heap.get? a = some { cls:=.type "list",data:=.seq vs.toArray } → IntsAre vs ns → ns.length ≤ n → (∀ i ∈ ns,i.natAbs.log2 < 2 ^ 20) → s₁.gens = #[] →
      codeAny (model l.prog w) callerA (.call (.ref fa) ⟨[.ref a],[]⟩) (fun r s'=>r = .ok (.ret (.bool true)) ∧ OldK s₁.heap s'.heap ∧ s'.os = s₁.os ∧ AllBare s'.gens) s₁) :
    WalkO q loose XP YP l.row.toRowW d [] (fun f vs=>PySem.call f vs):=by
  intro w s₀ s₁ mg mb G Y fa o pm cd doc dV kV ho hd hcd hD hmg hg args vals as hpre hlay hrd hwl hlo
  obtain rfl:dV = .none:=Dflts.none hD hdf
  obtain rfl:kV = .none:=Dflts.noKw hD
  obtain ⟨a,vs,ns,rfl,rfl,hobj,hints,hlen⟩:=script_of hn hpre hwl
  have hw:∀ i ∈ ns,i.natAbs.log2 < 2 ^ 20:=by
    have hl:WData.layableAll [WData.list (ns.map WData.int)] = true:=hlay
    simp only [WData.layableAll,List.all_cons,List.all_nil,Bool.and_true,WData.layable,Bool.and_eq_true,decide_eq_true_eq] at hl
    exact weights (by have:=hl.2; rw [WData.weight] at this; exact this)
  refine enter_call (codeAny_mono (call w s₀ s₁ mg mb fa o pm cd doc a vs ns G Y ho (fd_plain hd) hcd hmg hobj hints hlen hw hg) fun r s' hq=>?_)
  obtain ⟨rfl,h2,h3,h4⟩:=hq
  exact ⟨.inl ⟨.bool true,.bool true,[],rfl,fun _=>rfl,.bool true,post_true l _,fun _=>⟨List.Pairwise.nil,fun _ hm=>(nomatch hm)⟩⟩,h2,h3,h4⟩
end Att
namespace L2
open PySem PySem.Spec PyProof.Rows
theorem walk_ofW {l:PySem.W.OpenLaw} {n k:Nat} {q:Program} {loose:List Str} {XP:(Str → Option Value) → Heap → Prop} {YP:World → Heap → Prop} {d:DefRec} {K:Params → PySem.W.Frag} {CX:World → CXT} {sp:World → Sp} {x:Str}
    (hn:l.most = some n) (hn2:n ≤ sizeLine) (hdf:d.params.defaults = []) (hr:Room k callerA)
    (hY:∀ (w:World) (h:Heap),YP w h → (K w.params).In h)
    (F:∀ (w:World) (mg:Str → Option Value) (fa:Addr) (h:Heap),(K w.params).In h → h.Ns mainGlobals mg → mg d.name = some (.ref fa) →
      ∃ fd:FuncData,(∀ (s:Shared) (u:Value),BindsTo s fd ⟨[u],[]⟩ [(x,u)]) ∧
        ∀ base:Heap,(K w.params).In base → base.Ns mainGlobals mg → FnOk l.prog w (K w.params) mg base (CX w) k fa fd [x] (sp w))
    (hsp:∀ (w:World) (H:Hp) (a:Addr) (ns:List Int),ns.length ≤ n → (∀ i ∈ ns,i.natAbs.log2 < 2 ^ 20) → Only H → SqL (K w.params) H a (ns.map V.int) → sp w [.ref a] H (fun v _=>v = .bl true) fun _ _ _=>False)
    (hCX:∀ (w:World) (H:Hp) (s:Shared) (e:Value) (s':Shared),CX w [] H s (fun _ _ _=>False) e s' → False) :
    PySem.W.WalkO q loose XP YP l.row.toRowW d [] (fun f vs=>PySem.call f vs):=by
  refine Att.attach_callW hn hdf fun w s₀ s₁ mg mb fa o pm cd doc a vs ns G Y ho hd hcd hmg hobj hints hlen hw hg=>?_
  have KX:=hY w _ Y
  obtain ⟨fd,hb,hF⟩:=F w mg fa _ KX G.T.g hmg
  exact law_call KX G.T.g G.T.b G.T.builtins G.T.nolimit hg hobj hints (Nat.le_trans hlen hn2) hr hF hb (fun H hO hS=>hsp w H a ns hlen hw hO hS) fun H e s'=>hCX w H s₁ e s'
def MulOk (i j:Int):Prop:=((-(2 ^ 64) < i ∧ i < 2 ^ 64) ∨ (-(2 ^ 64) < j ∧ j < 2 ^ 64)) ∨ i.natAbs.log2 + j.natAbs.log2 ≤ 67108864
theorem bits_le (i:Int):Builtin.Int.intBits i ≤ i.natAbs.log2 + 1:=by
  unfold Builtin.Int.intBits
  split <;> omega
theorem MulOk.ok {i j:Int} (h:MulOk i j):IntMulOk i j:=by
  rcases h with h | h
  · exact CMul.ok h
  · unfold IntMulOk
    have h1:=bits_le i
    have h2:=bits_le j
    have h3:Builtin.Int.intTooBig ((Builtin.Int.intBits i:Int) + (Builtin.Int.intBits j:Int)) = false:=by
      unfold Builtin.Int.intTooBig
      have:(bitsLine:Int) = 134217728:=by decide
      rw [this]
      simp only [gt_iff_lt,decide_eq_false_iff_not,Int.not_lt]
      omega
    rw [h3,Bool.and_false]
    exact Bool.false_ne_true
section
variable {X:Cx}
def rMulW:R2:=fun x y H Q=>match x,y with
  | .int i,.int j=>MulOk i j ∧ Q (.int (i * j)) H
  | _,_=>False
theorem op_mulW:OpR X (binaryOp .Mult) (rI MulOk fun i j=>.int (i * j)):=opI fun _ _ _ _ _ _ _ hc q=>mul_int q hc.ok
theorem u_mulW:OpR X (binaryOp .Mult) rMulW:=by
  intro pins s σ H x y v u Q I rx ry h
  cases x <;> cases y <;> first
    | exact op_mulW pins s σ H _ _ v u Q I rx ry ⟨_,_,rfl,rfl,h.1,h.2⟩
    | exact False.elim h
def rDivW:R2:=fun x y H Q=>match x,y with
  | .int i,.int j=>(0 < j ∧ j < 1000000000000000000000000) ∧ Q (.int (i / j)) H
  | _,_=>False
theorem log2_lt {n:Nat} (h:n < 1000000000000000000000000):n.log2 < 9000:=by
  by_cases z:n = 0
  · subst z; decide
  · have h2:n < 2 ^ 80:=by omega
    have:=(Nat.log2_lt z).mpr h2
    omega
theorem op_divW:OpR X (binaryOp .FloorDiv) (rI (fun _ j=>0 < j ∧ j < 1000000000000000000000000) fun i j=>.int (i / j)):=opI fun i j _ _ _ _ _ hc q=>by
  have h1:(0:Int) < j:=hc.1
  have h2:j < 1000000000000000000000000:=hc.2
  exact floordiv_int (by omega) (by rw [Int.fdiv_eq_ediv_of_nonneg i (by omega)]; exact q) (.inl (PyProof.noPylong_of_log2 (log2_lt (by omega))))
theorem u_divW:OpR X (binaryOp .FloorDiv) rDivW:=by
  intro pins s σ H x y v u Q I rx ry h
  cases x <;> cases y <;> first
    | exact op_divW pins s σ H _ _ v u Q I rx ry ⟨_,_,rfl,rfl,h.1,h.2⟩
    | exact False.elim h
end
end L2

namespace L3
open PySem PySem.Spec
open L2 hiding Rep RepL
open Mi (Dt Xn R okR bindR optR bindR_ok bindR_none bindR_err optR_some optR_none Rh Sl Ro EM TM AM FM IM SM Tg Out bindT setsH setsO full frz frz1 frzAt)
class Kc where
  K:PySem.W.Frag
variable [Kc]
def clK (K:PySem.W.Frag) (c:Str):Option Addr:=match PySem.W.nsIn K mainGlobals c with
  | some (some (.ref C))=>some C
  | _=>none
def SqR (K:PySem.W.Frag) (H:Hp) (a:Addr) (xs:List V):Prop:=SqL K H a xs ∨ SqT K H a xs
theorem seqT_mono {K:PySem.W.Frag} {H H':Hp} {a:Addr} {xs:List V} (e:Same H H') (h:SqT K H a xs):SqT K H' a xs:=by
  rcases h with (h | ⟨o,h⟩) | h
  · exact .inl (.inl (e _ _ h))
  · exact .inl (.inr ⟨o,e _ _ h⟩)
  · exact .inr h
theorem seqR_mono {K:PySem.W.Frag} {H H':Hp} {a:Addr} {xs:List V} (e:Same H H') (h:SqR K H a xs):SqR K H' a xs:=h.imp (fun z=>e.seq z) fun z=>seqT_mono e z
def svV:Mi.Sv → V
  | .i n=>.int n
  | .s x=>.str x
def swV:Mi.Sw → V
  | .non=>.non
  | .bl b=>.bl b
  | .int i=>.int i
  | .str x=>.str x
mutual
def Rep (H:Hp):Dt → V → Prop
  | .non,v=>v = .non
  | .bl b,v=>v = .bl b
  | .int i,v=>v = .int i
  | .str x,v=>v = .str x
  | .lst ds,v=>∃ a xs,v = .ref a ∧ H a = some (.lst xs) ∧ RepL H ds xs
  | .tup ds,v=>∃ a xs,v = .ref a ∧ H a = some (.tup xs) ∧ RepL H ds xs
  | .scr ns,v=>∃ a,v = .ref a ∧ SqR Kc.K H a (ns.map V.int)
  | .exc c f d,v=>∃ e C da,v = .ref e ∧ isX H e C da ∧ clK Kc.K c = some C ∧ ((da = none ∧ f = "") ∨ ∃ a gs w,da = some a ∧ H a = some (.xd gs) ∧ gs.lookup f = some w ∧ Rep H d w)
  | .ins c fs,v=>∃ a C dx,v = .ref a ∧ clK Kc.K c = some C ∧ H a = some (.ins C dx (fs.map fun p=>(p.1,svV p.2)))
  | .dct kvs,v=>∃ a,v = .ref a ∧ H a = some (.dK (kvs.map fun p=>(p.1,swV p.2)))
def RepL (H:Hp):List Dt → List V → Prop
  | [],xs=>xs = []
  | d :: r,xs=>∃ x q,xs = x :: q ∧ Rep H d x ∧ RepL H r q
end
mutual
theorem Rep.mono {H H':Hp} (s:Same H H'):∀ {d:Dt} {v:V},Rep H d v → Rep H' d v
  | .non,_,h=>h
  | .bl _,_,h=>h
  | .int _,_,h=>h
  | .str _,_,h=>h
  | .lst _,_,h=>by obtain ⟨a,xs,e,e',r⟩:=h; exact ⟨a,xs,e,s _ _ e',RepL.mono s r⟩
  | .tup _,_,h=>by obtain ⟨a,xs,e,e',r⟩:=h; exact ⟨a,xs,e,s _ _ e',RepL.mono s r⟩
  | .scr _,_,h=>by obtain ⟨a,e,e'⟩:=h; exact ⟨a,e,seqR_mono s e'⟩
  | .exc _ _ _,_,h=>by
    obtain ⟨a,C,da,e,e',hc,r⟩:=h
    refine ⟨a,C,da,e,e'.imp (fun z=>s _ _ z) fun z=>s _ _ z,hc,r.imp (fun z=>z) ?_⟩
    rintro ⟨b,gs,w,h1,h2,h3,h4⟩
    exact ⟨b,gs,w,h1,s _ _ h2,h3,Rep.mono s h4⟩
  | .ins _ _,_,h=>by obtain ⟨a,C,dx,e,hc,h1⟩:=h; exact ⟨a,C,dx,e,hc,s _ _ h1⟩
  | .dct _,_,h=>by obtain ⟨a,e,h1⟩:=h; exact ⟨a,e,s _ _ h1⟩
theorem RepL.mono {H H':Hp} (s:Same H H'):∀ {ds:List Dt} {xs:List V},RepL H ds xs → RepL H' ds xs
  | [],_,h=>h
  | _ :: _,_,h=>by obtain ⟨x,q,e,r,t⟩:=h; exact ⟨x,q,e,Rep.mono s r,RepL.mono s t⟩
end
theorem RepL.length {H:Hp}:∀ {ds:List Dt} {xs:List V},RepL H ds xs → xs.length = ds.length
  | [],_,h=>by cases h; rfl
  | _ :: _,_,h=>by obtain ⟨x,q,e,r,t⟩:=h; subst e; simp [RepL.length t]
mutual
def conv:Dt → L2.Dat
  | .non=>.non
  | .bl b=>.bl b
  | .int i=>.int i
  | .str x=>.str x
  | .lst ds=>.lst (convL ds)
  | .tup ds=>.tup (convL ds)
  | .scr _=>.non
  | .exc _ _ _=>.non
  | .ins _ _=>.non
  | .dct _=>.non
def convL:List Dt → List L2.Dat
  | []=>[]
  | d :: r=>conv d :: convL r
end
mutual
theorem conv_dep:∀ {d:Dt},d.dep ≤ 40 → (conv d).dep ≤ d.dep
  | .non,_=>Nat.le_refl _
  | .bl _,_=>Nat.le_refl _
  | .int _,_=>Nat.le_refl _
  | .str _,_=>Nat.le_refl _
  | .lst ds,h=>by rw [Dt.dep] at h ⊢; rw [conv,L2.Dat.dep]; have:=conv_depL (ds:=ds) (by omega); omega
  | .tup ds,h=>by rw [Dt.dep] at h ⊢; rw [conv,L2.Dat.dep]; have:=conv_depL (ds:=ds) (by omega); omega
  | .scr _,h=>by rw [Dt.dep] at h; omega
  | .exc _ _ _,h=>by rw [Dt.dep] at h; omega
  | .ins _ _,h=>by rw [Dt.dep] at h; omega
  | .dct _,h=>by rw [Dt.dep] at h; omega
theorem conv_depL:∀ {ds:List Dt},Dt.depL ds ≤ 40 → L2.Dat.depL (convL ds) ≤ Dt.depL ds
  | [],_=>Nat.le_refl _
  | d :: r,h=>by
    rw [Dt.depL] at h ⊢
    rw [convL,L2.Dat.depL]
    have h1:=conv_dep (d:=d) (by omega)
    have h2:=conv_depL (ds:=r) (by omega)
    omega
end
mutual
theorem conv_rep {H:Hp}:∀ {d:Dt} {v:V},d.dep ≤ 40 → Rep H d v → L2.Rep H (conv d) v
  | .non,_,_,h=>h
  | .bl _,_,_,h=>h
  | .int _,_,_,h=>h
  | .str _,_,_,h=>h
  | .lst ds,_,hd,h=>by obtain ⟨a,xs,e,e',r⟩:=h; exact ⟨a,xs,e,e',conv_repL (by rw [Dt.dep] at hd; omega) r⟩
  | .tup ds,_,hd,h=>by obtain ⟨a,xs,e,e',r⟩:=h; exact ⟨a,xs,e,e',conv_repL (by rw [Dt.dep] at hd; omega) r⟩
  | .scr _,_,h,_=>by rw [Dt.dep] at h; omega
  | .exc _ _ _,_,h,_=>by rw [Dt.dep] at h; omega
  | .ins _ _,_,h,_=>by rw [Dt.dep] at h; omega
  | .dct _,_,h,_=>by rw [Dt.dep] at h; omega
theorem conv_repL {H:Hp}:∀ {ds:List Dt} {xs:List V},Dt.depL ds ≤ 40 → RepL H ds xs → L2.RepL H (convL ds) xs
  | [],_,_,h=>h
  | d :: r,_,hd,h=>by
    rw [Dt.depL] at hd
    obtain ⟨x,q,e,a,b⟩:=h
    exact ⟨x,q,e,conv_rep (by omega) a,conv_repL (by omega) b⟩
end
mutual
theorem conv_eq:∀ {d e:Dt},d.dep ≤ 40 → e.dep ≤ 40 → L2.Dat.eq (conv d) (conv e) = Dt.eq d e
  | .scr _,_,h,_=>by rw [Dt.dep] at h; omega
  | .exc _ _ _,_,h,_=>by rw [Dt.dep] at h; omega
  | .ins _ _,_,h,_=>by rw [Dt.dep] at h; omega
  | .dct _,_,h,_=>by rw [Dt.dep] at h; omega
  | .lst ds,e,h,h'=>by
    rw [Dt.dep] at h
    cases e with
    | lst es=>rw [Dt.dep] at h'; rw [conv,conv,L2.Dat.eq,Dt.eq]; exact conv_eqL (by omega) (by omega)
    | scr _=>rw [Dt.dep] at h'; omega
    | exc _ _ _=>rw [Dt.dep] at h'; omega
    | ins _ _=>rw [Dt.dep] at h'; omega
    | dct _=>rw [Dt.dep] at h'; omega
    | _=>simp [conv,L2.Dat.eq,Dt.eq]
  | .tup ds,e,h,h'=>by
    rw [Dt.dep] at h
    cases e with
    | tup es=>rw [Dt.dep] at h'; rw [conv,conv,L2.Dat.eq,Dt.eq]; exact conv_eqL (by omega) (by omega)
    | scr _=>rw [Dt.dep] at h'; omega
    | exc _ _ _=>rw [Dt.dep] at h'; omega
    | ins _ _=>rw [Dt.dep] at h'; omega
    | dct _=>rw [Dt.dep] at h'; omega
    | _=>simp [conv,L2.Dat.eq,Dt.eq]
  | .non,e,_,h'=>by
    cases e with
    | scr _=>rw [Dt.dep] at h'; omega
    | exc _ _ _=>rw [Dt.dep] at h'; omega
    | ins _ _=>rw [Dt.dep] at h'; omega
    | dct _=>rw [Dt.dep] at h'; omega
    | _=>simp [conv,L2.Dat.eq,Dt.eq]
  | .bl _,e,_,h'=>by
    cases e with
    | scr _=>rw [Dt.dep] at h'; omega
    | exc _ _ _=>rw [Dt.dep] at h'; omega
    | ins _ _=>rw [Dt.dep] at h'; omega
    | dct _=>rw [Dt.dep] at h'; omega
    | _=>simp [conv,L2.Dat.eq,Dt.eq]
  | .int _,e,_,h'=>by
    cases e with
    | scr _=>rw [Dt.dep] at h'; omega
    | exc _ _ _=>rw [Dt.dep] at h'; omega
    | ins _ _=>rw [Dt.dep] at h'; omega
    | dct _=>rw [Dt.dep] at h'; omega
    | _=>simp [conv,L2.Dat.eq,Dt.eq]
  | .str _,e,_,h'=>by
    cases e with
    | scr _=>rw [Dt.dep] at h'; omega
    | exc _ _ _=>rw [Dt.dep] at h'; omega
    | ins _ _=>rw [Dt.dep] at h'; omega
    | dct _=>rw [Dt.dep] at h'; omega
    | _=>simp [conv,L2.Dat.eq,Dt.eq]
theorem conv_eqL:∀ {ds es:List Dt},Dt.depL ds ≤ 40 → Dt.depL es ≤ 40 → L2.Dat.eqL (convL ds) (convL es) = Dt.eqL ds es
  | [],[],_,_=>by simp [convL,L2.Dat.eqL,Dt.eqL]
  | [],_ :: _,_,_=>by simp [convL,L2.Dat.eqL,Dt.eqL]
  | _ :: _,[],_,_=>by simp [convL,L2.Dat.eqL,Dt.eqL]
  | d :: r,e :: t,h,h'=>by
    rw [Dt.depL] at h h'
    rw [convL,convL,L2.Dat.eqL,Dt.eqL,conv_eq (by omega) (by omega),conv_eqL (by omega) (by omega)]
end
theorem repL_at {G:Hp}:∀ {ds:List Dt} {xs:List V} {q:Nat} {d:Dt} {x:V},RepL G ds xs → ds[q]? = some d → xs[q]? = some x → Rep G d x
  | [],_,_,_,_,_,h,_=>by simp at h
  | d :: r,xs,0,e,y,h,h1,h2=>by
    obtain ⟨x,t,rfl,a,b⟩:=h
    simp at h1 h2; subst h1; subst h2; exact a
  | d :: r,xs,q + 1,e,y,h,h1,h2=>by
    obtain ⟨x,t,rfl,a,b⟩:=h
    exact repL_at b (by simpa using h1) (by simpa using h2)
theorem repL_of {G:Hp}:∀ {ds:List Dt} {xs:List V},xs.length = ds.length → (∀ (q:Nat) (d:Dt) (x:V),ds[q]? = some d → xs[q]? = some x → Rep G d x) → RepL G ds xs
  | [],[],_,_=>rfl
  | [],_ :: _,h,_=>by simp at h
  | _ :: _,[],h,_=>by simp at h
  | d :: r,x :: t,h,k=>⟨x,t,rfl,k 0 d x rfl rfl,repL_of (by simpa using h) fun q e y h1 h2=>k (q + 1) e y (by simpa using h1) (by simpa using h2)⟩
theorem depL_le {n:Nat}:∀ {ds:List Dt},Dt.depL ds ≤ n → ∀ {q:Nat} {d:Dt},ds[q]? = some d → d.dep ≤ n
  | [],_,_,_,h=>by simp at h
  | e :: r,h,0,d,h1=>by simp at h1; subst h1; rw [Dt.depL] at h; omega
  | e :: r,h,q + 1,d,h1=>by rw [Dt.depL] at h; exact depL_le (ds:=r) (by omega) (q:=q) (by simpa using h1)
theorem Rep.scalar {G G2:Hp} {d:Dt} {v:V} (h:Rep G d v) (hd:d.dep = 0):Rep G2 d v:=by
  cases d with
  | lst ds=>rw [Dt.dep] at hd; omega
  | tup ds=>rw [Dt.dep] at hd; omega
  | scr ns=>rw [Dt.dep] at hd; omega
  | exc _ _ _=>rw [Dt.dep] at hd; omega
  | ins _ _=>rw [Dt.dep] at hd; omega
  | dct _=>rw [Dt.dep] at hd; omega
  | _=>exact h
structure Kids (P:(Addr → Prop) → Dt → V → Prop) (S:Addr → Prop) (a:Addr) (ds:List Dt) (xs:List V) (T:Nat → Addr → Prop):Prop where
  len:xs.length = ds.length
  own:∀ (q:Nat) (d:Dt) (x:V),ds[q]? = some d → xs[q]? = some x → P (T q) d x
  top:S a
  out:∀ q,¬ T q a
  dis:∀ q r b,T q b → T r b → q = r
  sub:∀ q b,T q b → S b
def Own (G H:Hp):Nat → (Addr → Prop) → Dt → V → Prop
  | 0,_,d,v=>Rep G d v
  | n + 1,S,d,v=>match d with
    | .lst ds=>∃ a xs T,v = .ref a ∧ H a = some (.lst xs) ∧ Kids (Own G H n) S a ds xs T
    | .tup ds=>∃ a xs T,v = .ref a ∧ H a = some (.tup xs) ∧ Kids (Own G H n) S a ds xs T
    | .dct kvs=>∃ a,v = .ref a ∧ H a = some (.dK (kvs.map fun p=>(p.1,swV p.2))) ∧ S a
    | d=>Rep G d v
theorem Kids.imp {P P':(Addr → Prop) → Dt → V → Prop} {S S':Addr → Prop} {a:Addr} {ds:List Dt} {xs:List V} {T:Nat → Addr → Prop} (k:Kids P S a ds xs T)
    (h:∀ q d x,ds[q]? = some d → P (T q) d x → P' (T q) d x) (hs:∀ b,S b → S' b):Kids P' S' a ds xs T :=
  ⟨k.len,fun q d x h1 h2=>h q d x h1 (k.own q d x h1 h2),hs _ k.top,k.out,k.dis,fun q b t=>hs _ (k.sub q b t)⟩
theorem Own.mono {G G' H H':Hp} (sG:Same G G') (sH:Same H H'):∀ {n:Nat} {S:Addr → Prop} {d:Dt} {v:V},Own G H n S d v → Own G' H' n S d v
  | 0,S,d,v,h=>Rep.mono sG h
  | n + 1,S,d,v,h=>by
    cases d with
    | lst ds=>obtain ⟨a,xs,T,e,ha,k⟩:=h; exact ⟨a,xs,T,e,sH _ _ ha,k.imp (fun _ _ _ _ p=>Own.mono sG sH p) fun _ z=>z⟩
    | tup ds=>obtain ⟨a,xs,T,e,ha,k⟩:=h; exact ⟨a,xs,T,e,sH _ _ ha,k.imp (fun _ _ _ _ p=>Own.mono sG sH p) fun _ z=>z⟩
    | dct kvs=>obtain ⟨a,e,ha,hs⟩:=h; exact ⟨a,e,sH _ _ ha,hs⟩
    | _=>exact Rep.mono sG h
theorem Own.sub {G H:Hp} {n:Nat} {S S':Addr → Prop} {d:Dt} {v:V} (h:Own G H n S d v) (hs:∀ b,S b → S' b):Own G H n S' d v:=by
  cases n with
  | zero=>exact h
  | succ n =>
    cases d with
    | lst ds=>obtain ⟨a,xs,T,e,ha,k⟩:=h; exact ⟨a,xs,T,e,ha,k.imp (fun _ _ _ _ p=>p) hs⟩
    | tup ds=>obtain ⟨a,xs,T,e,ha,k⟩:=h; exact ⟨a,xs,T,e,ha,k.imp (fun _ _ _ _ p=>p) hs⟩
    | dct kvs=>obtain ⟨a,e,ha,h2⟩:=h; exact ⟨a,e,ha,hs _ h2⟩
    | _=>exact h
theorem Own.rep {G H J:Hp} (sG:Same G J):∀ {n:Nat} {S:Addr → Prop} {d:Dt} {v:V},Own G H n S d v → (∀ a o,S a → H a = some o → J a = some o) → Rep J d v
  | 0,S,d,v,h,_=>Rep.mono sG h
  | n + 1,S,d,v,h,hj=>by
    cases d with
    | lst ds=>obtain ⟨a,xs,T,e,ha,k⟩:=h; exact ⟨a,xs,e,hj _ _ k.top ha,repL_of k.len fun q d x h1 h2=>Own.rep sG (k.own q d x h1 h2) fun b o t hb=>hj b o (k.sub q b t) hb⟩
    | tup ds=>obtain ⟨a,xs,T,e,ha,k⟩:=h; exact ⟨a,xs,e,hj _ _ k.top ha,repL_of k.len fun q d x h1 h2=>Own.rep sG (k.own q d x h1 h2) fun b o t hb=>hj b o (k.sub q b t) hb⟩
    | dct kvs=>obtain ⟨a,e,ha,hs⟩:=h; exact ⟨a,e,hj _ _ hs ha⟩
    | _=>exact Rep.mono sG h
theorem Own.at {G G2 H:Hp}:∀ {n k:Nat} {S:Addr → Prop} {d:Dt} {v:V},Own G H n S d v → d.dep ≤ n → d.dep ≤ k → n < 1000 → Own G2 H k S d v
  | n,k,S,d,v,h,hn,hk,hz=>by
    cases d with
    | lst ds =>
      rw [Dt.dep] at hn hk
      cases n with
      | zero=>omega
      | succ n =>
        cases k with
        | zero=>omega
        | succ k =>
          obtain ⟨a,xs,T,e,ha,kd⟩:=h
          refine ⟨a,xs,T,e,ha,kd.imp (fun q d x h1 p=>?_) fun _ z=>z⟩
          exact Own.at p (depL_le (by omega) h1) (depL_le (by omega) h1) (by omega)
    | tup ds =>
      rw [Dt.dep] at hn hk
      cases n with
      | zero=>omega
      | succ n =>
        cases k with
        | zero=>omega
        | succ k =>
          obtain ⟨a,xs,T,e,ha,kd⟩:=h
          refine ⟨a,xs,T,e,ha,kd.imp (fun q d x h1 p=>?_) fun _ z=>z⟩
          exact Own.at p (depL_le (by omega) h1) (depL_le (by omega) h1) (by omega)
    | non=>cases n <;> cases k <;> exact h
    | bl b=>cases n <;> cases k <;> exact h
    | int i=>cases n <;> cases k <;> exact h
    | str x=>cases n <;> cases k <;> exact h
    | scr ns=>rw [Dt.dep] at hn; omega
    | exc _ _ _=>rw [Dt.dep] at hn; omega
    | ins _ _=>rw [Dt.dep] at hn; omega
    | dct _=>rw [Dt.dep] at hn; omega
termination_by n=>n
theorem Own.scalar {G H G2 H2:Hp} {n k:Nat} {S S2:Addr → Prop} {d:Dt} {v:V} (h:Own G H n S d v) (hd:d.dep = 0):Own G2 H2 k S2 d v:=by
  cases d with
  | lst ds=>rw [Dt.dep] at hd; omega
  | tup ds=>rw [Dt.dep] at hd; omega
  | non=>cases n <;> cases k <;> exact h
  | bl b=>cases n <;> cases k <;> exact h
  | int i=>cases n <;> cases k <;> exact h
  | str x=>cases n <;> cases k <;> exact h
  | scr ns=>rw [Dt.dep] at hd; omega
  | exc _ _ _=>rw [Dt.dep] at hd; omega
  | ins _ _=>rw [Dt.dep] at hd; omega
  | dct _=>rw [Dt.dep] at hd; omega
theorem own_of {G H:Hp} {n:Nat} {S:Addr → Prop} {d:Dt} {v:V} (h:Rep G d v) (hd:d.dep = 0):Own G H n S d v:=Own.scalar (n:=0) (G:=G) (H:=H) (S:=S) h hd
theorem Own.upd {G H:Hp} {p:Addr} {o:HO}:∀ {n:Nat} {S:Addr → Prop} {d:Dt} {v:V},Own G H n S d v → ¬ S p → Own G (upd H p o) n S d v
  | 0,S,d,v,h,_=>h
  | n + 1,S,d,v,h,hp=>by
    cases d with
    | lst ds =>
      obtain ⟨a,xs,T,e,ha,k⟩:=h
      have hap:a ≠ p:=fun z=>hp (z ▸ k.top)
      exact ⟨a,xs,T,e,(upd_ne hap).trans ha,k.imp (fun q _ _ _ w=>Own.upd w fun z=>hp (k.sub q _ z)) fun _ z=>z⟩
    | tup ds =>
      obtain ⟨a,xs,T,e,ha,k⟩:=h
      have hap:a ≠ p:=fun z=>hp (z ▸ k.top)
      exact ⟨a,xs,T,e,(upd_ne hap).trans ha,k.imp (fun q _ _ _ w=>Own.upd w fun z=>hp (k.sub q _ z)) fun _ z=>z⟩
    | dct kvs =>
      obtain ⟨a,e,ha,hs⟩:=h
      have hap:a ≠ p:=fun z=>hp (z ▸ hs)
      exact ⟨a,e,(upd_ne hap).trans ha,hs⟩
    | _=>exact h
structure Ext (G H G' H':Hp):Prop where
  g:Same G G'
  h:Same H H'
  in':Same G' H'
  old:∀ b,H b ≠ none → G' b = G b
theorem Ext.refl {G H:Hp} (s:Same G H):Ext G H G H:=⟨Same.refl _,Same.refl _,s,fun _ _=>rfl⟩
theorem _root_.L2.Same.some {H H':Hp} (s:Same H H') {b:Addr} (h:H b ≠ Option.none):H' b ≠ Option.none:=by
  cases e:H b with
  | none=>exact absurd e h
  | some o=>rw [s _ _ e]; simp
theorem Ext.trans {G H G1 H1 G2 H2:Hp} (a:Ext G H G1 H1) (b:Ext G1 H1 G2 H2):Ext G H G2 H2 :=
  ⟨a.g.trans b.g,a.h.trans b.h,b.in',fun c hc=>(b.old c (a.h.some hc)).trans (a.old c hc)⟩
structure Fr (G H G' H':Hp) (S:Addr → Prop):Prop where
  ext:Ext G H G' H'
  new:∀ a,S a → H a = none ∧ G' a = none ∧ H' a ≠ none
open Classical in
noncomputable def over (G H:Hp) (S:Addr → Prop):Hp:=fun b=>if S b then H b else G b
theorem over_in {G H:Hp} {S:Addr → Prop} {a:Addr} (h:S a):over G H S a = H a:=by unfold over; rw [if_pos h]
theorem over_out {G H:Hp} {S:Addr → Prop} {a:Addr} (h:¬ S a):over G H S a = G a:=by unfold over; rw [if_neg h]
theorem over_same {G H:Hp} {S:Addr → Prop} (s:Same G H):Same G (over G H S) ∧ Same (over G H S) H:=by
  constructor
  · intro b o e
    by_cases z:S b
    · rw [over_in z]; exact s _ _ e
    · rw [over_out z]; exact e
  · intro b o e
    by_cases z:S b
    · rw [over_in z] at e; exact e
    · rw [over_out z] at e; exact s _ _ e
theorem Fr.frz {G H G' H':Hp} {S:Addr → Prop} {n:Nat} {d:Dt} {v:V} (f:Fr G H G' H' S) (o:Own G' H' n S d v):Ext G H (over G' H' S) H' ∧ Rep (over G' H' S) d v:=by
  obtain ⟨s1,s2⟩:=over_same (S:=S) f.ext.in'
  refine ⟨⟨f.ext.g.trans s1,f.ext.h,s2,fun b hb=>?_⟩,o.rep s1 fun a u ha e=>by rw [over_in ha]; exact e⟩
  have z:¬ S b:=fun z=>hb (f.new b z).1
  rw [over_out z]; exact f.ext.old b hb
structure View (G:Hp) (σ:St) (ρ:Rh):Prop where
  len:ρ.length = σ.length
  «at»:∀ (i:Nat) (d:Dt),ρ[i]? = some (some d) → ∃ v,σ[i]? = some (some v) ∧ Rep G d v
theorem View.mono {G G':Hp} {σ:St} {ρ:Rh} (s:Same G G') (h:View G σ ρ):View G' σ ρ:=⟨h.len,fun i d e=>let ⟨v,a,b⟩:=h.at i d e; ⟨v,a,Rep.mono s b⟩⟩
def XRep (mg:Str → Option Value) (x:Xn) (c:Value) (da:Option Addr) (G H:Hp):Prop :=
  ∃ e C,c = .ref e ∧ G e = some (xo e (.ref C) da) ∧ clK Kc.K x.cls = some C ∧ ((da = none ∧ x.f = "") ∨ ∃ a gs w,da = some a ∧ G a = some (.xd gs) ∧ gs.lookup x.f = some w ∧ Rep G x.d w)
def PostE (mg:Str → Option Value) (E:XK) (G H:Hp) (n:Nat) (r:R Dt) (Q:VK):Prop:=match r with
  | none=>False
  | some (.error x)=>∀ c da G' H',Ext G H G' H' → XRep mg x c da G' H' → E c da H'
  | some (.ok d)=>∀ v G' H' S,Fr G H G' H' S → Own G' H' n S d v → Q v H'
def PostT (mg:Str → Option Value) (E:XK) (G H:Hp) (r:R Bool) (Q:Bool → Hp → Prop):Prop:=match r with
  | none=>False
  | some (.error x)=>∀ c da G' H',Ext G H G' H' → XRep mg x c da G' H' → E c da H'
  | some (.ok b)=>∀ H',Same H H' → Q b H'
structure OwnA (G H:Hp) (n:Nat) (S:Addr → Prop) (ds:List Dt) (xs:List V) (T:Nat → Addr → Prop):Prop where
  len:xs.length = ds.length
  own:∀ (q:Nat) (d:Dt) (x:V),ds[q]? = some d → xs[q]? = some x → Own G H n (T q) d x
  dis:∀ q r b,T q b → T r b → q = r
  sub:∀ q b,T q b → S b
def PostA (mg:Str → Option Value) (E:XK) (G H:Hp) (n:Nat) (r:R (List Dt)) (Q:List V → Hp → Prop):Prop:=match r with
  | none=>False
  | some (.error x)=>∀ c da G' H',Ext G H G' H' → XRep mg x c da G' H' → E c da H'
  | some (.ok ds)=>∀ vs G' H' S T,Fr G H G' H' S → OwnA G' H' n S ds vs T → Q vs H'
def DE (mg:Str → Option Value) (E:XK) (t:TE) (m:EM) (n:Nat):Prop:=∀ (G H:Hp) (σ:St) (ρ:Rh) (Q:VK),Same G H → View G σ ρ → PostE mg E G H n (m ρ) Q → t σ H Q
def DT (mg:Str → Option Value) (E:XK) (t:TT) (m:TM):Prop:=∀ (G H:Hp) (σ:St) (ρ:Rh) (Q:Bool → Hp → Prop),Same G H → View G σ ρ → PostT mg E G H (m ρ) Q → t σ H Q
def DA (mg:Str → Option Value) (E:XK) (t:TA) (m:AM) (n:Nat):Prop:=∀ (G H:Hp) (σ:St) (ρ:Rh) (Q:List V → Hp → Prop),Same G H → View G σ ρ → PostA mg E G H n (m ρ) Q → t σ H Q
structure Err (mg:Str → Option Value) (E:XK) (G H:Hp) {β:Type} (P:R β → Prop):Prop where
  no:P none → False
  er:∀ x,P (some (.error x)) → ∀ c da G' H',Ext G H G' H' → XRep mg x c da G' H' → E c da H'
theorem Ext.same {G H H':Hp} (s:Same G H) (h:Same H H'):Ext G H G H':=⟨Same.refl _,h,s.trans h,fun _ _=>rfl⟩
theorem Err.from {mg:Str → Option Value} {E:XK} {G H G' H':Hp} {β:Type} {P:R β → Prop} (e:Err mg E G H P) (x:Ext G H G' H'):Err mg E G' H' P:=⟨e.no,fun y p c da G2 H2 z w=>e.er y p c da G2 H2 (x.trans z) w⟩
section
variable {mg:Str → Option Value} {E:XK} {n:Nat}
theorem errE {G H:Hp} {Q:VK}:Err mg E G H (fun r=>PostE mg E G H n r Q):=⟨fun h=>h,fun _ h=>h⟩
theorem errT {G H:Hp} {Q:Bool → Hp → Prop}:Err mg E G H (fun r=>PostT mg E G H r Q):=⟨fun h=>h,fun _ h=>h⟩
theorem errA {G H:Hp} {Q:List V → Hp → Prop}:Err mg E G H (fun r=>PostA mg E G H n r Q):=⟨fun h=>h,fun _ h=>h⟩
theorem DE.step {β:Type} {t:TE} {m:EM} (D:DE mg E t m n) {G H:Hp} {σ:St} {ρ:Rh} {Q:VK} {P:R β → Prop} {f:Dt → R β} (hE:Err mg E G H P) (s:Same G H) (w:View G σ ρ) (p:P (bindR (m ρ) f))
    (h:∀ d v G' H' S,m ρ = okR d → Fr G H G' H' S → Own G' H' n S d v → P (f d) → Q v H'):t σ H Q:=by
  refine D G H σ ρ Q s w ?_
  cases e:m ρ with
  | none=>rw [e] at p; exact hE.no p
  | some r =>
    rw [e] at p
    cases r with
    | error x=>exact hE.er x p
    | ok d=>exact fun v G' H' S fr o=>h d v G' H' S e fr o p
theorem DT.step {β:Type} {t:TT} {m:TM} (D:DT mg E t m) {G H:Hp} {σ:St} {ρ:Rh} {Q:Bool → Hp → Prop} {P:R β → Prop} {f:Bool → R β} (hE:Err mg E G H P) (s:Same G H) (w:View G σ ρ) (p:P (bindR (m ρ) f))
    (h:∀ b H',m ρ = okR b → Same H H' → P (f b) → Q b H'):t σ H Q:=by
  refine D G H σ ρ Q s w ?_
  cases e:m ρ with
  | none=>rw [e] at p; exact hE.no p
  | some r =>
    rw [e] at p
    cases r with
    | error x=>exact hE.er x p
    | ok b=>exact fun H' sH=>h b H' e sH p
theorem DA.step {β:Type} {t:TA} {m:AM} (D:DA mg E t m n) {G H:Hp} {σ:St} {ρ:Rh} {Q:List V → Hp → Prop} {P:R β → Prop} {f:List Dt → R β} (hE:Err mg E G H P) (s:Same G H) (w:View G σ ρ) (p:P (bindR (m ρ) f))
    (h:∀ ds vs G' H' S T,m ρ = okR ds → Fr G H G' H' S → OwnA G' H' n S ds vs T → P (f ds) → Q vs H'):t σ H Q:=by
  refine D G H σ ρ Q s w ?_
  cases e:m ρ with
  | none=>rw [e] at p; exact hE.no p
  | some r =>
    rw [e] at p
    cases r with
    | error x=>exact hE.er x p
    | ok ds=>exact fun vs G' H' S T fr o=>h ds vs G' H' S T e fr o p
theorem PostE.from {G H G' H':Hp} {Q:VK} {r:R Dt} (p:PostE mg E G H n r Q) (x:Ext G H G' H'):PostE mg E G' H' n r Q:=by
  cases r with
  | none=>exact p
  | some r =>
    cases r with
    | error y=>exact fun c da G2 H2 z w=>p c da G2 H2 (x.trans z) w
    | ok d =>
      exact fun v G2 H2 S fr o=>p v G2 H2 S ⟨x.trans fr.ext,fun a ha=>⟨x.h.free (fr.new a ha).1,(fr.new a ha).2⟩⟩ o
theorem PostT.from {G H G' H':Hp} {Q:Bool → Hp → Prop} {r:R Bool} (p:PostT mg E G H r Q) (x:Ext G H G' H'):PostT mg E G' H' r Q:=by
  cases r with
  | none=>exact p
  | some r =>
    cases r with
    | error y=>exact fun c da G2 H2 z w=>p c da G2 H2 (x.trans z) w
    | ok d=>exact fun H2 s=>p H2 (x.h.trans s)
theorem Fr.from {G H G1 H1 G2 H2:Hp} {S:Addr → Prop} (x:Ext G H G1 H1) (f:Fr G1 H1 G2 H2 S):Fr G H G2 H2 S:=⟨x.trans f.ext,fun a ha=>⟨x.h.free (f.new a ha).1,(f.new a ha).2⟩⟩
theorem PostE.val {G H G' H':Hp} {d:Dt} {v:V} {Q:VK} (p:PostE mg E G H n (okR d) Q) (x:Ext G H G' H') (hd:d.dep = 0) (h:Rep G' d v):Q v H' :=
  p v G' H' (fun _=>False) ⟨x,fun _ z=>z.elim⟩ (own_of h hd)
theorem PostE.kept {G H G' H':Hp} {d:Dt} {v:V} {Q:VK} (p:PostE mg E G H 0 (okR d) Q) (x:Ext G H G' H') (h:Rep G' d v):Q v H' :=
  p v G' H' (fun _=>False) ⟨x,fun _ z=>z.elim⟩ h
theorem de_frz {t:TE} {m:EM} {n:Nat} (D:DE mg E t m n):DE mg E t m 0:=by
  intro G H σ ρ Q s w p
  refine D G H σ ρ Q s w ?_
  cases e:m ρ with
  | none=>rw [e] at p; exact p
  | some r =>
    rw [e] at p
    cases r with
    | error x=>exact p
    | ok d =>
      intro v G' H' S fr o
      obtain ⟨x,r⟩:=fr.frz o
      exact PostE.kept p x r
end
end L3

namespace L3
open PySem PySem.Spec
open L2 hiding Rep RepL
open Mi (Dt Xn R okR bindR optR bindR_ok bindR_none bindR_err optR_some optR_none Rh Sl Ro EM TM AM FM IM SM Tg Out bindT setsH setsO full frz frz1 frzAt)
section
variable [Kc] {mg:Str → Option Value} {E:XK} {n k l:Nat} {ta tb tc:TE} {ma mb mc:EM}
theorem de_int {i:Int}:DE mg E (tC (.int i)) (Mi.eC (.int i)) n:=fun G H σ ρ Q s w p=>PostE.val p (Ext.refl s) rfl rfl
theorem de_bl {b:Bool}:DE mg E (tC (.bl b)) (Mi.eC (.bl b)) n:=fun G H σ ρ Q s w p=>PostE.val p (Ext.refl s) rfl rfl
theorem de_non:DE mg E (tC .non) (Mi.eC .non) n:=fun G H σ ρ Q s w p=>PostE.val p (Ext.refl s) rfl rfl
theorem de_str {x:Str}:DE mg E (tC (.str x)) (Mi.eC (.str x)) n:=fun G H σ ρ Q s w p=>PostE.val p (Ext.refl s) rfl rfl
theorem de_v (i:Nat):DE mg E (vM i) (Mi.eV i) 0:=by
  intro G H σ ρ Q s w p
  unfold Mi.eV at p
  cases e:ρ[i]? with
  | none=>rw [e] at p; exact p.elim
  | some o =>
    rw [e] at p
    cases o with
    | none=>exact p.elim
    | some d =>
      obtain ⟨v,h1,h2⟩:=w.at i d e
      unfold vM
      rw [h1]
      exact PostE.kept p (Ext.refl s) h2
def ROp (r:R2) (f:Dt → Dt → Option Dt) (n:Nat):Prop:=∀ (mg:Str → Option Value) (E:XK) (G H:Hp) (d e:Dt) (x y:V) (Q:VK),Same G H → Rep G d x → Rep G e y → PostE mg E G H n (optR (f d e)) Q → r x y H Q
theorem de_op {r:R2} {f:Dt → Dt → Option Dt} (hr:ROp r f n) (A:DE mg E ta ma k) (B:DE mg E tb mb l):DE mg E (tOp r ta tb) (Mi.eB f ma mb) n:=by
  intro G H σ ρ Q s w p
  refine (de_frz A).step errE s w p fun d v G1 H1 S _ fr o p1=>?_
  refine (de_frz B).step (errE.from fr.ext) fr.ext.in' (w.mono fr.ext.g) p1 fun e u G2 H2 S2 _ fr2 o2 p2=>?_
  exact hr mg E G2 H2 d e v u Q fr2.ext.in' (Rep.mono fr2.ext.g o) o2 (PostE.from p2 (fr.ext.trans fr2.ext))
def ROp1 (r:V → Hp → VK → Prop) (f:Dt → Option Dt) (n:Nat):Prop:=∀ (mg:Str → Option Value) (E:XK) (G H:Hp) (d:Dt) (x:V) (Q:VK),Same G H → Rep G d x → PostE mg E G H n (optR (f d)) Q → r x H Q
theorem de_un {r:V → Hp → VK → Prop} {f:Dt → Option Dt} (hr:ROp1 r f n) (A:DE mg E ta ma k):DE mg E (tUn r ta) (Mi.eU f ma) n:=by
  intro G H σ ρ Q s w p
  refine (de_frz A).step errE s w p fun d v G1 H1 S _ fr o p1=>?_
  exact hr mg E G1 H1 d v Q fr.ext.in' o (PostE.from p1 fr.ext)
theorem de_and (A:DE mg E ta ma k) (B:DE mg E tb mb n):DE mg E (fun σ H Q=>ta σ H fun x H1=>match x with | .bl c=>if c = true then tb σ H1 Q else Q (.bl false) H1 | _=>False) (Mi.eAnd ma mb) n:=by
  intro G H σ ρ Q s w p
  refine (de_frz A).step errE s w p fun d v G1 H1 S _ fr o p1=>?_
  cases d with
  | bl b =>
    cases (show v = .bl b from o)
    cases b with
    | true=>exact B G1 H1 σ ρ Q fr.ext.in' (w.mono fr.ext.g) (PostE.from p1 fr.ext)
    | false=>exact PostE.val (PostE.from p1 fr.ext) (Ext.refl fr.ext.in') rfl rfl
  | _=>exact p1.elim
theorem de_not (A:DE mg E ta ma k):DE mg E (fun σ H Q=>ta σ H fun x H1=>match x with | .bl c=>Q (.bl (!c)) H1 | _=>False) (Mi.eNot ma) n:=by
  intro G H σ ρ Q s w p
  refine (de_frz A).step errE s w p fun d v G1 H1 S _ fr o p1=>?_
  cases d with
  | bl b =>
    cases (show v = .bl b from o)
    exact PostE.val (PostE.from p1 fr.ext) (Ext.refl fr.ext.in') rfl rfl
  | _=>exact p1.elim
theorem bind_opt {α β:Type} (o:Option α) (f:α → R β):bindR (optR o) f = match o with | none=>none | some a=>f a:=by cases o <;> rfl
theorem de_chain {r r':R2} {f g:Dt → Dt → Option Dt} (hr:ROp r f 0) (hr':ROp r' g n) (A:DE mg E ta ma k) (B:DE mg E tb mb l) {j:Nat} (C:DE mg E tc mc j) :
    DE mg E (fun σ H Q=>ta σ H fun x H1=>tb σ H1 fun y H2=>r x y H2 fun z H3=>match z with
      | .bl k=>if k = true then tc σ H3 fun w' H4=>r' y w' H4 Q else Q (.bl false) H3
      | _=>False) (Mi.eChain f g ma mb mc) n:=by
  intro G H σ ρ Q s w p
  refine (de_frz A).step errE s w p fun d v G1 H1 S _ fr o p1=>?_
  refine (de_frz B).step (errE.from fr.ext) fr.ext.in' (w.mono fr.ext.g) p1 fun e u G2 H2 S2 _ fr2 o2 p2=>?_
  refine hr mg E G2 H2 d e v u _ fr2.ext.in' (Rep.mono fr2.ext.g o) o2 ?_
  have p3:=PostE.from p2 (fr.ext.trans fr2.ext)
  rw [bind_opt] at p3
  cases ez:f d e with
  | none=>rw [ez] at p3; exact p3
  | some z =>
    rw [ez] at p3
    intro v3 G3 H3 S3 fr3 o3
    obtain ⟨x3,r3⟩:=fr3.frz o3
    cases z with
    | bl b =>
      cases (show v3 = .bl b from r3)
      cases b with
      | false=>exact PostE.val p3 x3 rfl rfl
      | true =>
        refine (de_frz C).step (errE.from x3) x3.in' ((w.mono (fr.ext.g.trans fr2.ext.g)).mono x3.g) p3 fun c u4 G4 H4 S4 _ fr4 o4 p4=>?_
        exact hr' mg E G4 H4 e c u u4 Q fr4.ext.in' (Rep.mono (x3.g.trans fr4.ext.g) o2) o4 (PostE.from p4 (x3.trans fr4.ext))
    | _=>exact p3.elim
theorem de_ifx {tA:TT} {c:TM} (C:DT mg E tA c) (A:DE mg E ta ma n) (B:DE mg E tb mb n):DE mg E (tIf tA ta tb) (Mi.eIf c ma mb) n:=by
  intro G H σ ρ Q s w p
  refine C.step errE s w p fun b H' _ sH p1=>?_
  have p2:=PostE.from p1 (Ext.same s sH)
  cases b with
  | true=>exact A G H' σ ρ Q (s.trans sH) w p2
  | false=>exact B G H' σ ρ Q (s.trans sH) w p2
theorem dt_b (A:DE mg E ta ma k):DT mg E (fun σ H Q=>ta σ H fun z H3=>match z with | .bl k=>Q k H3 | _=>False) (Mi.tB ma):=by
  intro G H σ ρ Q s w p
  refine (de_frz A).step errT s w p fun d v G1 H1 S _ fr o p1=>?_
  cases d with
  | bl b =>
    cases (show v = .bl b from o)
    exact p1 H1 fr.ext.h
  | _=>exact p1.elim
theorem dt_m (A:DE mg E ta ma k):DT mg E (bM ta) (Mi.tM ma):=by
  intro G H σ ρ Q s w p
  refine (de_frz A).step errT s w p fun d v G1 H1 S _ fr o p1=>?_
  cases d with
  | bl b=>cases (show v = .bl b from o); exact p1 H1 fr.ext.h
  | int b=>cases (show v = .int b from o); exact p1 H1 fr.ext.h
  | non=>cases (show v = .non from o); exact p1 H1 fr.ext.h
  | _=>exact p1.elim
variable {tA tB:TT} {cA cB:TM}
theorem dt_and (A:DT mg E tA cA) (B:DT mg E tB cB):DT mg E (L2.tAnd tA tB) (Mi.tAn cA cB):=by
  intro G H σ ρ Q s w p
  refine A.step errT s w p fun b H' _ sH p1=>?_
  cases b with
  | true=>exact B G H' σ ρ Q (s.trans sH) w (PostT.from p1 (Ext.same s sH))
  | false=>exact p1 H' sH
theorem dt_or (A:DT mg E tA cA) (B:DT mg E tB cB):DT mg E (L2.tOr tA tB) (Mi.tOr cA cB):=by
  intro G H σ ρ Q s w p
  refine A.step errT s w p fun b H' _ sH p1=>?_
  cases b with
  | false=>exact B G H' σ ρ Q (s.trans sH) w (PostT.from p1 (Ext.same s sH))
  | true=>exact p1 H' sH
theorem dt_not (A:DT mg E tA cA):DT mg E (L2.tNot tA) (Mi.tNo cA):=by
  intro G H σ ρ Q s w p
  exact A.step errT s w p fun b H' _ sH p1=>p1 H' sH
theorem dt_yes:DT mg E L2.tYes Mi.tYes:=fun G H σ ρ Q s w p=>p H (Same.refl _)
variable {t:TA} {m:AM}
theorem da_nil:DA mg E tNil Mi.aNil n:=fun G H σ ρ Q s w p=>p [] G H (fun _=>False) (fun _ _=>False) ⟨Ext.refl s,fun _ z=>z.elim⟩ ⟨rfl,fun q d x h=>by simp at h,fun _ _ _ z=>z.elim,fun _ _ z=>z.elim⟩
theorem da_cons (A:DE mg E ta ma n) (B:DA mg E t m n):DA mg E (tCons ta t) (Mi.aCons ma m) n:=by
  intro G H σ ρ Q s w p
  refine A.step errA s w p fun d v G1 H1 S1 _ fr o p1=>?_
  refine B.step (errA.from fr.ext) fr.ext.in' (w.mono fr.ext.g) p1 fun ds vs G2 H2 S2 T2 _ fr2 o2 p2=>?_
  refine p2 (v :: vs) G2 H2 (fun a=>S1 a ∨ S2 a) (fun q=>match q with | 0=>S1 | q + 1=>T2 q) ⟨fr.ext.trans fr2.ext,fun a ha=>?_⟩ ⟨by simp [o2.len],fun q d' x h1 h2=>?_,fun q r b h1 h2=>?_,fun q b h=>?_⟩
  · rcases ha with ha | ha
    · obtain ⟨n1,n2,n3⟩:=fr.new a ha
      exact ⟨n1,(fr2.ext.old a n3).trans n2,fr2.ext.h.some n3⟩
    · obtain ⟨n1,n2,n3⟩:=fr2.new a ha
      exact ⟨fr.ext.h.free n1,n2,n3⟩
  · cases q with
    | zero=>simp at h1 h2; subst h1; subst h2; exact o.mono fr2.ext.g fr2.ext.h
    | succ q=>exact o2.own q d' x (by simpa using h1) (by simpa using h2)
  · have ap:∀ r b,S1 b → T2 r b → False:=fun r b h1 h2=>(fr.new b h1).2.2 (fr2.new b (o2.sub r b h2)).1
    cases q with
    | zero =>
      cases r with
      | zero=>rfl
      | succ r=>exact (ap r b h1 h2).elim
    | succ q =>
      cases r with
      | zero=>exact (ap q b h2 h1).elim
      | succ r=>rw [o2.dis q r b h1 h2]
  · cases q with
    | zero=>exact .inl h
    | succ q=>exact .inr (o2.sub q b h)
theorem OwnA.repL {G H:Hp} {S:Addr → Prop} {ds:List Dt} {vs:List V} {T:Nat → Addr → Prop} (o:OwnA G H 0 S ds vs T):RepL G ds vs:=repL_of o.len fun q d x h1 h2=>o.own q d x h1 h2
theorem big' {n:Nat} (h:n ≤ 100000):n ≤ sizeLine:=Nat.le_of_lt (L2.big h)
theorem Fr.add {G H G' H':Hp} {S:Addr → Prop} (f:Fr G H G' H' S) {p:Addr} (hp:H' p = none) (o:HO):Fr G H G' (upd H' p o) (fun a=>a = p ∨ S a):=by
  have sn:=L2.same_new hp o
  refine ⟨⟨f.ext.g,f.ext.h.trans sn,f.ext.in'.trans sn,f.ext.old⟩,fun a ha=>?_⟩
  rcases ha with rfl | ha
  · exact ⟨f.ext.h.free hp,f.ext.in'.free hp,by rw [upd_same]; simp⟩
  · obtain ⟨n1,n2,n3⟩:=f.new a ha
    exact ⟨n1,n2,sn.some n3⟩
theorem OwnA.kids {G' H':Hp} {S:Addr → Prop} {ds:List Dt} {vs:List V} {T:Nat → Addr → Prop} (o:OwnA G' H' n S ds vs T) (hn:∀ a,S a → H' a ≠ none) {p:Addr} (hp:H' p = none) (ob:HO) :
    Kids (Own G' (upd H' p ob) n) (fun a=>a = p ∨ S a) p ds vs T :=
  ⟨o.len,fun q d x h1 h2=>(o.own q d x h1 h2).mono (Same.refl _) (L2.same_new hp ob),.inl rfl,fun q z=>hn p (o.sub q p z) hp,o.dis,fun q b z=>.inr (o.sub q b z)⟩
theorem de_lst (A:DA mg E t m n):DE mg E (tLst t) (Mi.eLst m) (n + 1):=by
  intro G H σ ρ Q s w p
  refine A.step errE s w p fun ds vs G1 H1 S T _ fr o p1=>?_
  by_cases hz:ds.length ≤ 100000
  · rw [if_pos hz] at p1
    refine ⟨by rw [o.len]; exact big' hz,fun a ha=>?_⟩
    exact p1 (.ref a) G1 _ _ (fr.add ha _) ⟨a,vs,T,rfl,upd_same,o.kids (fun b hb=>(fr.new b hb).2.2) ha _⟩
  · rw [if_neg hz] at p1; exact p1.elim
theorem de_tup (A:DA mg E t m n):DE mg E (tTup t) (Mi.eTup m) (n + 1):=by
  intro G H σ ρ Q s w p
  refine A.step errE s w p fun ds vs G1 H1 S T _ fr o p1=>?_
  by_cases hz:ds.length ≤ 100000
  · rw [if_pos hz] at p1
    refine ⟨by rw [o.len]; exact big' hz,fun a ha=>?_⟩
    exact p1 (.ref a) G1 _ _ (fr.add ha _) ⟨a,vs,T,rfl,upd_same,o.kids (fun b hb=>(fr.new b hb).2.2) ha _⟩
  · rw [if_neg hz] at p1; exact p1.elim
theorem PostE.lst {G H G' H':Hp} {ds:List Dt} {xs:List V} {Q:VK} (p:PostE mg E G H 1 (okR (.lst ds)) Q) (x:Ext G H G' H') (r:RepL G' ds xs) {a:Addr} (ha:H' a = none):Q (.ref a) (upd H' a (.lst xs)):=by
  have fr:Fr G H G' H' (fun _=>False):=⟨x,fun _ z=>z.elim⟩
  refine p (.ref a) G' _ _ (fr.add ha (.lst xs)) ⟨a,xs,fun _ _=>False,rfl,upd_same,⟨r.length,fun q d y h1 h2=>repL_at r h1 h2,.inl rfl,fun _ z=>z,fun _ _ _ z=>z.elim,fun _ _ z=>z.elim⟩⟩
def CBi (r:List V → Hp → VK → Prop) (f:List Dt → Option Dt) (n:Nat):Prop:=∀ (mg:Str → Option Value) (E:XK) (G H:Hp) (ds:List Dt) (vs:List V) (Q:VK),Same G H → RepL G ds vs → PostE mg E G H n (optR (f ds)) Q → r vs H Q
theorem de_bi {r:List V → Hp → VK → Prop} {f:List Dt → Option Dt} (hr:CBi r f n) (A:DA mg E t m 0):DE mg E (tCB r t) (Mi.eBi f m) n:=by
  intro G H σ ρ Q s w p
  refine A.step errE s w p fun ds vs G1 H1 S T _ fr o p1=>?_
  exact hr mg E G1 H1 ds vs Q fr.ext.in' o.repL (PostE.from p1 fr.ext)
def spM (mg:Str → Option Value) (L:Nat) (f:FM):Sp:=fun vs H Q E=>∃ G ds,Same G H ∧ RepL G ds vs ∧ PostE mg E G H L (f ds) Q
theorem de_call {f:FM} (A:DA mg E t m 0):DE mg E (tCall (spM mg n f) [] E t) (Mi.eCall f m) n:=by
  intro G H σ ρ Q s w p
  refine A.step errE s w p fun ds vs G1 H1 S T _ fr o p1=>?_
  exact ⟨G1,ds,fr.ext.in',by rw [List.append_nil]; exact o.repL,PostE.from p1 fr.ext⟩
theorem r_val {G H:Hp} {o:Option Dt} {Q:VK} {d:Dt} {v:V} (s:Same G H) (p:PostE mg E G H n (optR o) Q) (e:o = some d) (hd:d.dep = 0) (h:Rep G d v):Q v H:=by
  subst e; exact PostE.val p (Ext.refl s) hd h
theorem ro_add:ROp rAddU Mi.addD 1:=by
  intro mg E G H d e x y Q s h1 h2 p
  cases d with
  | int i =>
    cases e with
    | int j=>cases (show x = .int i from h1); cases (show y = .int j from h2); exact r_val s p rfl rfl rfl
    | _=>exact p.elim
  | str i =>
    cases e with
    | str j =>
      cases (show x = .str i from h1); cases (show y = .str j from h2)
      rw [Mi.addD] at p
      by_cases hz:i.length + j.length ≤ 100000
      · rw [if_pos hz] at p
        exact ⟨big' hz,PostE.val p (Ext.refl s) rfl rfl⟩
      · rw [if_neg hz] at p; exact p.elim
    | _=>exact p.elim
  | lst ds =>
    cases e with
    | lst es =>
      obtain ⟨a,xs,rfl,ha,ra⟩:=h1
      obtain ⟨b,ys,rfl,hb,rb⟩:=h2
      rw [Mi.addD] at p
      by_cases hz:ds.length + es.length ≤ 100000
      · rw [if_pos hz] at p
        refine ⟨xs,ys,s _ _ ha,s _ _ hb,by rw [ra.length,rb.length]; exact big' hz,fun q hq=>?_⟩
        refine PostE.lst p (Ext.refl s) (repL_of (by simp [ra.length,rb.length]) fun j d' x' e1 e2=>?_) hq
        by_cases hj:j < ds.length
        · rw [List.getElem?_append_left hj] at e1
          rw [List.getElem?_append_left (by rw [ra.length]; exact hj)] at e2
          exact repL_at ra e1 e2
        · rw [List.getElem?_append_right (by omega)] at e1
          rw [List.getElem?_append_right (by rw [ra.length]; omega),ra.length] at e2
          exact repL_at rb e1 e2
      · rw [if_neg hz] at p; exact p.elim
    | _=>exact p.elim
  | _=>exact p.elim
theorem ro_sub:ROp rSubU Mi.subD n:=by
  intro mg E G H d e x y Q s h1 h2 p
  cases d with
  | int i =>
    cases e with
    | int j=>cases (show x = .int i from h1); cases (show y = .int j from h2); exact r_val s p rfl rfl rfl
    | _=>exact p.elim
  | _=>exact p.elim
theorem ro_mul:ROp rMulW Mi.mulD n:=by
  intro mg E G H d e x y Q s h1 h2 p
  cases d with
  | int i =>
    cases e with
    | int j =>
      cases (show x = .int i from h1); cases (show y = .int j from h2)
      rw [Mi.mulD] at p
      split at p
      · rename_i hz; exact ⟨hz,PostE.val p (Ext.refl s) rfl rfl⟩
      · exact p.elim
    | _=>exact p.elim
  | _=>exact p.elim
theorem ro_div:ROp rDivW Mi.divD n:=by
  intro mg E G H d e x y Q s h1 h2 p
  cases d with
  | int i =>
    cases e with
    | int j =>
      cases (show x = .int i from h1); cases (show y = .int j from h2)
      rw [Mi.divD] at p
      split at p
      · rename_i hz; exact ⟨hz,PostE.val p (Ext.refl s) rfl rfl⟩
      · exact p.elim
    | _=>exact p.elim
  | _=>exact p.elim
theorem ro_mod:ROp rModU Mi.modD n:=by
  intro mg E G H d e x y Q s h1 h2 p
  cases d with
  | int i =>
    cases e with
    | int j =>
      cases (show x = .int i from h1); cases (show y = .int j from h2)
      rw [Mi.modD] at p
      split at p
      · rename_i hz; exact ⟨hz,PostE.val p (Ext.refl s) rfl rfl⟩
      · exact p.elim
    | _=>exact p.elim
  | _=>exact p.elim
theorem ro_pow:ROp rPowU Mi.powD n:=by
  intro mg E G H d e x y Q s h1 h2 p
  cases d with
  | int i =>
    cases e with
    | int j =>
      cases (show x = .int i from h1); cases (show y = .int j from h2)
      rw [Mi.powD] at p
      split at p
      · rename_i hz; exact ⟨hz,PostE.val p (Ext.refl s) rfl rfl⟩
      · exact p.elim
    | _=>exact p.elim
  | _=>exact p.elim
theorem ro_neg:ROp1 rNegU Mi.negD n:=by
  intro mg E G H d x Q s h1 p
  cases d with
  | int i=>cases (show x = .int i from h1); exact r_val s p rfl rfl rfl
  | _=>exact p.elim
theorem ro_cmp {q:Int → Int → Bool}:ROp (rCmpU q) (Mi.cmpD q) n:=by
  intro mg E G H d e x y Q s h1 h2 p
  cases d with
  | int i =>
    cases e with
    | int j=>cases (show x = .int i from h1); cases (show y = .int j from h2); exact r_val s p rfl rfl rfl
    | _=>exact p.elim
  | _=>exact p.elim
theorem eqd_of {G H:Hp} {d e:Dt} {x y:V} {Q:VK} {ng:Bool} (s:Same G H) (h1:Rep G d x) (h2:Rep G e y) (hd:d.dep ≤ 40) (he:e.dep ≤ 40) (q:Q (.bl (if ng then !Dt.eq d e else Dt.eq d e)) H) :
    ∃ d' e',L2.Rep H d' x ∧ L2.Rep H e' y ∧ d'.dep ≤ 40 ∧ Q (.bl (if ng then !L2.Dat.eq d' e' else L2.Dat.eq d' e')) H :=
  ⟨conv d,conv e,conv_rep hd (Rep.mono s h1),conv_rep he (Rep.mono s h2),Nat.le_trans (conv_dep hd) hd,by rw [conv_eq hd he]; exact q⟩
theorem beq_dec {α:Type} [DecidableEq α] (a b:α):(a == b) = decide (a = b):=by
  by_cases h:a = b
  · subst h; simp
  · simp [h]
theorem rep_int {G:Hp} {d:Dt} {i:Int} (h:Rep G d (.int i)):d = .int i:=by
  cases d with
  | int k=>cases h; rfl
  | non=>cases h
  | bl _=>cases h
  | str _=>cases h
  | lst _=>obtain ⟨_,_,z,_⟩:=h; cases z
  | tup _=>obtain ⟨_,_,z,_⟩:=h; cases z
  | scr _=>obtain ⟨_,z,_⟩:=h; cases z
  | exc _ _ _=>obtain ⟨_,_,_,z,_⟩:=h; cases z
  | ins _ _=>obtain ⟨_,_,_,z,_⟩:=h; cases z
  | dct _=>obtain ⟨_,z,_⟩:=h; cases z
theorem rep_str {G:Hp} {d:Dt} {i:Str} (h:Rep G d (.str i)):d = .str i:=by
  cases d with
  | str k=>cases h; rfl
  | non=>cases h
  | bl _=>cases h
  | int _=>cases h
  | lst _=>obtain ⟨_,_,z,_⟩:=h; cases z
  | tup _=>obtain ⟨_,_,z,_⟩:=h; cases z
  | scr _=>obtain ⟨_,z,_⟩:=h; cases z
  | exc _ _ _=>obtain ⟨_,_,_,z,_⟩:=h; cases z
  | ins _ _=>obtain ⟨_,_,_,z,_⟩:=h; cases z
  | dct _=>obtain ⟨_,z,_⟩:=h; cases z
theorem rep_bl {G:Hp} {d:Dt} {i:Bool} (h:Rep G d (.bl i)):d = .bl i:=by
  cases d with
  | bl k=>cases h; rfl
  | non=>cases h
  | str _=>cases h
  | int _=>cases h
  | lst _=>obtain ⟨_,_,z,_⟩:=h; cases z
  | tup _=>obtain ⟨_,_,z,_⟩:=h; cases z
  | scr _=>obtain ⟨_,z,_⟩:=h; cases z
  | exc _ _ _=>obtain ⟨_,_,_,z,_⟩:=h; cases z
  | ins _ _=>obtain ⟨_,_,_,z,_⟩:=h; cases z
  | dct _=>obtain ⟨_,z,_⟩:=h; cases z
theorem ro_eq:ROp rEqU Mi.eqD n:=by
  intro mg E G H d e x y Q s h1 h2 p
  unfold Mi.eqD at p
  split at p
  · rename_i hz
    have q:Q (.bl (Dt.eq d e)) H:=PostE.val p (Ext.refl s) rfl rfl
    have g:=eqd_of (ng:=false) (Q:=Q) s h1 h2 hz.1 hz.2 q
    unfold rEqU
    split
    · rw [rep_int h1,rep_int h2,Dt.eq,beq_dec] at q; exact q
    · rw [rep_str h1,rep_str h2,Dt.eq,beq_dec] at q; exact q
    · rw [rep_bl h1,rep_bl h2,Dt.eq,beq_dec] at q; exact q
    · exact g
  · exact p.elim
theorem ro_ne:ROp rNeU Mi.neD n:=by
  intro mg E G H d e x y Q s h1 h2 p
  unfold Mi.neD at p
  split at p
  · rename_i hz
    have q:Q (.bl (!Dt.eq d e)) H:=PostE.val p (Ext.refl s) rfl rfl
    have g:=eqd_of (ng:=true) (Q:=Q) s h1 h2 hz.1 hz.2 q
    unfold rNeU
    split
    · rw [rep_int h1,rep_int h2,Dt.eq,beq_dec] at q; exact q
    · rw [rep_str h1,rep_str h2,Dt.eq,beq_dec] at q; exact q
    · rw [rep_bl h1,rep_bl h2,Dt.eq,beq_dec] at q; exact q
    · exact g
  · exact p.elim
theorem ixA_eq (n:Nat) (i:Int):Mi.ixA n i = ixN n i:=rfl
theorem itA_eq {α:Type} (xs:List α) (i:Int):Mi.itA xs i = atI xs i:=rfl
theorem at_rep {G:Hp} {ds:List Dt} {xs:List V} {i:Int} {d:Dt} (r:RepL G ds xs) (h:Mi.itA ds i = some d):∃ x,atI xs i = some x ∧ Rep G d x:=by
  rw [itA_eq] at h
  unfold atI at h ⊢
  rw [r.length]
  cases e:ixN ds.length i with
  | none=>rw [e] at h; cases h
  | some j =>
    rw [e] at h
    have h':ds[j]? = some d:=h
    have hj:j < xs.length:=by rw [r.length]; exact (List.getElem?_eq_some_iff.mp h').1
    exact ⟨xs[j],by simp [hj],repL_at r h' (by simp [hj])⟩
theorem ro_ix:ROp (rIxU Kc.K) Mi.ixD 0:=by
  intro mg E G H d e x y Q s h1 h2 p
  cases e with
  | int i =>
    cases (show y = .int i from h2)
    cases d with
    | lst ds =>
      obtain ⟨a,xs,rfl,ha,ra⟩:=h1
      cases er:Mi.itA ds i with
      | none=>rw [Mi.ixD,er] at p; exact p.elim
      | some c =>
        rw [Mi.ixD,er] at p
        obtain ⟨v,e1,r1⟩:=at_rep ra er
        exact ⟨xs,v,.inl (SqL.of (s _ _ ha)),e1,PostE.kept p (Ext.refl s) r1⟩
    | tup ds =>
      obtain ⟨a,xs,rfl,ha,ra⟩:=h1
      cases er:Mi.itA ds i with
      | none=>rw [Mi.ixD,er] at p; exact p.elim
      | some c =>
        rw [Mi.ixD,er] at p
        obtain ⟨v,e1,r1⟩:=at_rep ra er
        exact ⟨xs,v,.inr (SqT.of (s _ _ ha)),e1,PostE.kept p (Ext.refl s) r1⟩
    | scr ns =>
      obtain ⟨a,rfl,ha⟩:=h1
      cases er:Mi.itA ns i with
      | none=>rw [Mi.ixD,er] at p; exact p.elim
      | some c =>
        rw [Mi.ixD,er] at p
        refine ⟨ns.map V.int,.int c,seqR_mono s ha,?_,PostE.kept p (Ext.refl s) rfl⟩
        rw [itA_eq] at er
        unfold atI at er ⊢
        rw [List.length_map]
        cases e:ixN ns.length i with
        | none=>rw [e] at er; cases er
        | some j =>
          rw [e] at er
          have er':ns[j]? = some c:=er
          show (ns.map V.int)[j]? = some (.int c)
          rw [List.getElem?_map,er']; rfl
    | str z =>
      cases (show x = .str z from h1)
      rw [Mi.ixD] at p
      by_cases hz:z.length ≤ 100000
      · rw [if_pos hz] at p
        cases er:Mi.itA z.cps.toList i with
        | none=>rw [er] at p; exact p.elim
        | some c=>rw [er] at p; exact ⟨c,big' hz,er,PostE.kept p (Ext.refl s) rfl⟩
      · rw [if_neg hz] at p; exact p.elim
    | _=>exact p.elim
  | _=>cases d <;> exact p.elim
theorem repL1 {G:Hp} {d:Dt} {vs:List V} (h:RepL G [d] vs):∃ x,vs = [x] ∧ Rep G d x:=by
  obtain ⟨x,q,rfl,a,b⟩:=h
  cases (show q = [] from b)
  exact ⟨x,rfl,a⟩
theorem repL2 {G:Hp} {d e:Dt} {vs:List V} (h:RepL G [d,e] vs):∃ x y,vs = [x,y] ∧ Rep G d x ∧ Rep G e y:=by
  obtain ⟨x,q,rfl,a,b⟩:=h
  obtain ⟨y,rfl,c⟩:=repL1 b
  exact ⟨x,y,rfl,a,c⟩
theorem cb_len:CBi (rLenU Kc.K) Mi.lenD n:=by
  intro mg E G H ds vs Q s h p
  cases ds with
  | nil=>exact p.elim
  | cons a0 r0 =>
    cases r0 with
    | cons _ _=>cases a0 <;> exact p.elim
    | nil =>
      cases a0 with
      | lst es =>
        obtain ⟨x,rfl,a,xs,rfl,ha,ra⟩:=repL1 h
        exact ⟨xs,.inl (SqL.of (s _ _ ha)),by rw [ra.length]; exact PostE.val p (Ext.refl s) rfl rfl⟩
      | tup es =>
        obtain ⟨x,rfl,a,xs,rfl,ha,ra⟩:=repL1 h
        exact ⟨xs,.inr (SqT.of (s _ _ ha)),by rw [ra.length]; exact PostE.val p (Ext.refl s) rfl rfl⟩
      | scr ns =>
        obtain ⟨x,rfl,a,rfl,ha⟩:=repL1 h
        refine ⟨ns.map V.int,seqR_mono s ha,?_⟩
        rw [List.length_map]
        exact PostE.val p (Ext.refl s) rfl rfl
      | str z =>
        obtain ⟨x,rfl,hx⟩:=repL1 h
        cases (show x = .str z from hx)
        rw [Mi.lenD] at p
        by_cases hz:z.length ≤ 100000
        · rw [if_pos hz] at p
          exact ⟨big' hz,PostE.val p (Ext.refl s) rfl rfl⟩
        · rw [if_neg hz] at p; exact p.elim
      | _=>exact p.elim
theorem repL_ints {G:Hp}:∀ (ns:List Int),RepL G (ns.map Dt.int) (ns.map V.int)
  | []=>rfl
  | _ :: r=>⟨_,_,rfl,rfl,repL_ints r⟩
theorem cb_list:CBi (rListU Kc.K) Mi.listD 1:=by
  intro mg E G H ds vs Q s h p
  cases ds with
  | nil=>exact p.elim
  | cons a0 r0 =>
    cases r0 with
    | cons _ _=>cases a0 <;> exact p.elim
    | nil =>
      cases a0 with
      | lst es =>
        obtain ⟨x,rfl,a,xs,rfl,ha,ra⟩:=repL1 h
        exact .inl ⟨xs,.inl (SqL.of (s _ _ ha)),fun l hl=>PostE.lst p (Ext.refl s) ra hl⟩
      | tup es =>
        obtain ⟨x,rfl,a,xs,rfl,ha,ra⟩:=repL1 h
        exact .inl ⟨xs,.inr (SqT.of (s _ _ ha)),fun l hl=>PostE.lst p (Ext.refl s) ra hl⟩
      | scr ns =>
        obtain ⟨x,rfl,a,rfl,ha⟩:=repL1 h
        exact .inl ⟨ns.map V.int,seqR_mono s ha,fun l hl=>PostE.lst p (Ext.refl s) (repL_ints ns) hl⟩
      | _=>exact p.elim
theorem ty_of {G H:Hp} {d:Dt} {x:V} (s:Same G H) (h:Rep G d x) (hd:Mi.tyD d ≠ ""):tyName H x = some (Mi.tyD d):=by
  cases d with
  | non=>cases h; rfl
  | bl _=>cases h; rfl
  | int _=>cases h; rfl
  | str _=>cases h; rfl
  | lst _=>obtain ⟨a,xs,rfl,ha,_⟩:=h; unfold tyName; dsimp only; rw [s _ _ ha]; rfl
  | tup _=>obtain ⟨a,xs,rfl,ha,_⟩:=h; unfold tyName; dsimp only; rw [s _ _ ha]; rfl
  | scr _=>exact absurd rfl hd
  | exc _ _ _=>exact absurd rfl hd
  | ins _ _=>exact absurd rfl hd
  | dct _=>exact absurd rfl hd
theorem de_isi {nm:String} (hn:nm ∈ ["int","bool","str","list","tuple","dict"]) (A:DE mg E ta ma k):DE mg E (tCB rIsiU (tCons ta (tCons (tC (.ty nm)) tNil))) (Mi.eIsi nm ma) n:=by
  intro G H σ ρ Q s w p
  refine (de_frz A).step errE s w p fun d v G1 H1 S _ fr o p1=>?_
  have p2:=PostE.from p1 fr.ext
  unfold Mi.isiD at p2
  split at p2
  · exact p2.elim
  · rename_i hd
    exact ⟨Mi.tyD d,ty_of fr.ext.in' o hd,hn,PostE.val p2 (Ext.refl fr.ext.in') rfl rfl⟩
end
end L3

namespace L3
open PySem PySem.Spec
open L2 hiding Rep RepL
open Mi (Dt Xn R okR bindR optR bindR_ok bindR_none bindR_err optR_some optR_none Rh Sl Ro EM TM AM FM IM SM Tg Out bindT setsH setsO full frz frz1 frzAt)
variable [Kc]
def ItOk (J:It) (G:Hp) (ds:List Dt):Prop:=∀ (i:Nat) (G1 H1:Hp),Same G G1 → Same G1 H1 → (i < ds.length → J.go i H1) ∧ (ds.length ≤ i → J.stop i H1) ∧ ∀ x H2 d,ds[i]? = some d → J.yld i H1 x H2 → ∃ G2,Ext G1 H1 G2 H2 ∧ Rep G2 d x
def baseI (ind:Bool) (G:Hp):Hp:=if ind = true then (fun _=>none) else G
def PostI (mg:Str → Option Value) (E:XK) (G H:Hp) (ind:Bool) (r:R (List Dt)) (Q:It → Hp → Prop):Prop:=match r with
  | none=>False
  | some (.error x)=>∀ c da G' H',Ext G H G' H' → XRep mg x c da G' H' → E c da H'
  | some (.ok ds)=>∀ J G' H',Ext G H G' H' → ItOk J (baseI ind G') ds → Q J H'
def DI (mg:Str → Option Value) (E:XK) (t:TI) (m:IM) (ind:Bool):Prop:=∀ (G H:Hp) (σ:St) (ρ:Rh) (Q:It → Hp → Prop),Same G H → View G σ ρ → PostI mg E G H ind (m ρ) Q → t σ H Q
section
variable {mg:Str → Option Value} {E:XK} {n k l:Nat} {ta te:TE} {ma me:EM} {t:TA} {m:AM} {ind:Bool}
theorem errI {G H:Hp} {Q:It → Hp → Prop}:Err mg E G H (fun r=>PostI mg E G H ind r Q):=⟨fun h=>h,fun _ h=>h⟩
theorem errB {G H:Hp} {α β:Type} {P:R β → Prop} (e:Err mg E G H P) (g:α → R β):Err mg E G H (fun r=>P (bindR r g)):=⟨fun h=>e.no h,fun x h=>e.er x h⟩
theorem DI.step {β:Type} {t:TI} {m:IM} (D:DI mg E t m ind) {G H:Hp} {σ:St} {ρ:Rh} {Q:It → Hp → Prop} {P:R β → Prop} {f:List Dt → R β} (hE:Err mg E G H P) (s:Same G H) (w:View G σ ρ) (p:P (bindR (m ρ) f))
    (h:∀ ds J G' H',m ρ = okR ds → Ext G H G' H' → ItOk J (baseI ind G') ds → P (f ds) → Q J H'):t σ H Q:=by
  refine D G H σ ρ Q s w ?_
  cases e:m ρ with
  | none=>rw [e] at p; exact hE.no p
  | some r =>
    rw [e] at p
    cases r with
    | error x=>exact hE.er x p
    | ok ds=>exact fun J G' H' x i=>h ds J G' H' e x i p
theorem itl_ok {K:PySem.W.Frag} {G:Hp} {a:Addr} {xs:List V} {ds:List Dt} (ha:SqL K G a xs) (r:RepL G ds xs):ItOk (Itl K a) G ds:=by
  intro i G1 H1 s1 s2
  have hS:SqL K H1 a xs:=(s1.trans s2).seq ha
  refine ⟨fun hi=>⟨xs,xs[i]'(by rw [r.length]; exact hi),hS,by simp⟩,fun hi=>⟨xs,hS,by rw [r.length]; exact hi⟩,fun x H2 d hd hy=>?_⟩
  obtain ⟨rfl,hy⟩:=hy
  exact ⟨G1,Ext.refl s2,Rep.mono s1 (repL_at r hd (hy xs hS))⟩
theorem itt_ok {K:PySem.W.Frag} {G:Hp} {a:Addr} {xs:List V} {ds:List Dt} (ha:SqT K G a xs) (r:RepL G ds xs):ItOk (Itt K a) G ds:=by
  intro i G1 H1 s1 s2
  have hS:SqT K H1 a xs:=seqT_mono (s1.trans s2) ha
  refine ⟨fun hi=>⟨xs,xs[i]'(by rw [r.length]; exact hi),hS,by simp⟩,fun hi=>⟨xs,hS,by rw [r.length]; exact hi⟩,fun x H2 d hd hy=>?_⟩
  obtain ⟨rfl,hy⟩:=hy
  exact ⟨G1,Ext.refl s2,Rep.mono s1 (repL_at r hd (hy xs hS))⟩
theorem itr_ok {G:Hp} (lo:Int) (k:Nat):ItOk (Itr lo k) G (Mi.nums lo k):=by
  intro i G1 H1 s1 s2
  have hl:(Mi.nums lo k).length = k:=by simp [Mi.nums]
  refine ⟨fun hi=>by rw [hl] at hi; exact hi,fun hi=>by rw [hl] at hi; exact hi,fun x H2 d hd hy=>?_⟩
  obtain ⟨rfl,rfl⟩:=hy
  refine ⟨G1,Ext.refl s2,?_⟩
  unfold Mi.nums at hd
  rw [List.getElem?_map] at hd
  cases e:(List.range k)[i]? with
  | none=>rw [e] at hd; cases hd
  | some j =>
    rw [e] at hd
    cases hd
    have hj:j = i:=by
      obtain ⟨h1,h2⟩:=List.getElem?_eq_some_iff.mp e
      rw [List.getElem_range] at h2; exact h2.symm
    subst hj
    rfl
theorem di_r1 (A:DA mg E t m 0):DI mg E (iRng1 t) (Mi.iR1 m) true:=by
  intro G H σ ρ Q s w p
  refine A.step errI s w p fun ds vs G1 H1 S T _ fr o p1=>?_
  have r:=o.repL
  match ds,r,p1 with
  | [.int j],r,p1 =>
    obtain ⟨x,rfl,hx⟩:=repL1 r
    cases (show x = .int j from hx)
    dsimp only at p1
    split at p1
    · rename_i hz
      exact ⟨j,rfl,by omega,by omega,p1 _ G1 H1 fr.ext (itr_ok 0 _)⟩
    · exact p1.elim
  | [],_,p=>exact p.elim
  | [.non],_,p=>exact p.elim
  | [.bl _],_,p=>exact p.elim
  | [.str _],_,p=>exact p.elim
  | [.lst _],_,p=>exact p.elim
  | [.tup _],_,p=>exact p.elim
  | [.scr _],_,p=>exact p.elim
  | [.exc _ _ _],_,p=>exact p.elim
  | [.ins _ _],_,p=>exact p.elim
  | [.dct _],_,p=>exact p.elim
  | x :: _ :: _,_,p=>cases x <;> exact p.elim
theorem enumD_len:∀ (ds:List Dt) (n:Nat),(Mi.enumD n ds).length = ds.length
  | [],_=>rfl
  | _ :: r,n=>by rw [Mi.enumD,List.length_cons,List.length_cons,enumD_len r]
theorem enumD_get:∀ (ds:List Dt) (n i:Nat) (d:Dt),(Mi.enumD n ds)[i]? = some d → ∃ e,ds[i]? = some e ∧ d = .tup [.int ((n + i:Nat):Int),e]
  | [],_,_,_,h=>by simp [Mi.enumD] at h
  | x :: r,n,0,d,h=>by simp [Mi.enumD] at h; exact ⟨x,by simp,by rw [← h]; rfl⟩
  | x :: r,n,i + 1,d,h=>by
    rw [Mi.enumD] at h
    obtain ⟨e,h1,h2⟩:=enumD_get r (n + 1) i d (by simpa using h)
    exact ⟨e,by simpa using h1,by rw [h2,show n + 1 + i = n + (i + 1) by omega]⟩
theorem Ext.new {G H:Hp} (s:Same G H) {T:Addr} (hT:H T = none) (o:HO):Ext G H (upd G T o) (upd H T o):=by
  refine ⟨L2.same_new (s.free hT) o,L2.same_new hT o,fun b u e=>?_,fun b hb=>upd_ne fun z=>hb (z ▸ hT)⟩
  by_cases z:b = T
  · subst z; rw [upd_same] at e ⊢; exact e
  · rw [upd_ne z] at e ⊢; exact s _ _ e
theorem ite_ok {K:PySem.W.Frag} {G:Hp} {a:Addr} {xs:List V} {ds:List Dt} (ha:G a = some (.lst xs)) (r:RepL G ds xs):ItOk (Ite K a) G (Mi.enumD 0 ds):=by
  intro i G1 H1 s1 s2
  have hS:SqL K H1 a xs:=SqL.of (s2 _ _ (s1 _ _ ha))
  rw [enumD_len]
  refine ⟨fun hi=>⟨xs,xs[i]'(by rw [r.length]; exact hi),hS,by simp⟩,fun hi=>⟨xs,hS,by rw [r.length]; exact hi⟩,fun x H2 d hd hy=>?_⟩
  obtain ⟨T,y,rfl,hT,rfl,hy⟩:=hy
  obtain ⟨e,h1,rfl⟩:=enumD_get ds 0 i d hd
  have x1:=Ext.new s2 hT (.tup [.int i,y])
  refine ⟨_,x1,T,_,rfl,upd_same,_,_,rfl,?_,_,_,rfl,Rep.mono (s1.trans x1.g) (repL_at r h1 (hy xs hS)),rfl⟩
  show V.int (i:Int) = .int ((0 + i:Nat):Int)
  rw [Nat.zero_add]
def setsV:St → List (Nat × V) → St
  | σ,[]=>σ
  | σ,(i,v) :: r=>setsV (σ.set i (some v)) r
inductive BsRep (G:Hp):List (Nat × Dt) → List (Nat × V) → Prop
  | nil:BsRep G [] []
  | cons {i d v bs ws}:Rep G d v → BsRep G bs ws → BsRep G ((i,d) :: bs) ((i,v) :: ws)
theorem View.set {G:Hp} {σ:St} {ρ:Rh} {i:Nat} {d:Dt} {v:V} (w:View G σ ρ) (r:Rep G d v):View G (σ.set i (some v)) (ρ.set i (some d)):=by
  refine ⟨by simp [w.len],fun j e h=>?_⟩
  have hj:j < ρ.length:=by
    have:=(List.getElem?_eq_some_iff.mp h).1
    simpa using this
  by_cases z:i = j
  · subst z
    rw [List.getElem?_set_self hj] at h
    cases h
    exact ⟨v,List.getElem?_set_self (by rw [← w.len]; exact hj),r⟩
  · rw [List.getElem?_set_ne z] at h
    obtain ⟨u,h1,h2⟩:=w.at j e h
    exact ⟨u,by rw [List.getElem?_set_ne z]; exact h1,h2⟩
theorem View.sets {G:Hp} {bs ws} (h:BsRep G bs ws):∀ {σ:St} {ρ:Rh},View G σ ρ → View G (setsV σ ws) (setsH ρ bs):=by
  induction h with
  | nil=>exact fun w=>w
  | cons r _ ih=>exact fun w=>ih (w.set r)
def TgOk (g:TG) (tg:Tg):Prop:=∀ (G H:Hp) (σ:St) (d:Dt) (x:V) (bs:List (Nat × Dt)) (Q:St → Hp → Prop),Same G H → Rep G d x → bindT tg d = some bs → (∀ ws,BsRep G bs ws → Q (setsV σ ws) H) → g x σ H Q
def TgsOk (g:TGs) (is:List Nat):Prop:=∀ (G H:Hp) (σ:St) (ds:List Dt) (xs:List V) (Q:St → Hp → Prop),RepL G ds xs → ds.length = is.length → (∀ ws,BsRep G (is.zip ds) ws → Q (setsV σ ws) H) → g xs σ H Q
theorem tg_name (i:Nat):TgOk (gName i) (.one i):=by
  intro G H σ d x bs Q s r e h
  cases e
  exact h [(i,x)] (.cons r .nil)
theorem tgs_nil:TgsOk gNil []:=by
  intro G H σ ds xs Q r hl h
  cases ds with
  | nil=>cases (show xs = [] from r); exact ⟨rfl,h [] .nil⟩
  | cons _ _=>simp at hl
theorem tgs_cons (i:Nat) {g:TGs} {is:List Nat} (hg:TgsOk g is):TgsOk (gCons (gName i) g) (i :: is):=by
  intro G H σ ds xs Q r hl h
  cases ds with
  | nil=>simp at hl
  | cons d ds =>
    obtain ⟨x,q,rfl,a,b⟩:=r
    exact ⟨x,q,rfl,hg G H _ ds q Q b (by simpa using hl) fun ws hw=>h ((i,x) :: ws) (.cons a hw)⟩
theorem tg_tup {K:PySem.W.Frag} {g:TGs} {is:List Nat} {k:Nat} (hg:TgsOk g is) (hk:is.length = k):TgOk (gTup K k g) (.tup is):=by
  intro G H σ d x bs Q s r e h
  cases d with
  | tup ds =>
    obtain ⟨a,xs,rfl,ha,ra⟩:=r
    rw [bindT] at e
    by_cases hz:ds.length = is.length
    · rw [if_pos hz] at e
      cases e
      exact ⟨a,xs,rfl,SqT.of (s _ _ ha),by rw [ra.length,hz,hk],hg G H σ ds xs Q ra hz h⟩
    · rw [if_neg hz] at e; cases e
  | _=>simp [bindT] at e
theorem setsV_app:∀ (ws:List (Nat × V)) (σ own:St),(∀ p ∈ ws,σ.length ≤ p.1) → ∃ own':St,own'.length = own.length ∧ setsV (σ ++ own) ws = σ ++ own'
  | [],σ,own,_=>⟨own,rfl,rfl⟩
  | (i,v) :: r,σ,own,h=>by
    have hi:σ.length ≤ i:=h (i,v) (by simp)
    rw [setsV,List.set_append_right _ _ hi]
    obtain ⟨o,h1,h2⟩:=setsV_app r σ (own.set (i - σ.length) (some v)) fun p hp=>h p (by simp [hp])
    exact ⟨o,by rw [h1,List.length_set],h2⟩
theorem BsRep.idx {G:Hp} {bs ws} (h:BsRep G bs ws):ws.map (·.1) = bs.map (·.1):=by
  induction h with
  | nil=>rfl
  | cons _ _ ih=>simp [ih]
theorem bindT_idx {tg:Tg} {d:Dt} {bs:List (Nat × Dt)} (h:bindT tg d = some bs):∀ i ∈ bs.map (·.1),i ∈ tg.idx:=by
  cases tg with
  | one i=>cases h; simp [Tg.idx]
  | tup is =>
    cases d with
    | tup ds =>
      rw [bindT] at h
      split at h
      · cases h
        intro i hi
        obtain ⟨p,hp,e⟩:=List.mem_map.mp hi
        rw [← e]
        obtain ⟨a,b⟩:=p
        exact (List.of_mem_zip hp).1
      · cases h
    | _=>simp [bindT] at h
theorem de_comp {wi:TI} {g:TG} {tif:TT} {it:IM} {tg:Tg} {c:TM} (I:DI mg E wi it ind) (hT:TgOk g tg) (C:DT mg E tif c) (B:DE mg E te me n):DE mg E (tComp wi k g tif te) (Mi.eComp it k tg c me) (n + 1):=by
  intro G H σ ρ Q s w p
  refine I.step errE s w p fun ds J G1 H1 _ x1 io p1=>?_
  by_cases hz:ds.length ≤ 100000 ∧ (tg.idx.all fun i=>decide (ρ.length ≤ i)) = true
  case neg=>rw [if_neg hz] at p1; exact p1.elim
  rw [if_pos hz] at p1
  obtain ⟨hz,hix⟩:=hz
  have hb1:Same (baseI ind G1) G1:=by
    unfold baseI
    split
    · exact fun b o e=>by cases e
    · exact Same.refl _
  refine ⟨fun i m acc H'=>m = ds.length - i ∧ i ≤ ds.length ∧ ∃ G' as S T,Fr G H G' H' S ∧ Same G1 G' ∧ OwnA G' H' n S as acc T ∧ as.length ≤ i ∧ PostE mg E G H (n + 1) (bindR (Mi.compGo ρ k tg c me (ds.drop i) as) fun es=>okR (.lst es)) Q,
    ⟨_,rfl,Nat.zero_le _,G1,[],fun _=>False,fun _ _=>False,⟨x1,fun _ z=>z.elim⟩,Same.refl _,⟨rfl,fun q d x h=>by simp at h,fun _ _ _ z=>z.elim,fun _ _ z=>z.elim⟩,Nat.le_refl _,by rw [List.drop_zero]; exact p1⟩,?_⟩
  rintro i m acc H' ⟨rfl,hi,G',as,S,T,fr,sg,o,hl,p⟩
  obtain ⟨j1,j2,j3⟩:=io i G' H' (hb1.trans sg) fr.ext.in'
  by_cases hlt:i < ds.length
  · refine .inr ⟨j1 hlt,by rw [o.len]; exact L2.big (by omega),fun acc' H''=>ds.length - (i + 1) = ds.length - (i + 1) ∧ i + 1 ≤ ds.length ∧ ∃ G' as S T,Fr G H G' H'' S ∧ Same G1 G' ∧ OwnA G' H'' n S as acc' T ∧ as.length ≤ i + 1 ∧ PostE mg E G H (n + 1) (bindR (Mi.compGo ρ k tg c me (ds.drop (i + 1)) as) fun es=>okR (.lst es)) Q,
      fun acc' H'' q=>⟨ds.length - (i + 1),by omega,q⟩,fun x H2 hy=>?_⟩
    have hd:ds[i]? = some ds[i]:=List.getElem?_eq_getElem hlt
    obtain ⟨G2,x2,r2⟩:=j3 x H2 ds[i] hd hy
    rw [List.drop_eq_getElem_cons hlt,Mi.compGo] at p
    cases eb:bindT tg ds[i] with
    | none=>rw [eb] at p; exact p.elim
    | some bs =>
      rw [eb] at p
      dsimp only at p
      refine hT G2 H2 _ _ x bs _ x2.in' r2 eb fun ws hb=>?_
      have hsl:∀ q ∈ ws,σ.length ≤ q.1:=fun q hq=>by
        have h1:q.1 ∈ bs.map (·.1):=by rw [← hb.idx]; exact List.mem_map_of_mem hq
        have h2:=List.all_eq_true.mp hix q.1 (bindT_idx eb q.1 h1)
        rw [← w.len]; exact of_decide_eq_true h2
      obtain ⟨own,ho1,ho2⟩:=setsV_app ws σ (List.replicate k none) hsl
      refine ⟨own,by rw [ho1,List.length_replicate],ho2,?_⟩
      have x02:=fr.ext.trans x2
      have w2:View G2 (setsV (σ ++ List.replicate k none) ws) (setsH (ρ ++ List.replicate k none) bs):=by
        refine View.sets hb ⟨by simp [w.len],fun j d h=>?_⟩
        by_cases hj:j < ρ.length
        · rw [List.getElem?_append_left hj] at h
          obtain ⟨v,a,b⟩:=w.at j d h
          exact ⟨v,by rw [List.getElem?_append_left (by rw [← w.len]; exact hj)]; exact a,Rep.mono x02.g b⟩
        · rw [List.getElem?_append_right (by omega),List.getElem?_replicate] at h
          split at h <;> cases h
      refine C.step ((errB errE _).from x02) x2.in' w2 p fun b H3 _ s3 p3=>?_
      have x3:Ext G2 H2 G2 H3:=Ext.same x2.in' s3
      have x03:=x02.trans x3
      have newS:∀ a,S a → H a = none ∧ G2 a = none ∧ H3 a ≠ none:=fun a ha=>by
        obtain ⟨n1,n2,n3⟩:=fr.new a ha
        exact ⟨n1,(x2.old a n3).trans n2,s3.some (x2.h.some n3)⟩
      have own3:OwnA G2 H3 n S as acc T:=⟨o.len,fun q d y h1 h2=>(o.own q d y h1 h2).mono x2.g (x2.h.trans s3),o.dis,o.sub⟩
      cases b with
      | false=>exact ⟨rfl,hlt,G2,as,S,T,⟨x03,newS⟩,sg.trans x2.g,own3,by omega,p3⟩
      | true =>
        refine B.step ((errB errE _).from x03) x3.in' w2 p3 fun e v G4 H4 S4 _ fr4 o4 p4=>?_
        have ap:∀ q b,T q b → S4 b → False:=fun q b h1 h2=>(newS b (o.sub q b h1)).2.2 (fr4.new b h2).1
        refine ⟨rfl,hlt,G4,as ++ [e],fun a=>S a ∨ S4 a,fun q b=>(q < as.length ∧ T q b) ∨ (q = as.length ∧ S4 b),⟨x03.trans fr4.ext,fun a ha=>?_⟩,sg.trans (x2.g.trans fr4.ext.g),⟨by simp [o.len],fun q d y h1 h2=>?_,fun q r b h1 h2=>?_,fun q b h=>?_⟩,by simp; omega,p4⟩
        · rcases ha with ha | ha
          · obtain ⟨n1,n2,n3⟩:=newS a ha
            exact ⟨n1,(fr4.ext.old a n3).trans n2,fr4.ext.h.some n3⟩
          · obtain ⟨n1,n2,n3⟩:=fr4.new a ha
            exact ⟨x03.h.free n1,n2,n3⟩
        · by_cases hq:q < as.length
          · rw [List.getElem?_append_left hq] at h1
            rw [List.getElem?_append_left (by rw [o.len]; exact hq)] at h2
            exact ((own3.own q d y h1 h2).mono fr4.ext.g fr4.ext.h).sub fun b z=>.inl ⟨hq,z⟩
          · rw [List.getElem?_append_right (by omega)] at h1
            rw [List.getElem?_append_right (by rw [o.len]; omega),o.len] at h2
            have hq0:q - as.length = 0:=by
              have:=(List.getElem?_eq_some_iff.mp h1).1
              simp at this; omega
            rw [hq0] at h1 h2
            simp at h1 h2
            subst h1; subst h2
            exact o4.sub fun b z=>.inr ⟨by omega,z⟩
        · rcases h1 with ⟨a1,t1⟩ | ⟨a1,t1⟩ <;> rcases h2 with ⟨a2,t2⟩ | ⟨a2,t2⟩
          · exact o.dis q r b t1 t2
          · exact (ap q b t1 t2).elim
          · exact (ap r b t2 t1).elim
          · omega
        · rcases h with ⟨_,z⟩ | ⟨_,z⟩
          · exact .inl (o.sub q b z)
          · exact .inr z
  · have e:i = ds.length:=by omega
    subst e
    refine .inl ⟨j2 (Nat.le_refl _),fun D hD=>?_⟩
    rw [List.drop_length,Mi.compGo] at p
    exact p (.ref D) G' _ _ (fr.add hD _) ⟨D,acc,T,rfl,upd_same,o.kids (fun b hb=>(fr.new b hb).2.2) hD _⟩
end
end L3

namespace L3
open PySem PySem.Spec
open L2 hiding Rep RepL
open Mi (Dt Xn R okR bindR optR bindR_ok bindR_none bindR_err optR_some optR_none Rh Sl Ro EM TM AM FM IM SM Tg Out bindT setsH setsO full frz frz1 frzAt)
variable [Kc]
structure Sat (G0 H0 S0:Hp) (σ:St) (ρ:Ro) (G H:Hp) (As:Nat → Addr → Prop):Prop where
  ext:Ext G0 H0 G H
  stb:Same S0 G
  len:ρ.length = σ.length
  «at»:∀ (i:Nat) (d:Dt) (n:Nat),ρ[i]? = some (some (d,n)) → ∃ v,σ[i]? = some (some v) ∧ Own G H n (As i) d v
  dis:∀ i j a,As i a → As j a → i = j
  new:∀ i a,As i a → H0 a = none ∧ G a = none ∧ H a ≠ none
section
variable {G0 H0 S0:Hp} {σ:St} {ρ:Ro} {G H:Hp} {As:Nat → Addr → Prop}
theorem Sat.grow (a:Sat G0 H0 S0 σ ρ G H As) {H':Hp} (s:Same H H'):Sat G0 H0 S0 σ ρ G H' As :=
  ⟨a.ext.trans (Ext.same a.ext.in' s),a.stb,a.len,fun i d n e=>let ⟨v,h1,h2⟩:=a.at i d n e; ⟨v,h1,h2.mono (Same.refl _) s⟩,a.dis,fun i b h=>let ⟨n1,n2,n3⟩:=a.new i b h; ⟨n1,n2,s.some n3⟩⟩
theorem Sat.wider (a:Sat G0 H0 S0 σ ρ G H As) {G' H':Hp} (x:Ext G H G' H'):Sat G0 H0 S0 σ ρ G' H' As :=
  ⟨a.ext.trans x,a.stb.trans x.g,a.len,fun i d n e=>let ⟨v,h1,h2⟩:=a.at i d n e; ⟨v,h1,h2.mono x.g x.h⟩,a.dis,fun i b h=>let ⟨n1,n2,n3⟩:=a.new i b h; ⟨n1,(x.old b n3).trans n2,x.h.some n3⟩⟩
theorem Sat.full (a:Sat G0 H0 S0 σ ρ G H As):∃ J,Ext G0 H0 J H ∧ Same G J ∧ View J σ (full ρ):=by
  obtain ⟨s1,s2⟩:=over_same (S:=fun b=>∃ i,As i b) a.ext.in'
  refine ⟨over G H fun b=>∃ i,As i b,⟨a.ext.g.trans s1,a.ext.h,s2,fun b hb=>?_⟩,s1,by simp [Mi.full,a.len],fun i d e=>?_⟩
  · have z:¬ ∃ i,As i b:=fun ⟨i,z⟩=>hb (a.new i b z).1
    rw [over_out z]; exact a.ext.old b hb
  · unfold Mi.full at e
    rw [List.getElem?_map] at e
    cases e1:ρ[i]? with
    | none=>rw [e1] at e; cases e
    | some o =>
      rw [e1] at e
      cases o with
      | none=>cases e
      | some sl =>
        obtain ⟨d',n⟩:=sl
        cases e
        obtain ⟨v,h1,h2⟩:=a.at i _ n e1
        exact ⟨v,h1,h2.rep s1 fun b o hb e=>by rw [over_in ⟨i,hb⟩]; exact e⟩
theorem Sat.put (a:Sat G0 H0 S0 σ ρ G H As) {i n:Nat} {d:Dt} {v:V} {S:Addr → Prop} (o:Own G H n S d v) (hS:∀ b,S b → H0 b = none ∧ G b = none ∧ H b ≠ none) (hd:∀ j b,j ≠ i → As j b → S b → False) :
    Sat G0 H0 S0 (σ.set i (some v)) (ρ.set i (some (d,n))) G H (fun j=>if j = i then S else As j):=by
  refine ⟨a.ext,a.stb,by simp [a.len],fun j e k h=>?_,fun j l b h1 h2=>?_,fun j b h=>?_⟩
  · have hj:j < ρ.length:=by
      have:=(List.getElem?_eq_some_iff.mp h).1
      simpa using this
    by_cases z:i = j
    · subst z
      rw [List.getElem?_set_self hj] at h
      cases h
      exact ⟨v,List.getElem?_set_self (by rw [← a.len]; exact hj),by rw [if_pos rfl]; exact o⟩
    · rw [List.getElem?_set_ne z] at h
      obtain ⟨u,h1,h2⟩:=a.at j e k h
      exact ⟨u,by rw [List.getElem?_set_ne z]; exact h1,by rw [if_neg (fun q=>z q.symm)]; exact h2⟩
  · try dsimp only at h1 h2
    by_cases z1:j = i
    · by_cases z2:l = i
      · rw [z1,z2]
      · rw [if_pos z1] at h1; rw [if_neg z2] at h2; exact (hd l b z2 h2 h1).elim
    · by_cases z2:l = i
      · rw [if_neg z1] at h1; rw [if_pos z2] at h2; exact (hd j b z1 h1 h2).elim
      · rw [if_neg z1] at h1; rw [if_neg z2] at h2; exact a.dis j l b h1 h2
  · try dsimp only at h
    by_cases z1:j = i
    · rw [if_pos z1] at h; exact hS b h
    · rw [if_neg z1] at h; exact a.new j b h
theorem Sat.set (a:Sat G0 H0 S0 σ ρ G H As) {H':Hp} {i n:Nat} {d:Dt} {v:V} {S:Addr → Prop} (s:Same H H') (o:Own G H' n S d v) (hS:∀ b,S b → H b = none ∧ G b = none ∧ H' b ≠ none) :
    Sat G0 H0 S0 (σ.set i (some v)) (ρ.set i (some (d,n))) G H' (fun j=>if j = i then S else As j) :=
  (a.grow s).put o (fun b hb=>⟨a.ext.h.free (hS b hb).1,(hS b hb).2⟩) fun j b _ h1 h2=>(a.new j b h1).2.2 (hS b h2).1
theorem Sat.frz1 (a:Sat G0 H0 S0 σ ρ G H As) (i:Nat):∃ G1 As1,Sat G0 H0 S0 σ (Mi.frz1 i ρ) G1 H As1:=by
  unfold Mi.frz1
  cases e1:ρ[i]? with
  | none=>exact ⟨G,As,a⟩
  | some o =>
    cases o with
    | none=>exact ⟨G,As,a⟩
    | some sl =>
      obtain ⟨d,n⟩:=sl
      dsimp only
      obtain ⟨v,h1,h2⟩:=a.at i d n e1
      obtain ⟨s1,s2⟩:=over_same (S:=As i) a.ext.in'
      have x:Ext G0 H0 (over G H (As i)) H:=⟨a.ext.g.trans s1,a.ext.h,s2,fun b hb=>by
        have z:¬ As i b:=fun z=>hb (a.new i b z).1
        rw [over_out z]; exact a.ext.old b hb⟩
      have hv:(σ.set i (some v)) = σ:=by
        have hi:i < σ.length:=(List.getElem?_eq_some_iff.mp h1).1
        have he:=(List.getElem?_eq_some_iff.mp h1).2
        rw [← he,List.set_getElem_self]
      have b:Sat G0 H0 S0 σ (ρ.set i (some (d,0))) (over G H (As i)) H (fun j b=>j ≠ i ∧ As j b):=by
        refine ⟨x,a.stb.trans s1,by simp [a.len],fun j e k h=>?_,fun j l b p q=>a.dis j l b p.2 q.2,fun j b p=>?_⟩
        · have hj:j < ρ.length:=by
            have:=(List.getElem?_eq_some_iff.mp h).1
            simpa using this
          by_cases z:i = j
          · subst z
            rw [List.getElem?_set_self hj] at h
            cases h
            exact ⟨v,h1,h2.rep s1 fun b o hb e=>by rw [over_in hb]; exact e⟩
          · rw [List.getElem?_set_ne z] at h
            obtain ⟨u,q1,q2⟩:=a.at j e k h
            exact ⟨u,q1,(q2.mono s1 (Same.refl _)).sub fun b hb=>⟨fun q=>z q.symm,hb⟩⟩
        · obtain ⟨n1,n2,n3⟩:=a.new j b p.2
          have z:¬ As i b:=fun z=>p.1 (a.dis j i b p.2 z)
          exact ⟨n1,by rw [over_out z]; exact n2,n3⟩
      exact ⟨_,_,b⟩
theorem Sat.frzAt:∀ (vs:List Nat) {ρ:Ro} {G:Hp} {As:Nat → Addr → Prop},Sat G0 H0 S0 σ ρ G H As → ∃ G1 As1,Sat G0 H0 S0 σ (Mi.frzAt vs ρ) G1 H As1
  | [],_,_,_,a=>⟨_,_,a⟩
  | i :: r,_,_,_,a=>by
    obtain ⟨G1,As1,b⟩:=a.frz1 i
    exact Sat.frzAt r b
theorem Sat.frz (a:Sat G0 H0 S0 σ ρ G H As):View G σ (Mi.frz ρ):=by
  refine ⟨by simp [Mi.frz,a.len],fun i d e=>?_⟩
  unfold Mi.frz at e
  rw [List.getElem?_map] at e
  cases e1:ρ[i]? with
  | none=>rw [e1] at e; cases e
  | some o =>
    rw [e1] at e
    cases o with
    | none=>cases e
    | some sl =>
      obtain ⟨d',n⟩:=sl
      obtain ⟨v,h1,h2⟩:=a.at i d' n e1
      simp only [Option.map_some,Option.some.injEq] at e
      split at e
      · rename_i hz
        cases e
        rcases hz with hz | hz
        · subst hz; exact ⟨v,h1,h2⟩
        · exact ⟨v,h1,Own.scalar (k:=0) (G2:=G) (H2:=H) (S2:=fun _=>False) h2 hz⟩
      · cases e
theorem Sat.store (a:Sat G0 H0 S0 σ ρ G H As) {i n:Nat} {d:Dt} {v:V} {p:Addr} {o:HO} {S:Addr → Prop} (hp:As i p) (hv:σ[i]? = some (some v)) (w:Own G (upd H p o) n S d v)
    (hS:∀ b,S b → As i b ∨ (H0 b = none ∧ G b = none ∧ H b ≠ none ∧ ∀ j,¬ As j b)):Sat G0 H0 S0 σ (ρ.set i (some (d,n))) G (upd H p o) (fun j=>if j = i then S else As j):=by
  obtain ⟨p1,p2,p3⟩:=a.new i p hp
  have hn:∀ b,H b ≠ none → upd H p o b ≠ none:=fun b hb=>by
    by_cases z:b = p
    · subst z; rw [upd_same]; simp
    · rw [upd_ne z]; exact hb
  refine ⟨⟨a.ext.g,L2.Same.upd a.ext.h p1 o,L2.Same.upd a.ext.in' p2 o,a.ext.old⟩,a.stb,by simp [a.len],fun j e k h=>?_,fun j l b h1 h2=>?_,fun j b h=>?_⟩
  · have hj:j < ρ.length:=by
      have:=(List.getElem?_eq_some_iff.mp h).1
      simpa using this
    by_cases z:i = j
    · subst z
      rw [List.getElem?_set_self hj] at h
      cases h
      exact ⟨v,hv,by rw [if_pos rfl]; exact w⟩
    · rw [List.getElem?_set_ne z] at h
      obtain ⟨u,h1,h2⟩:=a.at j e k h
      exact ⟨u,h1,by rw [if_neg (fun q=>z q.symm)]; exact h2.upd fun q=>z (a.dis i j p hp q)⟩
  · have key:∀ j b,j ≠ i → As j b → S b → False:=fun j b hj h1 h2=>by
      rcases hS b h2 with q | ⟨_,_,_,q⟩
      · exact hj (a.dis j i b h1 q)
      · exact q j h1
    try dsimp only at h1 h2
    by_cases z1:j = i
    · by_cases z2:l = i
      · rw [z1,z2]
      · rw [if_pos z1] at h1; rw [if_neg z2] at h2; exact (key l b z2 h2 h1).elim
    · by_cases z2:l = i
      · rw [if_neg z1] at h1; rw [if_pos z2] at h2; exact (key j b z1 h1 h2).elim
      · rw [if_neg z1] at h1; rw [if_neg z2] at h2; exact a.dis j l b h1 h2
  · try dsimp only at h
    by_cases z1:j = i
    · rw [if_pos z1] at h
      rcases hS b h with q | ⟨q1,q2,q3,_⟩
      · obtain ⟨n1,n2,n3⟩:=a.new i b q
        exact ⟨n1,n2,hn b n3⟩
      · exact ⟨q1,q2,hn b q3⟩
    · rw [if_neg z1] at h
      obtain ⟨n1,n2,n3⟩:=a.new j b h
      exact ⟨n1,n2,hn b n3⟩
end
def PostS (mg:Str → Option Value) (E:XK) (G0 H0 S0:Hp) (L:Nat) (r:R Out) (D:Ends):Prop:=match r with
  | none=>False
  | some (.error x)=>∀ c da G' H',Ext G0 H0 G' H' → XRep mg x c da G' H' → E c da H'
  | some (.ok (.nx ρ))=>∀ σ G H As,Sat G0 H0 S0 σ ρ G H As → D.nx σ H
  | some (.ok (.bk ρ))=>∀ σ G H As,Sat G0 H0 S0 σ ρ G H As → D.bk σ H
  | some (.ok (.ct ρ))=>∀ σ G H As,Sat G0 H0 S0 σ ρ G H As → D.ct σ H
  | some (.ok (.rt d))=>∀ v G H S,Fr G0 H0 G H S → Own G H L S d v → D.rt v H
def DS (mg:Str → Option Value) (E:XK) (L:Nat) (t:TS) (m:SM):Prop:=∀ (G0 H0 S0:Hp) (σ:St) (ρ:Ro) (G H:Hp) (As:Nat → Addr → Prop) (D:Ends),Sat G0 H0 S0 σ ρ G H As → PostS mg E G0 H0 S0 L (m ρ) D → t D σ H
section
variable {mg:Str → Option Value} {E:XK} {L n k l:Nat} {te ta tb:TE} {e ea eb:EM} {t u:TS} {m m':SM}
theorem errS {G0 H0 S0:Hp} {D:Ends}:Err mg E G0 H0 (fun r=>PostS mg E G0 H0 S0 L r D):=⟨fun h=>h,fun _ h=>h⟩
theorem ds_nil:DS mg E L tNext Mi.sNil:=fun G0 H0 S0 σ ρ G H As D a p=>p σ G H As a
theorem ds_seq (A:DS mg E L t m) (B:DS mg E L u m'):DS mg E L (tSeq t u) (Mi.sSeq m m'):=by
  intro G0 H0 S0 σ ρ G H As D a p
  refine A G0 H0 S0 σ ρ G H As _ a ?_
  unfold Mi.sSeq at p
  cases e:m ρ with
  | none=>rw [e] at p; exact p
  | some r =>
    rw [e] at p
    cases r with
    | error x=>exact p
    | ok o =>
      cases o with
      | nx ρ'=>exact fun σ' G' H' As' a'=>B G0 H0 S0 σ' ρ' G' H' As' D a' p
      | rt d=>exact p
      | bk ρ'=>exact p
      | ct ρ'=>exact p
theorem ds_if {tc:TT} {c:TM} (C:DT mg E tc c) (A:DS mg E L t m) (B:DS mg E L u m'):DS mg E L (tIfS tc t u) (Mi.sIf c m m'):=by
  intro G0 H0 S0 σ ρ G H As D a p
  obtain ⟨J,x,s,w⟩:=a.full
  refine C.step (errS.from x) x.in' w p fun b H' _ sH p1=>?_
  cases b with
  | true=>exact A G0 H0 S0 σ ρ G H' As D (a.grow sH) p1
  | false=>exact B G0 H0 S0 σ ρ G H' As D (a.grow sH) p1
theorem whole {G0 H0 S0:Hp} {σ:St} {ρ:Ro} {G H J G1 H1:Hp} {As:Nat → Addr → Prop} {S:Addr → Prop} {d:Dt} {v:V} (a:Sat G0 H0 S0 σ ρ G H As) (s:Same G J) (fr:Fr J H G1 H1 S) (o:Own G1 H1 n S d v) (hn:n < 1000) (hd:d.dep ≤ n) (hk:d.dep ≤ k) :
    Own G H1 k S d v ∧ ∀ b,S b → H b = none ∧ G b = none ∧ H1 b ≠ none :=
  ⟨o.at hd hk hn,fun b hb=>let ⟨n1,n2,n3⟩:=fr.new b hb; ⟨n1,a.ext.in'.free n1,n3⟩⟩
theorem ds_set {i:Nat} (vs:List Nat) (A:DE mg E te e n) (hn:n < 1000:=by decide):DS mg E L (tAsg te (gName i)) (Mi.sSet i n vs e):=by
  intro G0 H0 S0 σ ρ G H As D a p
  obtain ⟨J,x,s,w⟩:=a.full
  unfold Mi.sSet at p
  cases ee:e (full ρ) with
  | none=>rw [ee] at p; exact p.elim
  | some r =>
    cases r with
    | error y=>exact A.step (errS.from x) x.in' w p fun d v G1 H1 S e1 fr o p1=>by rw [ee] at e1; cases e1
    | ok d =>
      by_cases hd:d.dep ≤ n
      · refine A.step (errS.from x) x.in' w p fun d' v G1 H1 S e1 fr o p1=>?_
        rw [ee] at e1
        cases e1
        rw [if_pos hd] at p1
        obtain ⟨q1,q2⟩:=whole (k:=n) a s fr o hn hd hd
        exact p1 _ G H1 _ (a.set fr.ext.h q1 q2)
      · rw [ee] at p
        have p':PostS mg E G0 H0 S0 L (bindR (e (frz (frzAt vs ρ))) fun d'=>okR (.nx ((frzAt vs ρ).set i (some (d',n))))) D:=by
          have p2:PostS mg E G0 H0 S0 L (if d.dep ≤ n then okR (.nx (ρ.set i (some (d,n)))) else bindR (e (frz (frzAt vs ρ))) fun d'=>okR (.nx ((frzAt vs ρ).set i (some (d',n))))) D:=p
          rw [if_neg hd] at p2; exact p2
        obtain ⟨G1,As1,a1⟩:=Sat.frzAt vs a
        refine A.step (errS.from a1.ext) a1.ext.in' a1.frz p' fun d' v G2 H2 S _ fr o p1=>?_
        exact p1 _ G2 H2 _ ((a1.wider fr.ext).put o (fun b hb=>let ⟨n1,n2,n3⟩:=fr.new b hb; ⟨a1.ext.h.free n1,n2,n3⟩) fun j b _ h1 h2=>(a1.new j b h1).2.2 (fr.new b h2).1)
theorem ds_ret (vs:List Nat) (A:DE mg E te e n) (hn:n < 1000:=by decide):DS mg E L (tRet te) (Mi.sRet L n vs e):=by
  intro G0 H0 S0 σ ρ G H As D a p
  obtain ⟨J,x,s,w⟩:=a.full
  unfold Mi.sRet at p
  cases ee:e (full ρ) with
  | none=>rw [ee] at p; exact p.elim
  | some r =>
    cases r with
    | error y=>exact A.step (errS.from x) x.in' w p fun d v G1 H1 S e1 fr o p1=>by rw [ee] at e1; cases e1
    | ok d =>
      by_cases hd:d.dep ≤ n ∧ d.dep ≤ L
      · refine A.step (errS.from x) x.in' w p fun d' v G1 H1 S e1 fr o p1=>?_
        rw [ee] at e1
        cases e1
        rw [if_pos hd] at p1
        exact p1 v G1 H1 S (Fr.from x fr) (o.at hd.1 hd.2 hn)
      · rw [ee] at p
        have p2:PostS mg E G0 H0 S0 L (if d.dep ≤ n ∧ d.dep ≤ L then okR (.rt d) else if n = L then bindR (e (frz (frzAt vs ρ))) fun d'=>okR (.rt d') else none) D:=p
        rw [if_neg hd] at p2
        by_cases hl:n = L
        · rw [if_pos hl] at p2
          subst hl
          obtain ⟨G1,As1,a1⟩:=Sat.frzAt vs a
          refine A.step (errS.from a1.ext) a1.ext.in' a1.frz p2 fun d' v G2 H2 S _ fr o p1=>?_
          exact p1 v G2 H2 S (Fr.from a1.ext fr) o
        · rw [if_neg hl] at p2; exact p2.elim
theorem ds_retV (i:Nat):DS mg E L (tRet (vM i)) (Mi.sRetV L i):=by
  intro G0 H0 S0 σ ρ G H As D a p
  unfold Mi.sRetV at p
  cases e1:ρ[i]? with
  | none=>rw [e1] at p; exact p.elim
  | some o =>
    rw [e1] at p
    cases o with
    | none=>exact p.elim
    | some sl =>
      obtain ⟨d,k⟩:=sl
      obtain ⟨v,h1,h2⟩:=a.at i d k e1
      show vM i σ H D.rt
      unfold vM
      rw [h1]
      dsimp only at p
      split at p
      · rename_i hz
        rcases hz with hz | hz | hz
        · subst hz; exact p v G H (As i) ⟨a.ext,fun b hb=>a.new i b hb⟩ h2
        · subst hz
          obtain ⟨s1,s2⟩:=over_same (S:=As i) a.ext.in'
          refine p v (over G H (As i)) H (fun _=>False) ⟨⟨a.ext.g.trans s1,a.ext.h,s2,fun b hb=>?_⟩,fun _ z=>z.elim⟩ (h2.rep s1 fun b o hb e=>by rw [over_in hb]; exact e)
          have z:¬ As i b:=fun z=>hb (a.new i b z).1
          rw [over_out z]; exact a.ext.old b hb
        · exact p v G H (As i) ⟨a.ext,fun b hb=>a.new i b hb⟩ (h2.at hz.1 hz.2.1 hz.2.2)
      · exact p.elim
theorem Sat.puts {G0 H0 S0 G H:Hp} {bs:List (Nat × Dt)} {ws:List (Nat × V)} (h:BsRep G bs ws):∀ {σ:St} {ρ:Ro} {As:Nat → Addr → Prop},Sat G0 H0 S0 σ ρ G H As → ∃ As',Sat G0 H0 S0 (setsV σ ws) (setsO ρ bs) G H As':=by
  induction h with
  | nil=>exact fun a=>⟨_,a⟩
  | cons r _ ih=>exact fun a=>ih (a.put (n:=0) (S:=fun _=>False) r (fun _ z=>z.elim) fun _ _ _ _ z=>z.elim)
theorem ds_app (i:Nat) (A:DE mg E te e n) (hn:n < 1000:=by decide):DS mg E L (tDrop (tML appM (vM i) (tCons te tNil))) (Mi.sApp i n e):=by
  intro G0 H0 S0 σ ρ G H As D a p
  obtain ⟨J,x,s,w⟩:=a.full
  unfold Mi.sApp at p
  cases e1:ρ[i]? with
  | none=>rw [e1] at p; exact p.elim
  | some o =>
    rw [e1] at p
    match o,e1,p with
    | none,_,p=>exact p.elim
    | some (.lst ds,k + 1),e1,p =>
      obtain ⟨v,h1,q,xs,T,rfl,hq,kd⟩:=a.at i _ _ e1
      unfold tDrop tML vM
      rw [h1]
      refine ⟨xs,hq,?_⟩
      refine A.step (errS.from x) x.in' w p fun d y G1 H1 S _ fr o p1=>?_
      split at p1
      · rename_i hz
        obtain ⟨q1,q2⟩:=whole (k:=k) a s fr o hn hz.2.1 hz.2.2
        refine ⟨xs,fr.ext.h _ _ hq,by rw [kd.len]; exact L2.big (by omega),?_⟩
        have hp:=kd.top
        have a1:=a.grow fr.ext.h
        have nS:¬ S q:=fun z=>(a.new i q hp).2.2 (q2 q z).1
        have ap:∀ r b,T r b → S b → False:=fun r b h1 h2=>(a.new i b (kd.sub r b h1)).2.2 (q2 b h2).1
        refine p1 σ G _ _ (a1.store (S:=fun b=>As i b ∨ S b) hp h1 ⟨q,_,fun r b=>(r < ds.length ∧ T r b) ∨ (r = ds.length ∧ S b),rfl,upd_same,⟨by simp [kd.len],fun r d' z g1 g2=>?_,.inl hp,fun r z=>?_,fun r r' b z1 z2=>?_,fun r b z=>?_⟩⟩ fun b z=>?_)
        · by_cases hr:r < ds.length
          · rw [List.getElem?_append_left hr] at g1
            rw [List.getElem?_append_left (by rw [kd.len]; exact hr)] at g2
            exact (((kd.own r d' z g1 g2).mono (Same.refl _) fr.ext.h).upd (kd.out r)).sub fun b z=>.inl ⟨hr,z⟩
          · rw [List.getElem?_append_right (by omega)] at g1
            rw [List.getElem?_append_right (by rw [kd.len]; omega),kd.len] at g2
            have hq0:r - ds.length = 0:=by
              have:=(List.getElem?_eq_some_iff.mp g1).1
              simp at this; omega
            rw [hq0] at g1 g2
            simp at g1 g2
            subst g1; subst g2
            exact (q1.upd nS).sub fun b z=>.inr ⟨by omega,z⟩
        · rcases z with ⟨_,z⟩ | ⟨_,z⟩
          · exact kd.out r z
          · exact nS z
        · rcases z1 with ⟨c1,t1⟩ | ⟨c1,t1⟩ <;> rcases z2 with ⟨c2,t2⟩ | ⟨c2,t2⟩
          · exact kd.dis r r' b t1 t2
          · exact (ap r b t1 t2).elim
          · exact (ap r' b t2 t1).elim
          · omega
        · rcases z with ⟨_,z⟩ | ⟨_,z⟩
          · exact .inl (kd.sub r b z)
          · exact .inr z
        · rcases z with z | z
          · exact .inl z
          · obtain ⟨n1,n2,n3⟩:=q2 b z
            exact .inr ⟨a.ext.h.free n1,n2,n3,fun j y=>(a.new j b y).2.2 n1⟩
      · exact p1.elim
    | some (.lst ds,0),_,p=>exact p.elim
    | some (.non,_),_,p=>exact p.elim
    | some (.bl _,_),_,p=>exact p.elim
    | some (.int _,_),_,p=>exact p.elim
    | some (.str _,_),_,p=>exact p.elim
    | some (.tup _,_),_,p=>exact p.elim
    | some (.scr _,_),_,p=>exact p.elim
    | some (.exc _ _ _,_),_,p=>exact p.elim
    | some (.ins _ _,_),_,p=>exact p.elim
    | some (.dct _,_),_,p=>exact p.elim
theorem Kids.pop {P:(Addr → Prop) → Dt → V → Prop} {S:Addr → Prop} {a:Addr} {ds:List Dt} {xs:List V} {T:Nat → Addr → Prop} (k:Kids P S a ds xs T) (q:Nat) :
    Kids P (fun b=>S b ∧ ¬ T q b) a (ds.eraseIdx q) (xs.eraseIdx q) (fun r=>if r < q then T r else T (r + 1)):=by
  refine ⟨by rw [List.length_eraseIdx,List.length_eraseIdx,k.len],fun r d x h1 h2=>?_,⟨k.top,k.out q⟩,fun r=>?_,fun r r' b z1 z2=>?_,fun r b z=>?_⟩
  · rw [List.getElem?_eraseIdx] at h1 h2
    try dsimp only
    by_cases hr:r < q
    · rw [if_pos hr] at h1 h2 ⊢; exact k.own r d x h1 h2
    · rw [if_neg hr] at h1 h2 ⊢; exact k.own (r + 1) d x h1 h2
  · try dsimp only
    split
    · exact k.out _
    · exact k.out _
  · try dsimp only at z1 z2
    by_cases h1:r < q <;> by_cases h2:r' < q
    · rw [if_pos h1] at z1; rw [if_pos h2] at z2; exact k.dis _ _ b z1 z2
    · rw [if_pos h1] at z1; rw [if_neg h2] at z2; have:=k.dis _ _ b z1 z2; omega
    · rw [if_neg h1] at z1; rw [if_pos h2] at z2; have:=k.dis _ _ b z1 z2; omega
    · rw [if_neg h1] at z1; rw [if_neg h2] at z2; have:=k.dis _ _ b z1 z2; omega
  · try dsimp only at z
    by_cases h1:r < q
    · rw [if_pos h1] at z; exact ⟨k.sub _ b z,fun w=>by have:=k.dis _ _ b z w; omega⟩
    · rw [if_neg h1] at z; exact ⟨k.sub _ b z,fun w=>by have:=k.dis _ _ b z w; omega⟩
theorem own_up {G H:Hp} {p:Addr} {o:HO} {S:Addr → Prop} {a:Addr} {ds:List Dt} {xs:List V} {T:Nat → Addr → Prop} (k:Kids (Own G H n) S a ds xs T) (hp:∀ q,¬ T q p):Kids (Own G (upd H p o) n) S a ds xs T :=
  ⟨k.len,fun q d x h1 h2=>(k.own q d x h1 h2).upd (hp q),k.top,k.out,k.dis,k.sub⟩
end
end L3

namespace L3
open PySem PySem.Spec
open L2 hiding Rep RepL
open Mi (Dt Xn R okR bindR optR bindR_ok bindR_none bindR_err optR_some optR_none Rh Sl Ro EM TM AM FM IM SM Tg Out bindT setsH setsO full frz frz1 frzAt)
section
variable [Kc] {mg:Str → Option Value} {E:XK} {L n k l:Nat} {te ta tb:TE} {e ea eb:EM} {t u:TS} {m m':SM}
theorem ds_appPop (j i:Nat) (A:DE mg E te e n):DS mg E L (tDrop (tML appM (vM j) (tCons (tML popM (vM i) (tCons te tNil)) tNil))) (Mi.sAppPop j i e):=by
  intro G0 H0 S0 σ ρ G H As D a p
  obtain ⟨J,x,s,w⟩:=a.full
  unfold Mi.sAppPop at p
  cases f1:ρ[j]? with
  | none=>rw [f1] at p; exact p.elim
  | some oj =>
    rw [f1] at p
    match oj,f1,p with
    | none,_,p=>exact p.elim
    | some (.lst es,l + 1),f1,p =>
      cases e1:ρ[i]? with
      | none=>rw [e1] at p; exact p.elim
      | some o =>
        rw [e1] at p
        match o,e1,p with
        | none,_,p=>exact p.elim
        | some (.lst ds,k + 1),e1,p =>
          obtain ⟨v',g1,q',ys,T',rfl,hq',kd'⟩:=a.at j _ _ f1
          obtain ⟨v,h1,q,xs,T,rfl,hq,kd⟩:=a.at i _ _ e1
          unfold tDrop tML tCons vM
          rw [g1]
          refine ⟨ys,hq',?_⟩
          dsimp only
          rw [h1]
          refine ⟨xs,hq,?_⟩
          refine (de_frz A).step (errS.from x) x.in' w p fun d y G1 H1 S _ fr o p1=>?_
          cases d with
          | int z =>
            cases (show y = .int z from o)
            try dsimp only at p1
            cases ei:Mi.ixA ds.length z with
            | none=>rw [ei] at p1; exact p1.elim
            | some c =>
              rw [ei] at p1
              try dsimp only at p1
              cases ec:ds[c]? with
              | none=>rw [ec] at p1; exact p1.elim
              | some dc =>
                rw [ec] at p1
                try dsimp only at p1
                split at p1
                · rename_i hz
                  obtain ⟨hij,hz1,hz2,hlv⟩:=hz
                  rw [ixA_eq] at ei
                  obtain ⟨b1,b2,b3,b4⟩:=ixN_seq ei
                  have hc:c < xs.length:=by rw [kd.len]; exact b2
                  have hx:xs[c]? = some xs[c]:=List.getElem?_eq_getElem hc
                  refine ⟨xs,c,xs[c],fr.ext.h _ _ hq,⟨by omega,by omega⟩,by rw [kd.len]; exact b1,hx,?_⟩
                  have a1:=a.grow fr.ext.h
                  have kd1:Kids (Own G H1 k) (As i) q ds xs T:=kd.imp (fun _ _ _ _ w=>w.mono (Same.refl _) fr.ext.h) fun _ z=>z
                  have hqq:q' ≠ q:=fun z=>hij (a.dis i j q kd.top (z ▸ kd'.top))
                  have hjq:¬ As j q:=fun z=>hij (a.dis i j q kd.top z)
                  have kd1':Kids (Own G (upd H1 q (.lst (xs.eraseIdx c))) l) (As j) q' es ys T':=own_up (kd'.imp (fun _ _ _ _ w=>w.mono (Same.refl _) fr.ext.h) fun _ z=>z) fun r z=>hjq (kd'.sub r q z)
                  refine ⟨ys,by rw [upd_ne hqq]; exact fr.ext.h _ _ hq',by rw [kd'.len]; exact L2.big (by omega),?_⟩
                  have a2:=a1.store (o:=.lst (xs.eraseIdx c)) (n:=k + 1) (d:=.lst (ds.eraseIdx c)) (S:=fun b=>As i b ∧ ¬ T c b) kd.top h1 ⟨q,_,_,rfl,upd_same,own_up (kd1.pop c) fun r=>by split <;> exact kd.out _⟩ fun b z=>.inl z.1
                  have wc:Own G (upd H1 q (.lst (xs.eraseIdx c))) l (T c) dc xs[c]:=by
                    have w0:=(kd1.own c dc _ ec hx).upd (o:=.lst (xs.eraseIdx c)) (kd.out c)
                    rcases hlv with z | ⟨z1,z2,z3⟩
                    · subst z; exact w0
                    · exact w0.at z1 z2 z3
                  have nT:¬ T c q':=fun z=>hij (a.dis i j q' (kd.sub c q' z) kd'.top)
                  have ap:∀ r b,T' r b → T c b → False:=fun r b z1 z2=>hij (a.dis i j b (kd.sub c b z2) (kd'.sub r b z1))
                  have e3:(if j = i then fun b=>As i b ∧ ¬ T c b else As j) = As j:=if_neg (fun z=>hij z.symm)
                  have hp:(fun l=>if l = i then fun b=>As i b ∧ ¬ T c b else As l) j q':=by
                    show (if j = i then fun b=>As i b ∧ ¬ T c b else As j) q'
                    rw [e3]; exact kd'.top
                  refine p1 σ G _ _ (a2.store (i:=j) (p:=q') (S:=fun b=>As j b ∨ T c b) (n:=l + 1) (d:=.lst (es ++ [dc])) (v:=.ref q') (o:=.lst (ys ++ [xs[c]])) hp g1
                    ⟨q',_,fun r b=>(r < es.length ∧ T' r b) ∨ (r = es.length ∧ T c b),rfl,upd_same,⟨by simp [kd'.len],fun r d' z f1 f2=>?_,.inl kd'.top,fun r z=>?_,fun r r' b z1 z2=>?_,fun r b z=>?_⟩⟩ fun b z=>?_)
                  · by_cases hr:r < es.length
                    · rw [List.getElem?_append_left hr] at f1
                      rw [List.getElem?_append_left (by rw [kd'.len]; exact hr)] at f2
                      exact ((kd1'.own r d' z f1 f2).upd (kd'.out r)).sub fun b z=>.inl ⟨hr,z⟩
                    · rw [List.getElem?_append_right (by omega)] at f1
                      rw [List.getElem?_append_right (by rw [kd'.len]; omega),kd'.len] at f2
                      have hq0:r - es.length = 0:=by
                        have:=(List.getElem?_eq_some_iff.mp f1).1
                        simp at this; omega
                      rw [hq0] at f1 f2
                      simp at f1 f2
                      subst f1; subst f2
                      exact (wc.upd nT).sub fun b z=>.inr ⟨by omega,z⟩
                  · rcases z with ⟨_,z⟩ | ⟨_,z⟩
                    · exact kd'.out r z
                    · exact nT z
                  · rcases z1 with ⟨c1,t1⟩ | ⟨c1,t1⟩ <;> rcases z2 with ⟨c2,t2⟩ | ⟨c2,t2⟩
                    · exact kd'.dis r r' b t1 t2
                    · exact (ap r b t1 t2).elim
                    · exact (ap r' b t2 t1).elim
                    · omega
                  · rcases z with ⟨_,z⟩ | ⟨_,z⟩
                    · exact .inl (kd'.sub r b z)
                    · exact .inr z
                  · rcases z with z | z
                    · refine .inl ?_
                      show (if j = i then fun b=>As i b ∧ ¬ T c b else As j) b
                      rw [e3]; exact z
                    · obtain ⟨n1,n2,n3⟩:=a1.new i b (kd.sub c b z)
                      refine .inr ⟨n1,n2,?_,fun r y=>?_⟩
                      · rw [upd_ne (fun y:b = q=>kd.out c (y ▸ z))]; exact n3
                      · have y':(if r = i then fun b=>As i b ∧ ¬ T c b else As r) b:=y
                        by_cases hr:r = i
                        · rw [if_pos hr] at y'; exact y'.2 z
                        · rw [if_neg hr] at y'; exact hr (a.dis r i b y' (kd.sub c b z))
                · exact p1.elim
          | _=>exact p1.elim
        | some (.lst ds,0),_,p=>exact p.elim
        | some (.non,_),_,p=>exact p.elim
        | some (.bl _,_),_,p=>exact p.elim
        | some (.int _,_),_,p=>exact p.elim
        | some (.str _,_),_,p=>exact p.elim
        | some (.tup _,_),_,p=>exact p.elim
        | some (.scr _,_),_,p=>exact p.elim
        | some (.exc _ _ _,_),_,p=>exact p.elim
        | some (.ins _ _,_),_,p=>exact p.elim
        | some (.dct _,_),_,p=>exact p.elim
    | some (.lst ds,0),_,p=>exact p.elim
    | some (.non,_),_,p=>exact p.elim
    | some (.bl _,_),_,p=>exact p.elim
    | some (.int _,_),_,p=>exact p.elim
    | some (.str _,_),_,p=>exact p.elim
    | some (.tup _,_),_,p=>exact p.elim
    | some (.scr _,_),_,p=>exact p.elim
    | some (.exc _ _ _,_),_,p=>exact p.elim
    | some (.ins _ _,_),_,p=>exact p.elim
    | some (.dct _,_),_,p=>exact p.elim
theorem for_of {G0 H0 S0:Hp} {D:Ends} {g:TG} {tg:Tg} {J:It} {ds:List Dt} {GJ:Hp} (hT:TgOk g tg) (B:DS mg E L t m) (io:ItOk J GJ ds) {σ:St} {ρ:Ro} {G H:Hp} {As:Nat → Addr → Prop} (a:Sat G0 H0 S0 σ ρ G H As) (sJ:Same GJ G)
    (p:PostS mg E G0 H0 S0 L (Mi.forGo tg m ds ρ) D):tForK g t D σ J H:=by
  refine ⟨fun i c σ H=>c = ds.length - i ∧ i ≤ ds.length ∧ ∃ ρ G As,Sat G0 H0 S0 σ ρ G H As ∧ Same GJ G ∧ PostS mg E G0 H0 S0 L (Mi.forGo tg m (ds.drop i) ρ) D,
    ⟨_,rfl,Nat.zero_le _,ρ,G,As,a,sJ,by rw [List.drop_zero]; exact p⟩,?_⟩
  rintro i c σ H ⟨rfl,hi,ρ,G,As,a,sJ,p⟩
  obtain ⟨j1,j2,j3⟩:=io i G H sJ a.ext.in'
  by_cases hlt:i < ds.length
  · refine .inr ⟨j1 hlt,fun σ' H'=>i + 1 ≤ ds.length ∧ ∃ ρ G As,Sat G0 H0 S0 σ' ρ G H' As ∧ Same GJ G ∧ PostS mg E G0 H0 S0 L (Mi.forGo tg m (ds.drop (i + 1)) ρ) D,fun σ' H' q=>⟨ds.length - (i + 1),by omega,rfl,q⟩,fun x H2 hy=>?_⟩
    have hd:ds[i]? = some ds[i]:=List.getElem?_eq_getElem hlt
    obtain ⟨G2,x2,r2⟩:=j3 x H2 ds[i] hd hy
    rw [List.drop_eq_getElem_cons hlt,Mi.forGo] at p
    cases eb:bindT tg ds[i] with
    | none=>rw [eb] at p; exact p.elim
    | some bs =>
      rw [eb] at p
      try dsimp only at p
      refine hT G2 H2 _ _ x bs _ x2.in' r2 eb fun ws hb=>?_
      obtain ⟨As2,a2⟩:=Sat.puts hb (a.wider x2)
      have a3:Sat G0 H0 GJ (setsV σ ws) (setsO ρ bs) G2 H2 As2:=⟨a2.ext,sJ.trans x2.g,a2.len,a2.at,a2.dis,a2.new⟩
      have key:∀ (S1:Hp),Same S0 S1 → Same GJ S1 → Sat G0 H0 S1 (setsV σ ws) (setsO ρ bs) G2 H2 As2 → t { D with nx:=fun σ' H'=>i + 1 ≤ ds.length ∧ ∃ ρ G As,Sat G0 H0 S0 σ' ρ G H' As ∧ Same GJ G ∧ PostS mg E G0 H0 S0 L (Mi.forGo tg m (ds.drop (i + 1)) ρ) D,ct:=fun σ' H'=>i + 1 ≤ ds.length ∧ ∃ ρ G As,Sat G0 H0 S0 σ' ρ G H' As ∧ Same GJ G ∧ PostS mg E G0 H0 S0 L (Mi.forGo tg m (ds.drop (i + 1)) ρ) D,bk:=D.nx } (setsV σ ws) H2:=by
        intro S1 s1 s2 a4
        refine B G0 H0 S1 _ _ G2 H2 As2 _ a4 ?_
        have back:∀ {σ':St} {ρ':Ro} {G' H':Hp} {As':Nat → Addr → Prop},Sat G0 H0 S1 σ' ρ' G' H' As' → Sat G0 H0 S0 σ' ρ' G' H' As' ∧ Same GJ G':=fun a5=>⟨⟨a5.ext,s1.trans a5.stb,a5.len,a5.at,a5.dis,a5.new⟩,s2.trans a5.stb⟩
        cases em:m (setsO ρ bs) with
        | none=>rw [em] at p; exact p
        | some r =>
          rw [em] at p
          cases r with
          | error y=>exact p
          | ok o =>
            cases o with
            | nx ρ'=>exact fun σ' G' H' As' a5=>⟨hlt,ρ',G',As',(back a5).1,(back a5).2,p⟩
            | ct ρ'=>exact fun σ' G' H' As' a5=>⟨hlt,ρ',G',As',(back a5).1,(back a5).2,p⟩
            | bk ρ'=>exact fun σ' G' H' As' a5=>p σ' G' H' As' (back a5).1
            | rt d=>exact p
      exact key G2 a2.stb (sJ.trans x2.g) ⟨a2.ext,Same.refl _,a2.len,a2.at,a2.dis,a2.new⟩
  · have e:i = ds.length:=by omega
    subst e
    rw [List.drop_length,Mi.forGo] at p
    exact .inl ⟨j2 (Nat.le_refl _),p σ G H As a⟩
theorem ds_for {wi:TI} {it:IM} {g:TG} {tg:Tg} (vs:List Nat) {ind:Bool} (I:DI mg E wi it ind) (hT:TgOk g tg) (B:DS mg E L t m):DS mg E L (fun D σ H=>wi σ H (tForK g t D σ)) (Mi.sFor vs it tg m):=by
  intro G0 H0 S0 σ ρ G H As D a p
  obtain ⟨G1,As1,a1⟩:=Sat.frzAt vs a
  refine I.step (errS.from a1.ext) a1.ext.in' a1.frz p fun ds J G2 H2 _ x2 io p1=>?_
  refine for_of hT B io (a1.wider x2) ?_ p1
  unfold baseI
  split
  · exact fun b o e=>by cases e
  · exact Same.refl _
theorem ds_forR {wi:TI} {it:IM} {i:Nat} (I:DI mg E wi it true) (B:DS mg E L t m):DS mg E L (fun D σ H=>wi σ H (tForK (gName i) t D σ)) (Mi.sForR it i m):=by
  intro G0 H0 S0 σ ρ G H As D a p
  obtain ⟨J,x,s,w⟩:=a.full
  refine I.step (errS.from x) x.in' w p fun ds J G2 H2 _ x2 io p1=>?_
  exact for_of (tg_name i) B io (a.grow x2.h) (fun b o e=>by cases e) p1
theorem wh_of {G0 H0 S0:Hp} {D:Ends} {tc:TT} {c:TM} (C:DT mg E tc c) (B:DS mg E L t m) (N:Nat) {σ:St} {ρ:Ro} {G H:Hp} {As:Nat → Addr → Prop} (a:Sat G0 H0 S0 σ ρ G H As) (p:PostS mg E G0 H0 S0 L (Mi.whGo c m N ρ) D):tWhile tc t D σ H:=by
  refine ⟨fun i σ H=>∃ ρ G As,Sat G0 H0 S0 σ ρ G H As ∧ PostS mg E G0 H0 S0 L (Mi.whGo c m i ρ) D,⟨N,ρ,G,As,a,p⟩,?_⟩
  rintro i σ H ⟨ρ,G,As,a,p⟩
  cases i with
  | zero=>exact p.elim
  | succ i =>
    obtain ⟨J,x,s,w⟩:=a.full
    rw [Mi.whGo] at p
    refine C.step (errS.from x) x.in' w p fun b H' _ sH p1=>?_
    cases b with
    | false=>exact p1 σ G H' As (a.grow sH)
    | true =>
      rw [if_pos rfl]
      refine ⟨fun σ' H'=>∃ ρ G As,Sat G0 H0 S0 σ' ρ G H' As ∧ PostS mg E G0 H0 S0 L (Mi.whGo c m i ρ) D,fun σ' H' q=>⟨i,Nat.lt_succ_self i,q⟩,?_⟩
      refine B G0 H0 S0 σ ρ G H' As _ (a.grow sH) ?_
      rw [if_pos rfl] at p1
      cases em:m ρ with
      | none=>rw [em] at p1; exact p1
      | some r =>
        rw [em] at p1
        cases r with
        | error y=>exact p1
        | ok o =>
          cases o with
          | nx ρ'=>exact fun σ' G' H' As' a5=>⟨ρ',G',As',a5,p1⟩
          | ct ρ'=>exact fun σ' G' H' As' a5=>⟨ρ',G',As',a5,p1⟩
          | bk ρ'=>exact fun σ' G' H' As' a5=>p1 σ' G' H' As' a5
          | rt d=>exact p1
theorem ds_while {tc:TT} {c:TM} (C:DT mg E tc c) (B:DS mg E L t m):DS mg E L (tWhile tc t) (Mi.sWhile c m):=fun G0 H0 S0 σ ρ G H As D a p=>wh_of C B _ a p
theorem dz (A:DE mg E te e 0):DE mg E te e 0:=A
theorem spM_len {P N:Nat} {vs:List V} {H:Hp} {Q:VK} {E:XK} (h:spM mg L (Mi.runF P N m) vs H Q E):vs.length = P:=by
  obtain ⟨G,ds,s,r,p⟩:=h
  rw [r.length]
  unfold Mi.runF at p
  split at p
  · rename_i h; exact h
  · exact p.elim
theorem run_ok {P:Nat} {N:List Str} {vs:List V} {H:Hp} {Q:VK} (B:DS mg E L t m) (h:spM mg L (Mi.runF P N.length m) vs H Q E):t { nx:=fun _ H'=>Q .non H',rt:=Q } (L2.start N vs) H:=by
  obtain ⟨G,ds,s,r,p⟩:=h
  unfold Mi.runF at p
  split at p
  · refine B G H G _ (Mi.startO N.length ds) G H (fun _ _=>False) _ ⟨Ext.refl s,Same.refl _,?_,fun i d n e=>?_,fun _ _ _ z=>z.elim,fun _ _ z=>z.elim⟩ ?_
    · unfold Mi.startO L2.start
      simp [r.length]
    · unfold Mi.startO at e
      by_cases hi:i < ds.length
      · rw [List.getElem?_append_left (by simpa using hi),List.getElem?_map] at e
        cases e1:ds[i]? with
        | none=>rw [e1] at e; cases e
        | some d' =>
          rw [e1] at e
          cases e
          have hv:vs[i]? = some (vs[i]'(by rw [r.length]; exact hi)):=by simp
          refine ⟨vs[i]'(by rw [r.length]; exact hi),?_,repL_at r e1 hv⟩
          unfold L2.start
          rw [List.getElem?_append_left (by simpa [r.length] using hi),List.getElem?_map,hv]
          rfl
      · rw [List.getElem?_append_right (by simpa using hi),List.getElem?_replicate] at e
        split at e <;> cases e
    · cases em:m (Mi.startO N.length ds) with
      | none=>rw [em] at p; exact p
      | some r =>
        rw [em] at p
        cases r with
        | error y=>exact p
        | ok o =>
          cases o with
          | nx ρ'=>exact fun σ' G' H' As' a=>PostE.val (d:=.non) p a.ext rfl rfl
          | rt d=>exact p
          | bk ρ'=>exact p.elim
          | ct ρ'=>exact p.elim
  · exact p.elim
end
end L3
namespace L3
open PySem PySem.Spec
open L2 hiding Rep RepL
open Mi (Dt FM okR)
def sp0 (K:PySem.W.Frag) (mg:Str → Option Value) (L:Nat) (f:FM):Sp:=fun vs H Q _=>@spM ⟨K⟩ mg L f vs H Q E0
end L3

namespace L3
open PySem PySem.Spec
open L2 hiding Rep RepL
open Mi (Dt Xn R okR bindR optR bindR_ok bindR_none bindR_err optR_some optR_none Rh Sl Ro EM TM AM FM IM SM OM Tg Out bindT setsH setsO full frz frz1 frzAt)
section
variable [Kc] {mg:Str → Option Value} {E:XK} {L n k l:Nat} {te ta tb:TE} {e ea eb:EM} {t u:TS} {m m':SM}
theorem flat_of {G:Hp} {d:Dt} {v:V} (h:Rep G d v) (hd:d.dep = 0):flatV v = true:=(conv_rep (by omega) h).flat (Nat.le_zero.mp (Nat.le_trans (conv_dep (by omega)) (Nat.le_of_eq hd)))
theorem flatEq_of {G:Hp} {d e:Dt} {v u:V} (h:Rep G d v) (h':Rep G e u) (hd:d.dep = 0) (he:e.dep = 0):eqV v u = Dt.eq d e:=by
  rw [← conv_eq (by omega) (by omega)]
  exact (conv_rep (by omega) h).flatEq (conv_rep (by omega) h') (Nat.le_zero.mp (Nat.le_trans (conv_dep (by omega)) (Nat.le_of_eq hd))) (Nat.le_zero.mp (Nat.le_trans (conv_dep (by omega)) (Nat.le_of_eq he)))
def DO (mg:Str → Option Value) (E:XK) (t:TO) (m:OM):Prop:=∀ (G H:Hp) (σ:St) (ρ:Rh) (Q:Option Int → Hp → Prop),Same G H → View G σ ρ →
  (match m ρ with
    | none=>False
    | some (.error x)=>∀ c da G' H',Ext G H G' H' → XRep mg x c da G' H' → E c da H'
    | some (.ok o)=>∀ H',Same H H' → Q o H') → t σ H Q
theorem DO.step {β:Type} {t:TO} {m:OM} (D:DO mg E t m) {G H:Hp} {σ:St} {ρ:Rh} {Q:Option Int → Hp → Prop} {P:R β → Prop} {f:Option Int → R β} (hE:Err mg E G H P) (s:Same G H) (w:View G σ ρ) (p:P (bindR (m ρ) f))
    (h:∀ b H',m ρ = okR b → Same H H' → P (f b) → Q b H'):t σ H Q:=by
  refine D G H σ ρ Q s w ?_
  cases e:m ρ with
  | none=>rw [e] at p; exact hE.no p
  | some r =>
    rw [e] at p
    cases r with
    | error x=>exact hE.er x p
    | ok b=>exact fun H' sH=>h b H' e sH p
theorem do_no:DO mg E tNoPart Mi.oNo:=fun G H σ ρ Q s w p=>p H (Same.refl _)
theorem do_e (A:DE mg E te e k):DO mg E (tPart te) (Mi.oE e):=by
  intro G H σ ρ Q s w p
  unfold Mi.oE at p
  refine (de_frz A).step (P:=fun r=>match r with
    | none=>False
    | some (.error x)=>∀ c da G' H',Ext G H G' H' → XRep mg x c da G' H' → E c da H'
    | some (.ok o)=>∀ H',Same H H' → Q o H') ⟨fun h=>h,fun _ h=>h⟩ s w p fun d v G1 H1 S _ fr o p1=>?_
  cases d with
  | int i=>exact ⟨i,o,p1 H1 fr.ext.h⟩
  | _=>exact p1.elim
theorem cutIx_eq (n d:Nat) (o:Option Int):Mi.cutIx n d o = HT.sIx n d o:=by cases o <;> rfl
theorem repL_drop {G:Hp}:∀ {ds:List Dt} {xs:List V} (i:Nat),RepL G ds xs → RepL G (ds.drop i) (xs.drop i)
  | ds,xs,0,r=>by simpa using r
  | [],xs,i + 1,r=>by cases (show xs = [] from r); exact rfl
  | d :: ds,xs,i + 1,r=>by
    obtain ⟨x,q,rfl,a,b⟩:=r
    exact repL_drop i b
theorem repL_take {G:Hp}:∀ {ds:List Dt} {xs:List V} (i:Nat),RepL G ds xs → RepL G (ds.take i) (xs.take i)
  | ds,xs,0,r=>by simp; exact rfl
  | [],xs,i + 1,r=>by cases (show xs = [] from r); exact rfl
  | d :: ds,xs,i + 1,r=>by
    obtain ⟨x,q,rfl,a,b⟩:=r
    exact ⟨x,_,rfl,a,repL_take i b⟩
theorem repL_cut {G:Hp} {ds:List Dt} {xs:List V} (r:RepL G ds xs) (lo hi:Option Int):RepL G (Mi.cutA ds lo hi) (cutV xs lo hi):=by
  unfold Mi.cutA cutV
  rw [cutIx_eq,cutIx_eq,r.length]
  exact repL_take _ (repL_drop _ r)
def RSl (r:V → Option Int → Option Int → Hp → VK → Prop) (n:Nat):Prop:=∀ (mg:Str → Option Value) (E:XK) (G H:Hp) (d:Dt) (x:V) (lo hi:Option Int) (Q:VK),Same G H → Rep G d x → PostE mg E G H n (optR (Mi.slD d lo hi)) Q → r x lo hi H Q
theorem de_sl' {r:V → Option Int → Option Int → Hp → VK → Prop} {tl th:TO} {ml mh:OM} (hr:RSl r n) (A:DE mg E te e k) (B:DO mg E tl ml) (C:DO mg E th mh):DE mg E (tSl r te tl th) (Mi.eSl e ml mh) n:=by
  intro G H σ ρ Q s w p
  refine (de_frz A).step errE s w p fun d v G1 H1 S _ fr o p1=>?_
  refine B.step (errE.from fr.ext) fr.ext.in' (w.mono fr.ext.g) p1 fun lo H2 _ s2 p2=>?_
  have x2:=fr.ext.trans (Ext.same fr.ext.in' s2)
  refine C.step (errE.from x2) x2.in' (w.mono fr.ext.g) p2 fun hi H3 _ s3 p3=>?_
  have x3:=x2.trans (Ext.same x2.in' s3)
  exact hr mg E G1 H3 d v lo hi Q x3.in' o (PostE.from p3 x3)
end
end L3

namespace L3
open PySem PySem.Spec
open L2 hiding Rep RepL
open Mi (Dt Xn R okR bindR optR bindR_ok bindR_none bindR_err optR_some optR_none Rh Sl Ro EM TM AM FM IM SM OM Tg Out bindT setsH setsO full frz frz1 frzAt)
section
variable [Kc] {mg:Str → Option Value} {E:XK} {L n k l:Nat} {te ta tb:TE} {e ea eb ma:EM} {t:TA} {m:AM}
theorem rs_u:RSl (rSlU Kc.K) 1:=by
  intro mg E G H d x lo hi Q s h p
  cases d with
  | lst ds =>
    obtain ⟨a,xs,rfl,ha,r⟩:=h
    exact ⟨xs,SqL.of (s _ _ ha),fun q hq=>PostE.lst p (Ext.refl s) (repL_cut r lo hi) hq⟩
  | str z =>
    cases (show x = .str z from h)
    rw [Mi.slD] at p
    by_cases hz:z.length ≤ 100000
    · rw [if_pos hz] at p; exact ⟨big' hz,PostE.val p (Ext.refl s) rfl rfl⟩
    · rw [if_neg hz] at p; exact p.elim
  | _=>exact p.elim
theorem de_sl {tl th:TO} {ml mh:OM} (A:DE mg E te e k) (B:DO mg E tl ml) (C:DO mg E th mh):DE mg E (tSl (rSlU Kc.K) te tl th) (Mi.eSl e ml mh) 1:=de_sl' rs_u A B C
theorem its_ok {G:Hp} (z:Str):ItOk (Its z) G (Mi.signsD z):=by
  intro i G1 H1 s1 s2
  have hl:(Mi.signsD z).length = z.cps.size:=by simp [Mi.signsD]
  refine ⟨fun hi=>by rw [hl] at hi; exact hi,fun hi=>by rw [hl] at hi; exact hi,fun x H2 d hd hy=>?_⟩
  obtain ⟨rfl,c,hc,rfl⟩:=hy
  refine ⟨G1,Ext.refl s2,?_⟩
  unfold Mi.signsD at hd
  rw [List.getElem?_map] at hd
  have hc':z.cps.toList[i]? = some c:=by simpa using hc
  rw [hc'] at hd
  cases hd
  rfl
theorem di_all (A:DE mg E ta ma k):DI mg E (iAny Kc.K ta) (Mi.iSq ma) false:=by
  intro G H σ ρ Q s w p
  refine (de_frz A).step errI s w p fun d v G1 H1 S _ fr o p1=>?_
  cases d with
  | lst ds =>
    obtain ⟨a,xs,rfl,ha,r⟩:=o
    exact .inl ⟨⟨xs,SqL.of (fr.ext.in' _ _ ha)⟩,p1 _ G1 H1 fr.ext (itl_ok (SqL.of ha) r)⟩
  | tup ds =>
    obtain ⟨a,xs,rfl,ha,r⟩:=o
    exact .inr ⟨⟨xs,SqT.of (fr.ext.in' _ _ ha)⟩,p1 _ G1 H1 fr.ext (itt_ok (SqT.of ha) r)⟩
  | scr ns =>
    obtain ⟨a,rfl,ha⟩:=o
    rcases ha with ha | ha
    · exact .inl ⟨⟨_,fr.ext.in'.seq ha⟩,p1 _ G1 H1 fr.ext (itl_ok ha (repL_ints ns))⟩
    · exact .inr ⟨⟨_,seqT_mono fr.ext.in' ha⟩,p1 _ G1 H1 fr.ext (itt_ok ha (repL_ints ns))⟩
  | str z =>
    cases (show v = .str z from o)
    exact p1 _ G1 H1 fr.ext (its_ok z)
  | _=>exact p1.elim
theorem zipD_len:∀ (xs ys:List Dt),(Mi.zipD xs ys).length = min xs.length ys.length
  | [],ys=>by simp [Mi.zipD]
  | _ :: _,[]=>by simp [Mi.zipD]
  | x :: r,y :: q=>by rw [Mi.zipD,List.length_cons,zipD_len r q,List.length_cons,List.length_cons]; omega
theorem zipD_get:∀ (xs ys:List Dt) (i:Nat) (d:Dt),(Mi.zipD xs ys)[i]? = some d → ∃ x y,xs[i]? = some x ∧ ys[i]? = some y ∧ d = .tup [x,y]
  | [],ys,_,_,h=>by simp [Mi.zipD] at h
  | _ :: _,[],_,_,h=>by simp [Mi.zipD] at h
  | x :: r,y :: q,0,d,h=>by simp [Mi.zipD] at h; exact ⟨x,y,by simp,by simp,h.symm⟩
  | x :: r,y :: q,i + 1,d,h=>by
    rw [Mi.zipD] at h
    obtain ⟨a,b,h1,h2,h3⟩:=zipD_get r q i d (by simpa using h)
    exact ⟨a,b,by simpa using h1,by simpa using h2,h3⟩
def RMt (r:V → List V → Hp → VK → Prop) (f:Dt → List Dt → Option Dt) (n:Nat):Prop:=∀ (mg:Str → Option Value) (E:XK) (G H:Hp) (z:Str) (ds:List Dt) (vs:List V) (Q:VK),Same G H → RepL G ds vs → PostE mg E G H n (optR (f (.str z) ds)) Q → r (.str z) vs H Q
theorem de_mt {r:V → List V → Hp → VK → Prop} {f:Dt → List Dt → Option Dt} (hr:RMt r f n) (A:DE mg E te e k) (B:DA mg E t m 0):DE mg E (tBM Kc.K "str" r te t) (Mi.eMt f e m) n:=by
  intro G H σ ρ Q s w p
  refine (de_frz A).step errE s w p fun d v G1 H1 S _ fr o p1=>?_
  cases d with
  | str z =>
    cases (show v = .str z from o)
    refine ⟨rfl,?_⟩
    have p2:PostE mg E G H n (bindR (m ρ) fun xs=>optR (f (.str z) xs)) Q:=p1
    refine B.step (errE.from fr.ext) fr.ext.in' (w.mono fr.ext.g) p2 fun ds vs G2 H2 S2 T2 _ fr2 o2 p3=>?_
    exact hr mg E G2 H2 z ds vs Q fr2.ext.in' o2.repL (PostE.from p3 (fr.ext.trans fr2.ext))
  | _=>exact p1.elim
theorem rm_one {r:V → List V → Hp → VK → Prop} {f:Dt → List Dt → Option Dt} (hf:∀ z ds,(∀ c,ds ≠ [.str ⟨#[c]⟩]) → f (.str z) ds = none)
    (hr:∀ (mg:Str → Option Value) (E:XK) (G H:Hp) (z:Str) (c:Nat) (Q:VK),Same G H → PostE mg E G H n (optR (f (.str z) [.str ⟨#[c]⟩])) Q → r (.str z) [.str ⟨#[c]⟩] H Q):RMt r f n:=by
  intro mg E G H z ds vs Q s h p
  by_cases hd:∃ c,ds = [.str ⟨#[c]⟩]
  · obtain ⟨c,rfl⟩:=hd
    obtain ⟨x,rfl,hx⟩:=repL1 h
    cases (show x = .str ⟨#[c]⟩ from hx)
    exact hr mg E G H z c Q s p
  · rw [hf z ds fun c e=>hd ⟨c,e⟩] at p
    exact p.elim
theorem one_none {f:Dt → List Dt → Option Dt} {z:Str} (h1:f (.str z) [] = none) (h2:∀ d,(∀ y,d ≠ .str y) → f (.str z) [d] = none) (h3:∀ d e r,f (.str z) (d :: e :: r) = none) (h4:f (.str z) [.str ⟨#[]⟩] = none) (h5:∀ a b r,f (.str z) [.str ⟨⟨a :: b :: r⟩⟩] = none) :
    ∀ ds,(∀ c,ds ≠ [.str ⟨#[c]⟩]) → f (.str z) ds = none:=by
  intro ds h
  match ds,h with
  | [],_=>exact h1
  | [.str ⟨⟨[]⟩⟩],_=>exact h4
  | [.str ⟨⟨[c]⟩⟩],h=>exact absurd rfl (h c)
  | [.str ⟨⟨a :: b :: r⟩⟩],_=>exact h5 a b r
  | [.non],_=>exact h2 _ fun _ e=>by cases e
  | [.bl _],_=>exact h2 _ fun _ e=>by cases e
  | [.int _],_=>exact h2 _ fun _ e=>by cases e
  | [.lst _],_=>exact h2 _ fun _ e=>by cases e
  | [.tup _],_=>exact h2 _ fun _ e=>by cases e
  | [.scr _],_=>exact h2 _ fun _ e=>by cases e
  | [.exc _ _ _],_=>exact h2 _ fun _ e=>by cases e
  | [.ins _ _],_=>exact h2 _ fun _ e=>by cases e
  | [.dct _],_=>exact h2 _ fun _ e=>by cases e
  | d :: e :: r,_=>exact h3 d e r
theorem rm_find:RMt findM Mi.findD n:=rm_one (fun z=>one_none rfl (fun d h=>by cases d <;> first | rfl | exact absurd rfl (h _)) (fun d e r=>by cases d <;> rfl) rfl fun a b r=>rfl) fun mg E G H z c Q s p=>by
  show Q (.int (Txt.find z ⟨#[c]⟩)) H
  rw [find_one]
  exact PostE.val p (Ext.refl s) rfl rfl
theorem strs_rep {G:Hp}:∀ {ds:List Dt} {zs:List Str} {xs:List V},Mi.strsD ds = some zs → RepL G ds xs → xs = zs.map V.str
  | [],zs,xs,h,r=>by cases h; exact r
  | .str b :: ds,zs,xs,h,r=>by
    obtain ⟨x,q,rfl,a,c⟩:=r
    rw [Mi.strsD] at h
    cases e:Mi.strsD ds with
    | none=>rw [e] at h; cases h
    | some cs =>
      rw [e] at h
      cases h
      rw [strs_rep e c,show x = .str b from a]
      rfl
  | .non :: _,_,_,h,_=>by simp [Mi.strsD] at h
  | .int _ :: _,_,_,h,_=>by simp [Mi.strsD] at h
  | .bl _ :: _,_,_,h,_=>by simp [Mi.strsD] at h
  | .lst _ :: _,_,_,h,_=>by simp [Mi.strsD] at h
  | .tup _ :: _,_,_,h,_=>by simp [Mi.strsD] at h
  | .scr _ :: _,_,_,h,_=>by simp [Mi.strsD] at h
  | .exc _ _ _ :: _,_,_,h,_=>by simp [Mi.strsD] at h
  | .ins _ _ :: _,_,_,h,_=>by simp [Mi.strsD] at h
  | .dct _ :: _,_,_,h,_=>by simp [Mi.strsD] at h
theorem rm_join:RMt joinM Mi.joinD n:=by
  intro mg E G H z ds vs Q s h p
  match ds,h,p with
  | [.lst es],h,p =>
    obtain ⟨x,rfl,a,xs,rfl,ha,ra⟩:=repL1 h
    have p':PostE mg E G H n (optR (match Mi.strsD es with
      | some zs=>@ite _ ((zs.map (·.length)).sum + zs.length * z.length ≤ 100000) (Classical.propDecidable _) (some (.str (Str.join z zs))) none
      | none=>none)) Q:=p
    cases e:Mi.strsD es with
    | none=>rw [e] at p'; exact p'.elim
    | some zs =>
      rw [e] at p'
      dsimp only at p'
      split at p'
      · rename_i hz
        exact ⟨zs,by rw [← strs_rep e ra]; exact s _ _ ha,by omega,PostE.val p' (Ext.refl s) rfl rfl⟩
      · exact p'.elim
  | [],_,p=>exact p.elim
  | [.non],_,p=>exact p.elim
  | [.bl _],_,p=>exact p.elim
  | [.int _],_,p=>exact p.elim
  | [.str _],_,p=>exact p.elim
  | [.tup _],_,p=>exact p.elim
  | [.scr _],_,p=>exact p.elim
  | [.exc _ _ _],_,p=>exact p.elim
  | [.ins _ _],_,p=>exact p.elim
  | [.dct _],_,p=>exact p.elim
  | x :: _ :: _,_,p=>cases x <;> exact p.elim
end
end L3

namespace Mi
open PySem
noncomputable section
def noE {α:Type} (r:R α):R α:=match r with
  | some (.ok a)=>okR a
  | _=>none
def eCallN (f:FM) (am:AM):EM:=fun ρ=>bindR (am ρ) fun ds=>noE (f ds)
def eMkX (c f:Str) (am:AM):EM:=fun ρ=>bindR (am ρ) fun ds=>match ds with
  | [d]=>okR (.exc c f d)
  | _=>none
def sRaise (c f:Str) (am:AM):SM:=fun r=>bindR (am (full r)) fun ds=>match ds with
  | [d]=>some (.error ⟨c,f,d⟩)
  | _=>none
def eAtX (hs:List Str) (f:Str) (a:EM):EM:=fun ρ=>bindR (a ρ) fun d=>match d with
  | .exc c g x=>if c ∈ hs ∧ g = f then okR x else none
  | _=>none
def eIsX (ys ns:List Str) (a:EM):EM:=fun ρ=>bindR (a ρ) fun d=>match d with
  | .exc c _ _=>if c ∈ ys then okR (.bl true) else if c ∈ ns then okR (.bl false) else none
  | _=>none
def goneO (i:Nat):Out → Out
  | .nx r=>.nx (r.set i none)
  | .rt d=>.rt d
  | .bk r=>.bk (r.set i none)
  | .ct r=>.ct (r.set i none)
end
end Mi

namespace L3
open PySem PySem.Spec
open L2 hiding Rep RepL
open Mi (Dt Xn R okR bindR optR bindR_ok bindR_none bindR_err optR_some optR_none Rh Sl Ro EM TM AM FM IM SM OM Tg Out bindT setsH setsO full frz frz1 frzAt)
section
variable [Kc] {mg:Str → Option Value} {E:XK} {L n k l:Nat} {te ta tb:TE} {e ea eb ma:EM} {t:TA} {m:AM}
def spInit (K:PySem.W.Frag) (f:Str):Sp:=fun vs H Q _=>∃ e C y,vs = [.ref e,y] ∧ H e = some (xn e (.ref C) none) ∧ PySem.W.xcIn K C = true ∧ XSet K C f ∧ ∀ d,H d = none → d ≠ e → Q .non (upd (upd H d (.xd [(f,y)])) e (xn e (.ref C) (some d)))
end
end L3

namespace L3
open PySem PySem.Spec
open L2 hiding Rep RepL
open Mi (Dt Xn R okR bindR optR bindR_ok bindR_none bindR_err optR_some optR_none Rh Sl Ro EM TM AM FM IM SM OM Tg Out bindT setsH setsO full frz frz1 frzAt)
section
variable {K:PySem.W.Frag} {C D:Addr} {dd:Option Addr} {cd:ClassData} {sl:Array (Option Value)} {b:Bool}
end
structure XCls (K:PySem.W.Frag) (mg:Str → Option Value) (c:Str) (C:Addr):Prop where
  cl:clK K c = some C
  gm:mg c = some (.ref C)
  is:Xc.XIs K C
structure XIni (P:Program) (w:World) (K:PySem.W.Frag) (mg:Str → Option Value) (base:Heap) (c f:Str) (C:Addr):Prop extends XCls K mg c C where
  kp:PySem.W.keepIn K (.ref C) = true
  st:XSet K C f
  fa:PySem.W.findIn K (.ref C) f = some none
  ini:∃ fI fd ps,PySem.W.findIn K (.ref C) "__init__" = some (some (.ref fI)) ∧ PySem.W.isFn K (.ref fI) = true ∧ FnOk P w K mg base (CXe P w) 1 fI fd ps (spInit K f) ∧ Binds K fd ps []
section
variable [Kc] {mg:Str → Option Value} {E:XK} {L n k l:Nat} {te ta tb:TE} {e ea eb ma:EM} {t:TA} {m:AM}
end
def spLawW (K:PySem.W.Frag):Sp:=fun vs H Q _=>∃ (a:Addr) (ns:List Int),vs = [.ref a] ∧ SqL K H a (ns.map V.int) ∧ ns.length ≤ 63 ∧ (∀ i ∈ ns,i.natAbs.log2 < 2 ^ 20) ∧ ∀ H',Q (.bl true) H'
theorem law_impW {K:PySem.W.Frag} {mg:Str → Option Value} {L:Nat} {f:FM} (hf:∀ ns:List Int,ns.length ≤ 63 → (∀ i ∈ ns,i.natAbs.log2 < 2 ^ 20) → f [.scr ns] = okR (.bl true)):∀ vs H Q E,spLawW K vs H Q E → sp0 K mg L f vs H Q E:=by
  letI:Kc:=⟨K⟩
  rintro vs H Q E ⟨a,ns,rfl,hS,hl,hw,q⟩
  refine ⟨H,[.scr ns],Same.refl _,⟨_,_,rfl,⟨a,rfl,.inl hS⟩,rfl⟩,?_⟩
  rw [hf ns hl hw]
  intro v G' H' S fr o
  cases (show v = .bl true by cases L <;> exact o)
  exact q H'
end L3

namespace Mi
open PySem
section
variable (ρ:Rh) (r:Ro) (a b c:EM) (s t:SM) (q q':TM) (am:AM)
@[simp] theorem x_eC (d:Dt):eC d ρ = okR d:=rfl
@[simp] theorem x_eV (i:Nat):eV i ρ = match ρ[i]? with | some (some d)=>okR d | _=>none:=rfl
@[simp] theorem x_eB (f:Dt → Dt → Option Dt):eB f a b ρ = bindR (a ρ) fun x=>bindR (b ρ) fun y=>optR (f x y):=rfl
@[simp] theorem x_eU (f:Dt → Option Dt):eU f a ρ = bindR (a ρ) fun x=>optR (f x):=rfl
@[simp] theorem x_aNil:aNil ρ = okR []:=rfl
@[simp] theorem x_aCons:aCons a am ρ = bindR (a ρ) fun x=>bindR (am ρ) fun xs=>okR (x :: xs):=rfl
@[simp] theorem x_eCall (f:FM):eCall f am ρ = bindR (am ρ) f:=rfl
@[simp] theorem x_eBi (f:List Dt → Option Dt):eBi f am ρ = bindR (am ρ) fun xs=>optR (f xs):=rfl
@[simp] theorem x_eLst:eLst am ρ = bindR (am ρ) fun xs=>@ite _ (xs.length ≤ 100000) (Classical.propDecidable _) (okR (.lst xs)) none:=rfl
@[simp] theorem x_eTup:eTup am ρ = bindR (am ρ) fun xs=>@ite _ (xs.length ≤ 100000) (Classical.propDecidable _) (okR (.tup xs)) none:=rfl
@[simp] theorem x_eIsi (n:String):eIsi n a ρ = bindR (a ρ) fun x=>optR (isiD n x):=rfl
@[simp] theorem x_eAnd:eAnd a b ρ = bindR (a ρ) fun x=>match x with | .bl k=>if k = true then b ρ else okR (.bl false) | _=>none:=rfl
@[simp] theorem x_eOr:eOr a b ρ = bindR (a ρ) fun x=>match x with | .bl k=>if k = true then okR (.bl true) else b ρ | _=>none:=rfl
@[simp] theorem x_eNot:eNot a ρ = bindR (a ρ) fun x=>match x with | .bl k=>okR (.bl (!k)) | _=>none:=rfl
@[simp] theorem x_eChain (f g:Dt → Dt → Option Dt):eChain f g a b c ρ = bindR (a ρ) fun x=>bindR (b ρ) fun y=>bindR (optR (f x y)) fun z=>match z with | .bl k=>if k = true then bindR (c ρ) fun w=>optR (g y w) else okR (.bl false) | _=>none:=rfl
@[simp] theorem x_eIf:eIf q a b ρ = bindR (q ρ) fun k=>if k = true then a ρ else b ρ:=rfl
@[simp] theorem x_tB:tB a ρ = bindR (a ρ) fun x=>match x with | .bl k=>okR k | _=>none:=rfl
@[simp] theorem x_tM:tM a ρ = bindR (a ρ) fun x=>match x with | .bl k=>okR k | .int i=>okR (i != 0) | .non=>okR false | _=>none:=rfl
@[simp] theorem x_tAn:tAn q q' ρ = bindR (q ρ) fun k=>if k = true then q' ρ else okR false:=rfl
@[simp] theorem x_tOr:tOr q q' ρ = bindR (q ρ) fun k=>if k = true then okR true else q' ρ:=rfl
@[simp] theorem x_tNo:tNo q ρ = bindR (q ρ) fun k=>okR (!k):=rfl
@[simp] theorem x_tYes:tYes ρ = okR true:=rfl
@[simp] theorem x_sNil:sNil r = okR (.nx r):=rfl
@[simp] theorem x_sSeq:sSeq s t r = bindR (s r) fun o=>match o with | .nx ρ'=>t ρ' | o=>okR o:=rfl
@[simp] theorem x_sIf:sIf q s t r = bindR (q (full r)) fun k=>if k = true then s r else t r:=rfl
@[simp] theorem x_sDrop:sDrop a r = bindR (a (full r)) fun _=>okR (.nx r):=rfl
@[simp] theorem x_sBreak:sBreak r = okR (.bk r):=rfl
@[simp] theorem x_sCont:sCont r = okR (.ct r):=rfl
@[simp] theorem x_sNever:sNever r = none:=rfl
@[simp] theorem x_sRetN:sRetN r = okR (.rt .non):=rfl
@[simp] theorem x_sSet (i n:Nat) (vs:List Nat):sSet i n vs a r = bindR (a (full r)) fun d=>if d.dep ≤ n then okR (.nx (r.set i (some (d,n)))) else bindR (a (frz (frzAt vs r))) fun d'=>okR (.nx ((frzAt vs r).set i (some (d',n)))):=rfl
@[simp] theorem x_sRet (L n:Nat) (vs:List Nat):sRet L n vs a r = bindR (a (full r)) fun d=>if d.dep ≤ n ∧ d.dep ≤ L then okR (.rt d) else if n = L then bindR (a (frz (frzAt vs r))) fun d'=>okR (.rt d') else none:=rfl
@[simp] theorem x_sRetV (L i:Nat):sRetV L i r = match r[i]? with | some (some (d,k))=>if k = L ∨ L = 0 ∨ (d.dep ≤ k ∧ d.dep ≤ L ∧ k < 1000) then okR (.rt d) else none | _=>none:=rfl
@[simp] theorem x_full_nil:full [] = []:=rfl
@[simp] theorem x_full_cons (o:Option Sl) (r:Ro):full (o :: r) = o.map Prod.fst :: full r:=rfl
@[simp] theorem x_frz_nil:frz [] = []:=rfl
@[simp] theorem x_frz_none (r:Ro):frz (none :: r) = none :: frz r:=rfl
@[simp] theorem x_frz_some (d:Dt) (n:Nat) (r:Ro):frz (some (d,n) :: r) = (if n = 0 ∨ d.dep = 0 then some d else none) :: frz r:=rfl
@[simp] theorem x_frzAt_nil (r:Ro):frzAt [] r = r:=rfl
@[simp] theorem x_frzAt_cons (i:Nat) (v:List Nat) (r:Ro):frzAt (i :: v) r = frzAt v (frz1 i r):=rfl
@[simp] theorem x_frz1 (i:Nat) (r:Ro):frz1 i r = match r[i]? with | some (some (d,_))=>r.set i (some (d,0)) | _=>r:=rfl
@[simp] theorem x_startO (n:Nat) (ds:List Dt):startO n ds = ds.map (fun d=>some (d,0)) ++ List.replicate (n - ds.length) none:=rfl
@[simp] theorem x_runF (P n:Nat) (ds:List Dt):runF P n s ds = if ds.length = P then bindR (s (startO n ds)) endF else none:=rfl
@[simp] theorem x_end1 (r:Ro):endF (.nx r) = okR .non:=rfl
@[simp] theorem x_end2 (d:Dt):endF (.rt d) = okR d:=rfl
end
@[simp] theorem v_add (i j:Int):addD (.int i) (.int j) = some (.int (i + j)):=rfl
@[simp] theorem v_addS (i j:Str):addD (.str i) (.str j) = @ite _ (i.length + j.length ≤ 100000) (Classical.propDecidable _) (some (.str (i ++ j))) none:=rfl
@[simp] theorem v_addL (i j:List Dt):addD (.lst i) (.lst j) = @ite _ (i.length + j.length ≤ 100000) (Classical.propDecidable _) (some (.lst (i ++ j))) none:=rfl
@[simp] theorem v_sub (i j:Int):subD (.int i) (.int j) = some (.int (i - j)):=rfl
@[simp] theorem v_mul (i j:Int):mulD (.int i) (.int j) = @ite _ (((-18446744073709551616 < i ∧ i < 18446744073709551616) ∨ (-18446744073709551616 < j ∧ j < 18446744073709551616)) ∨ i.natAbs.log2 + j.natAbs.log2 ≤ 67108864) (Classical.propDecidable _) (some (.int (i * j))) none:=rfl
@[simp] theorem v_div (i j:Int):divD (.int i) (.int j) = @ite _ (0 < j ∧ j < 1000000000000000000000000) (Classical.propDecidable _) (some (.int (i / j))) none:=rfl
@[simp] theorem v_mod (i j:Int):modD (.int i) (.int j) = if 0 < j then some (.int (i % j)) else none:=rfl
@[simp] theorem v_pow (i j:Int):powD (.int i) (.int j) = @ite _ (0 ≤ j ∧ j ≤ 1000000 ∧ i.natAbs < 18446744073709551616) (Classical.propDecidable _) (some (.int (i ^ j.toNat))) none:=rfl
@[simp] theorem v_neg (i:Int):negD (.int i) = some (.int (-i)):=rfl
@[simp] theorem v_cmp (p:Int → Int → Bool) (i j:Int):cmpD p (.int i) (.int j) = some (.bl (p i j)):=rfl
@[simp] theorem v_eq (x y:Dt):eqD x y = if x.dep ≤ 40 ∧ y.dep ≤ 40 then some (.bl (Dt.eq x y)) else none:=rfl
@[simp] theorem v_ne (x y:Dt):neD x y = if x.dep ≤ 40 ∧ y.dep ≤ 40 then some (.bl (!Dt.eq x y)) else none:=rfl
@[simp] theorem v_is (x:Dt):isD x .non = some (.bl (isNonD x)):=rfl
@[simp] theorem v_isnt (x:Dt):isntD x .non = some (.bl (!isNonD x)):=rfl
@[simp] theorem v_isN1:isNonD .non = true:=rfl
@[simp] theorem v_isN2 (i:Int):isNonD (.int i) = false:=rfl
@[simp] theorem v_isN3 (i:List Dt):isNonD (.lst i) = false:=rfl
@[simp] theorem v_isN4 (i:List Dt):isNonD (.tup i) = false:=rfl
@[simp] theorem v_isN5 (i:Str):isNonD (.str i) = false:=rfl
@[simp] theorem v_isN6 (i:Bool):isNonD (.bl i) = false:=rfl
@[simp] theorem v_ixL (xs:List Dt) (i:Int):ixD (.lst xs) (.int i) = itA xs i:=rfl
@[simp] theorem v_ixT (xs:List Dt) (i:Int):ixD (.tup xs) (.int i) = itA xs i:=rfl
@[simp] theorem v_ixS (ns:List Int) (i:Int):ixD (.scr ns) (.int i) = (itA ns i).map .int:=rfl
@[simp] theorem v_lenL (xs:List Dt):lenD [.lst xs] = some (.int xs.length):=rfl
@[simp] theorem v_lenT (xs:List Dt):lenD [.tup xs] = some (.int xs.length):=rfl
@[simp] theorem v_lenS (ns:List Int):lenD [.scr ns] = some (.int ns.length):=rfl
@[simp] theorem v_listL (xs:List Dt):listD [.lst xs] = some (.lst xs):=rfl
@[simp] theorem v_listT (xs:List Dt):listD [.tup xs] = some (.lst xs):=rfl
@[simp] theorem v_listS (ns:List Int):listD [.scr ns] = some (.lst (ns.map .int)):=rfl
@[simp] theorem v_dn:Dt.non.dep = 0:=rfl
@[simp] theorem v_db (b:Bool):(Dt.bl b).dep = 0:=rfl
@[simp] theorem v_di (b:Int):(Dt.int b).dep = 0:=rfl
@[simp] theorem v_ds (b:Str):(Dt.str b).dep = 0:=rfl
@[simp] theorem v_dS (b:List Int):(Dt.scr b).dep = 1000:=by rw [Dt.dep]
@[simp] theorem v_dl (xs:List Dt):(Dt.lst xs).dep = Dt.depL xs + 1:=by rw [Dt.dep]
@[simp] theorem v_dt (xs:List Dt):(Dt.tup xs).dep = Dt.depL xs + 1:=by rw [Dt.dep]
@[simp] theorem v_dnil:Dt.depL [] = 0:=by rw [Dt.depL]
@[simp] theorem v_dcons (x:Dt) (r:List Dt):Dt.depL (x :: r) = max x.dep (Dt.depL r):=by rw [Dt.depL]
@[simp] theorem v_e1 (i j:Int):Dt.eq (.int i) (.int j) = decide (i = j):=by rw [Dt.eq]; by_cases h:i = j <;> simp [h]
@[simp] theorem v_e2 (i j:Str):Dt.eq (.str i) (.str j) = decide (i = j):=by rw [Dt.eq]; by_cases h:i = j <;> simp [h]
@[simp] theorem v_e3 (i j:Bool):Dt.eq (.bl i) (.bl j) = decide (i = j):=by rw [Dt.eq]; by_cases h:i = j <;> simp [h]
@[simp] theorem v_e4 (i j:List Dt):Dt.eq (.lst i) (.lst j) = Dt.eqL i j:=by rw [Dt.eq]
@[simp] theorem v_e5 (i j:List Dt):Dt.eq (.tup i) (.tup j) = Dt.eqL i j:=by rw [Dt.eq]
@[simp] theorem v_e6:Dt.eq .non .non = true:=by rw [Dt.eq]
@[simp] theorem depL_ints:∀ (ns:List Int),Dt.depL (ns.map Dt.int) = 0
  | []=>by simp
  | n :: r=>by rw [List.map_cons,v_dcons,depL_ints r]; rfl
@[simp] theorem depL_app:∀ (xs ys:List Dt),Dt.depL (xs ++ ys) = max (Dt.depL xs) (Dt.depL ys)
  | [],ys=>by simp
  | x :: r,ys=>by rw [List.cons_append,v_dcons,v_dcons,depL_app r ys]; omega
@[simp] theorem eqL_ints:∀ (ns ms:List Int),Dt.eqL (ns.map Dt.int) (ms.map Dt.int) = decide (ns = ms)
  | [],[]=>by simp [Dt.eqL]
  | [],_ :: _=>by simp [Dt.eqL]
  | _ :: _,[]=>by simp [Dt.eqL]
  | n :: r,m :: q=>by rw [List.map_cons,List.map_cons,Dt.eqL,eqL_ints r q,v_e1]; simp
theorem itA_of {α:Type} {xs:List α} {i:Int} {j:Nat} {v:α} (e:i = (j:Int)) (h:xs[j]? = some v):itA xs i = some v:=by
  have hj:j < xs.length:=(List.getElem?_eq_some_iff.mp h).1
  subst e
  unfold itA ixA
  rw [if_pos (by omega),if_pos (by omega)]
  simpa using h
theorem ixA_of {n:Nat} {i:Int} (h0:0 ≤ i) (h1:i < n):ixA n i = some i.toNat:=by
  unfold ixA; rw [if_pos h0,if_pos h1]
theorem itA_int {ns:List Int} {i:Int} (h0:0 ≤ i) (h1:i < ns.length):itA ns i = some (ns.getD i.toNat 0):=by
  refine itA_of (j:=i.toNat) (by omega) ?_
  rw [List.getD_eq_getElem?_getD,List.getElem?_eq_getElem (by omega)]
  rfl
@[simp] theorem set_int (ns:List Int) (i:Nat) (x:Int):(ns.map Dt.int).set i (.int x) = (ns.set i x).map Dt.int:=by rw [List.map_set]
theorem comp_map {ρ:Rh} {k:Nat} {tg:Tg} {c:TM} {e:EM} (f:Dt → Dt):∀ (ds acc:List Dt),(∀ d ∈ ds,∃ bs,bindT tg d = some bs ∧ c (setsH (ρ ++ List.replicate k none) bs) = okR true ∧ e (setsH (ρ ++ List.replicate k none) bs) = okR (f d)) → compGo ρ k tg c e ds acc = okR (acc ++ ds.map f)
  | [],acc,_=>by simp [compGo]
  | d :: ds,acc,h=>by
    obtain ⟨bs,h1,h2,h3⟩:=h d (by simp)
    rw [compGo,h1]
    simp only
    rw [h2,bindR_ok,if_pos rfl,h3,bindR_ok,comp_map f ds (acc ++ [f d]) fun d hd=>h d (by simp [hd])]
    simp
theorem for_all {tg:Tg} {b:SM} (Pv:Nat → Ro → Prop):∀ (ds:List Dt) (i:Nat) (r:Ro),Pv i r → (∀ (j:Nat) (d:Dt) (r:Ro),ds[j]? = some d → Pv (i + j) r → ∃ bs r',bindT tg d = some bs ∧ b (setsO r bs) = okR (.nx r') ∧ Pv (i + j + 1) r') →
    ∃ r',forGo tg b ds r = okR (.nx r') ∧ Pv (i + ds.length) r'
  | [],i,r,h,_=>⟨r,by simp [forGo],by simpa using h⟩
  | d :: ds,i,r,h,hs=>by
    obtain ⟨bs,r1,h1,h2,h3⟩:=hs 0 d r (by simp) (by simpa using h)
    obtain ⟨r2,h4,h5⟩:=for_all Pv ds (i + 1) r1 (by simpa using h3) fun j e r he hp=>by
      have:=hs (j + 1) e r (by simpa using he) (by rw [show i + (j + 1) = i + 1 + j by omega]; exact hp)
      rw [show i + 1 + j + 1 = i + (j + 1) + 1 by omega]
      exact this
    refine ⟨r2,?_,by rw [List.length_cons,show i + (ds.length + 1) = i + 1 + ds.length by omega]; exact h5⟩
    rw [forGo,h1]
    simp only
    rw [h2,bindR_ok]
    exact h4
theorem while_all {c:TM} {b:SM} (Pv:Ro → Prop) (μ:Ro → Nat) (Rv:Ro → Prop) (hc:∀ r,Pv r → (c (full r) = okR false ∧ Rv r) ∨ (c (full r) = okR true ∧ ∃ r',b r = okR (.nx r') ∧ Pv r' ∧ μ r' < μ r)) :
    ∀ (m:Nat) (r:Ro),Pv r → μ r < m → ∃ r',whGo c b m r = okR (.nx r') ∧ Rv r'
  | 0,r,_,h=>by omega
  | m + 1,r,h,hm=>by
    rw [whGo]
    rcases hc r h with ⟨h1,h2⟩ | ⟨h1,r1,h2,h3,h4⟩
    · rw [h1,bindR_ok,if_neg (by decide)]; exact ⟨r,rfl,h2⟩
    · rw [h1,bindR_ok,if_pos rfl,h2,bindR_ok]
      exact while_all Pv μ Rv hc m r1 h3 (by omega)
theorem sWhile_all {c:TM} {b:SM} (Pv:Ro → Prop) (μ:Ro → Nat) (Rv:Ro → Prop) {r:Ro} (h0:Pv r) (hm:μ r < 1000000) (hc:∀ r,Pv r → (c (full r) = okR false ∧ Rv r) ∨ (c (full r) = okR true ∧ ∃ r',b r = okR (.nx r') ∧ Pv r' ∧ μ r' < μ r)):∃ r',sWhile c b r = okR (.nx r') ∧ Rv r' :=
  while_all Pv μ Rv hc WN r h0 (by rw [WN_eq]; exact hm)
end Mi

namespace Mi
open PySem
section
variable (ρ:Rh) (r:Ro) (a:EM) (am:AM) (s:SM)
@[simp] theorem x_noE_ok {α:Type} (x:α):noE (okR x) = okR x:=rfl
@[simp] theorem x_noE_none {α:Type}:noE (none:R α) = none:=rfl
@[simp] theorem x_noE_err {α:Type} (e:Xn):noE (some (.error e):R α) = none:=rfl
@[simp] theorem x_eCallN (f:FM):eCallN f am ρ = bindR (am ρ) fun ds=>noE (f ds):=rfl
@[simp] theorem x_eMkX (c f:Str):eMkX c f am ρ = bindR (am ρ) fun ds=>match ds with | [d]=>okR (.exc c f d) | _=>none:=rfl
@[simp] theorem x_sRaise (c f:Str):sRaise c f am r = bindR (am (full r)) fun ds=>match ds with | [d]=>some (.error ⟨c,f,d⟩) | _=>none:=rfl
@[simp] theorem x_eAtX (hs:List Str) (f:Str):eAtX hs f a ρ = bindR (a ρ) fun d=>match d with | .exc c g x=>if c ∈ hs ∧ g = f then okR x else none | _=>none:=rfl
@[simp] theorem x_eIsX (ys ns:List Str):eIsX ys ns a ρ = bindR (a ρ) fun d=>match d with | .exc c _ _=>if c ∈ ys then okR (.bl true) else if c ∈ ns then okR (.bl false) else none | _=>none:=rfl
@[simp] theorem x_gone_nx (i:Nat):goneO i (.nx r) = .nx (r.set i none):=rfl
@[simp] theorem x_gone_rt (i:Nat) (d:Dt):goneO i (.rt d) = .rt d:=rfl
end
example (d:Dt):True:=trivial
end Mi

namespace L2
open PySem PySem.Spec PyProof.Rows
section
variable {X:Cx}
end
section
variable {X:Cx} {K:PySem.W.Frag}
end
end L2

namespace Mi
open PySem
noncomputable section
def xorD:Dt → Dt → Option Dt
  | .int i,.int j=>some (.int (Builtin.bitXor i j))
  | _,_=>none
def repD:Dt → Dt → Option Dt
  | .lst xs,.int k=>@ite _ ((-4611686018427387904 ≤ k ∧ k < 4611686018427387904) ∧ xs.length * k.toNat ≤ 100000) (Classical.propDecidable _) (some (.lst (List.replicate k.toNat xs).flatten)) none
  | _,_=>none
def tL (a:EM):TM:=fun ρ=>bindR (a ρ) fun x=>match x with
  | .bl k=>okR k
  | .int i=>okR (i != 0)
  | .non=>okR false
  | .lst xs=>okR (!xs.isEmpty)
  | .tup xs=>okR (!xs.isEmpty)
  | _=>none
def iRv (e:AM):IM:=fun ρ=>bindR (e ρ) fun vs=>match vs with
  | [.lst xs]=>okR xs.reverse
  | _=>none
def eMl (f:List Dt → List Dt → Option Dt) (a:EM) (am:AM):EM:=fun ρ=>bindR (a ρ) fun x=>match x with
  | .lst xs=>bindR (am ρ) fun ds=>optR (f xs ds)
  | _=>none
end
end Mi

namespace L3
open PySem PySem.Spec
open L2 hiding Rep RepL
open Mi (Dt Xn R okR bindR optR bindR_ok bindR_none bindR_err optR_some optR_none Rh Sl Ro EM TM AM FM IM SM Tg Out bindT setsH setsO full frz frz1 frzAt)
section
variable [Kc] {mg:Str → Option Value} {E:XK} {L n k l:Nat} {te ta tb:TE} {e ea eb ma:EM} {t:TA} {m:AM}
def RMl (r:V → List V → Hp → VK → Prop) (f:List Dt → List Dt → Option Dt) (n:Nat):Prop:=∀ (mg:Str → Option Value) (E:XK) (G H:Hp) (a:Addr) (es ds:List Dt) (xs vs:List V) (Q:VK),Same G H → G a = some (.lst xs) → RepL G es xs → RepL G ds vs → PostE mg E G H n (optR (f es ds)) Q → r (.ref a) vs H Q
theorem de_ml {r:V → List V → Hp → VK → Prop} {f:List Dt → List Dt → Option Dt} (hr:RMl r f n) (A:DE mg E te e k) (B:DA mg E t m 0):DE mg E (tML r te t) (Mi.eMl f e m) n:=by
  intro G H σ ρ Q s w p
  refine (de_frz A).step errE s w p fun d v G1 H1 S _ fr o p1=>?_
  cases d with
  | lst es =>
    obtain ⟨a,xs,rfl,ha,ra⟩:=o
    refine ⟨xs,fr.ext.in' _ _ ha,?_⟩
    have p2:PostE mg E G H n (bindR (m ρ) fun ds=>optR (f es ds)) Q:=p1
    refine B.step (errE.from fr.ext) fr.ext.in' (w.mono fr.ext.g) p2 fun ds vs G2 H2 S2 T2 _ fr2 o2 p3=>?_
    exact hr mg E G2 H2 a es ds xs vs Q fr2.ext.in' (fr2.ext.g _ _ ha) (RepL.mono fr2.ext.g ra) o2.repL (PostE.from p3 (fr.ext.trans fr2.ext))
  | _=>exact p1.elim
end
end L3

namespace L3
open PySem PySem.Spec
open L2 hiding Rep RepL
open Mi (Dt Xn R okR bindR optR bindR_ok bindR_none bindR_err optR_some optR_none Rh Sl Ro EM TM AM FM IM SM Tg Out bindT setsH setsO full frz frz1 frzAt)
section
variable [Kc] {G0 H0 S0:Hp} {σ:St} {ρ:Ro} {G H:Hp} {As:Nat → Addr → Prop}
end
section
variable [Kc] {mg:Str → Option Value} {E:XK} {L n k l:Nat} {te ta tb:TE} {e ea eb ma:EM} {t:TA} {m:AM}
end
end L3

namespace L3
open PySem PySem.Spec
open L2 hiding Rep RepL
open Mi (Dt Xn R okR bindR optR bindR_ok bindR_none bindR_err optR_some optR_none Rh Sl Ro EM TM AM FM IM SM Tg Out bindT setsH setsO full frz frz1 frzAt)
structure XNo (K:PySem.W.Frag) (mg:Str → Option Value) (c:Str) (C:Addr):Prop extends XCls K mg c C where
  kp:PySem.W.keepIn K (.ref C) = true
  ini:PySem.W.findIn K (.ref C) "__init__" = some (some (.builtin "ValueError.__init__"))
section
variable [Kc] {mg:Str → Option Value} {E:XK} {L n k l:Nat} {te ta tb:TE} {e ea eb ma:EM} {t:TA} {m:AM}
end
end L3

namespace L2
open PySem PySem.Spec PyProof.Rows
section
variable {X:Cx}
def signsV (z:Str):List V:=z.cps.toList.map fun c=>.str ⟨#[c]⟩
theorem signs_vals {z:Str} {acc:Array Value} (h:ItemsOf (SignAt z) acc z.cps.size):Vals (signsV z) acc.toList:=by
  obtain ⟨h1,h2⟩:=h
  have key:∀ (cs:List Nat) (us:List Value) (k:Nat),us.length = cs.length → (∀ (j:Nat) (v:Value),us[j]? = some v → ∃ (c:Nat) (u:Tok),cs[j]? = some c ∧ v = Value.str ⟨#[c]⟩ u) → Vals (cs.map fun c=>V.str ⟨#[c]⟩) us:=by
    intro cs
    induction cs with
    | nil=>intro us k e _; cases us with
      | nil=>exact .nil
      | cons a r=>simp at e
    | cons c r ih =>
      intro us k e h
      cases us with
      | nil=>simp at e
      | cons a q =>
        obtain ⟨c',u,e1,e2⟩:=h 0 a rfl
        simp at e1
        subst e1
        exact .cons ⟨u,e2⟩ (ih q k (by simpa using e) fun j v hj=>h (j + 1) v (by simpa using hj))
  refine key z.cps.toList acc.toList 0 (by simp [h1]) fun j v hj=>?_
  obtain ⟨c,u,e1,e2⟩:=h2 j v (by rw [← hj,Array.getElem?_toList])
  exact ⟨c,u,by rw [← e1,Array.getElem?_toList],e2⟩
def rListX (K:PySem.W.Frag):List V → Hp → VK → Prop:=fun vs H Q=>match vs with
  | [.str z]=>z.length ≤ sizeLine ∧ ∀ l,H l = none → Q (.ref l) (upd H l (.lst (signsV z)))
  | _=>rListU K vs H Q
theorem k_listX {K:PySem.W.Frag} (hc:X.calm = true) (hK:X.K = K:=by rfl):CallR X (.type "list") (rListX K):=by
  subst hK
  intro pins s σ H vs us Q I r h
  match vs,r,h with
  | [.str z],r,h =>
    obtain ⟨hz,q⟩:=h
    obtain ⟨u,rfl,rx⟩:=vals1 r
    obtain ⟨t,rfl⟩:=rx
    refine call_list_str (I.ok.hd hc) z t (fun h' tk acc' c' hk hl hi=>?_) hz
    have hv:=signs_vals hi
    refine ⟨.ref _,_,I.laid (t':=tk) (o:=.lst (signsV z)) hk (Nat.le_refl _) ⟨?_,acc'.toList,c',hv,by simpa using hl⟩,rfl,q _ I.fresh⟩
    simp [signsV]
    exact hz
  | [],r,h=>exact k_list hc pins s σ H _ us Q I r h
  | [.non],r,h=>exact k_list hc pins s σ H _ us Q I r h
  | [.bl _],r,h=>exact k_list hc pins s σ H _ us Q I r h
  | [.int _],r,h=>exact k_list hc pins s σ H _ us Q I r h
  | [.byt _],r,h=>exact k_list hc pins s σ H _ us Q I r h
  | [.flt _],r,h=>exact k_list hc pins s σ H _ us Q I r h
  | [.ty _],r,h=>exact k_list hc pins s σ H _ us Q I r h
  | [.ref _],r,h=>exact k_list hc pins s σ H _ us Q I r h
  | a :: b :: c,r,h=>exact k_list hc pins s σ H _ us Q I r (by cases a <;> exact h)
theorem strs_back:∀ {ns:List Str} {vs:List Value},StrsAre vs ns → Vals (ns.map V.str) vs
  | _,_,.nil=>.nil
  | _,_,.cons n t h=>.cons ⟨t,rfl⟩ (strs_back h)
end
def Itw (z:Str):It :=
  ⟨fun i H=>i < z.cps.size,fun i H x H'=>∃ T c,x = .ref T ∧ H T = none ∧ H' = upd H T (.tup [.int i,.str ⟨#[c]⟩]) ∧ z.cps[i]? = some c,fun i H=>z.cps.size ≤ i⟩
theorem drawsS {prog:Program} {w:World} {A:Around} (hh:A.handled = none) (it:Addr) (x:Str) (t:Tok) :
    Draws prog w A it [it] x.cps.size (fun i v=>∃ c u,x.cps[i]? = some c ∧ v = .str ⟨#[c]⟩ u) (fun i h=>h.IsStrIter it (strIterType x) x t i):=by
  unfold strIterType
  cases ha:x.cps.all (· < 128)
  · exact Draws.strWide hh it x t
  · exact Draws.strAscii hh it x t
theorem turn_enumS {P:Program} {w:World} {K:PySem.W.Frag} {ts:List Expr} {kk:Nat} {tp:Pos} (z:Str) (t:Tok) (e it:Addr) (hei:e ≠ it) :
    Turn P w K (.Tuple ts kk tp) (Itw z) [e,it] e (fun i h=>i ≤ z.cps.size ∧ (∃ old,IsEnum h e it i old) ∧ h.IsStrIter it (strIterType z) z t i) where
  mem:=by simp
  obj:=fun i h st b hb=>by
    rcases List.mem_cons.mp hb with y | y
    · subst y
      obtain ⟨_,⟨old,he⟩,_⟩:=st
      exact ⟨_,he,fun v z=>by cases z⟩
    · have z':b = it:=by simpa using y
      subst z'
      obtain ⟨_,_,o,e,c,d⟩:=st
      exact ⟨o,e,fun v z=>by rw [d] at z; cases z⟩
  keep:=fun i h h' st k=>⟨st.1,by obtain ⟨_,⟨old,he⟩,_⟩:=st; exact ⟨old,k e (by simp) _ he⟩,by obtain ⟨_,_,o,ho,r⟩:=st; exact ⟨o,k it (by simp) o ho,r⟩⟩
  item:=by
    intro X hP hw hK hc i pins s σ H E I hf st hg
    subst hP hw hK
    have hi:i < z.cps.size:=hg
    obtain ⟨_,⟨old,he⟩,hit⟩:=st
    have hhd:X.A.in1.handled = none:=I.ok.hd hc
    refine wpAny_pyNext_enum_itemD (drawsS hhd it z t) he hit hi hei (by simpa using hei) fun x h' tk hP ho hit' hT hsz hk=>?_
    obtain ⟨c,u,hcx,rfl⟩:=hP
    refine ⟨_,rfl,wpAny_letOwnedTupleGo_enum ho fun h'' he'' hs''=>?_⟩
    have hTe:s.heap.objs.size ≠ e:=Nat.ne_of_gt (Heap.lt_size he)
    have hTi:s.heap.objs.size ≠ it:=by obtain ⟨o,ho',_⟩:=hit; exact Nat.ne_of_gt (Heap.lt_size ho')
    have kk:∀ b u,b ∉ [e,it] → s.heap.get? b = some u → h''.get? b = some u:=fun b u hb q=>by
      have b1:b ≠ e:=fun z=>hb (by simp [z])
      have b2:b ≠ it:=fun z=>hb (by simp [z])
      exact (hs''.2 b b1).trans (hk b u b1 b2 q)
    have hT'':=(hs''.2 _ hTe).trans hT
    refine ⟨.ref s.heap.objs.size,_,I.turnedNew (t':=tk + 1) (o:=.tup [.int i,.str ⟨#[c]⟩]) hf kk (Nat.le_refl _) ⟨by show 2 ≤ sizeLine; decide,[.int i tk,.str ⟨#[c]⟩ u],.cons ⟨_,rfl⟩ (.cons ⟨_,rfl⟩ .nil),⟨_,hT'',rfl,_,rfl⟩⟩,rfl,
      ⟨_,c,rfl,I.fresh,rfl,hcx⟩,⟨hi,⟨_,by simpa using he''⟩,by obtain ⟨o,ho,r⟩:=hit'; exact ⟨o,(hs''.2 it hei.symm).trans ho,r⟩⟩,fun b hb=>?_⟩
    have hbs:b < s.heap.objs.size:=by
      rcases List.mem_cons.mp hb with z | z
      · rw [z]; exact Heap.lt_size he
      · have z':b = it:=by simpa using z
        rw [z']
        obtain ⟨o,ho',_⟩:=hit
        exact Heap.lt_size ho'
    rw [upd_ne (Nat.ne_of_lt hbs)]
    exact (hf b hb).1
  done:=by
    intro X hP hw hK hc i pins s σ H E I hf st hg
    subst hP hw hK
    obtain ⟨hle,⟨old,he⟩,hit⟩:=st
    have hi:i = z.cps.size:=Nat.le_antisymm hle hg
    subst hi
    have hhd:X.A.in1.handled = none:=I.ok.hd hc
    exact wpAny_pyNext_enum_endD (drawsS hhd it z t) he hit fun h' eb=>⟨rfl,I.turnedL (t':=s.toks) hf fun b u hb q=>eb b u (fun z=>hb (by simp [z])) q⟩
  self:=fun _ _ _ _ _ st h=>by obtain ⟨_,⟨old,he⟩,_⟩:=st; exact wpAny_pyIter_enum he h
section
variable {X:Cx} {K:PySem.W.Frag}
def iEnumX (K:PySem.W.Frag) (tl:TA):TI:=fun σ H R=>tl σ H fun vs H1=>match vs with
  | [.ref a]=>(∃ xs,SqL K H1 a xs) ∧ R (Ite K a) H1
  | [.str z]=>R (Itw z) H1
  | _=>False
theorem pi_enumX {ts:List Expr} {kk:Nat} {tp p pos:Pos} {a:Expr} {ta:TA} (hg:Gl X "enumerate") (hm:X.mg "enumerate" = none) (ha:PA X [a] ta) (hs:starEach [a] X.env = [(false,eval a X.env)]:=by rfl) (hK:X.K = K:=by rfl) :
    PI X (.Tuple ts kk tp) (.Call (.Name "enumerate" p) [a] [] pos) (iEnumX K ta):=by
  subst hK
  intro pins s σ H R I h
  refine Call_ (ld_blt I hg hm boot_enumerate (PyProof.Rows.callWith_type1 (thn (ha pos pins s σ H _ I h) fun us s1 ⟨vs,H1,I1,r1,q1⟩=>?_) hs rfl))
  have hne:s1.heap.objs.size + 1 ≠ s1.heap.objs.size:=by omega
  have hb':∀ b ∈ [s1.heap.objs.size + 1,s1.heap.objs.size],s1.heap.objs.size ≤ b:=fun b hb=>by
    rcases List.mem_cons.mp hb with z | z
    · rw [z]; exact Nat.le_succ _
    · have z':b = s1.heap.objs.size:=by simpa using z
      rw [z']; exact Nat.le_refl _
  match vs,r1,q1 with
  | [.ref l],r1,q1 =>
    obtain ⟨⟨xs,hq⟩,q⟩:=q1
    obtain ⟨u,rfl,rx⟩:=vals1 r1
    cases rx
    obtain ⟨its,rv,pl,hz⟩:=I1.list hq
    refine call_enumerate_list pl.isList fun h' he hit hsz hk=>?_
    refine wpAny_pyIter_enum he ?_
    exact ⟨s1.heap.objs.size + 1,[s1.heap.objs.size + 1,s1.heap.objs.size],_,_,H1,rfl,I1.kept (t':=s1.toks) hk,turn_enum l _ _ hne,⟨⟨_,he⟩,hit⟩,fun b hb=>I1.fpOk (hb' b hb) (I1.hok.fresh (hb' b hb)),q⟩
  | [.str z],r1,q1 =>
    obtain ⟨u,rfl,rx⟩:=vals1 r1
    obtain ⟨t,rfl⟩:=rx
    refine call_enumerate_str fun h' he hit hsz hk=>?_
    refine wpAny_pyIter_enum he ?_
    exact ⟨s1.heap.objs.size + 1,[s1.heap.objs.size + 1,s1.heap.objs.size],_,_,H1,rfl,I1.kept (t':=s1.toks) hk,turn_enumS z t _ _ hne,⟨Nat.zero_le _,⟨_,he⟩,hit⟩,fun b hb=>I1.fpOk (hb' b hb) (I1.hok.fresh (hb' b hb)),q1⟩
end
end L2

namespace Mi
open PySem
noncomputable section
def listXD (ds:List Dt):Option Dt:=match ds with
  | [.str z]=>@ite _ (z.length ≤ 100000) (Classical.propDecidable _) (some (.lst (signsD z))) none
  | ds=>listD ds
def iEnX (e:AM):IM:=fun ρ=>bindR (e ρ) fun vs=>match vs with
  | [.lst xs]=>okR (enumD 0 xs)
  | [.str z]=>okR (enumD 0 (signsD z))
  | _=>none
end
end Mi

namespace L3
open PySem PySem.Spec
open L2 hiding Rep RepL
open Mi (Dt Xn R okR bindR optR bindR_ok bindR_none bindR_err optR_some optR_none Rh Sl Ro EM TM AM FM IM SM Tg Out bindT setsH setsO full frz frz1 frzAt)
section
variable [Kc] {mg:Str → Option Value} {E:XK} {L n k l:Nat} {te ta tb:TE} {e ea eb ma:EM} {t:TA} {m:AM}
theorem repL_signs {G:Hp} (z:Str):RepL G (Mi.signsD z) (signsV z):=by
  unfold Mi.signsD signsV
  induction z.cps.toList with
  | nil=>rfl
  | cons c r ih=>exact ⟨_,_,rfl,rfl,ih⟩
theorem cb_listX:CBi (rListX Kc.K) Mi.listXD 1:=by
  intro mg E G H ds vs Q s h p
  match ds,h,p with
  | [.str z],h,p =>
    obtain ⟨x,rfl,hx⟩:=repL1 h
    cases (show x = .str z from hx)
    unfold Mi.listXD at p
    dsimp only at p
    split at p
    · rename_i hz
      exact ⟨big' hz,fun l hl=>PostE.lst p (Ext.refl s) (repL_signs z) hl⟩
    · exact p.elim
  | [],h,p=>exact p.elim
  | [.non],h,p=>exact p.elim
  | [.bl _],h,p=>exact p.elim
  | [.int _],h,p=>exact p.elim
  | [.lst _],h,p =>
    have q:=cb_list mg E G H _ vs Q s h p
    obtain ⟨x,rfl,a,xs,rfl,ha,ra⟩:=repL1 h
    exact q
  | [.tup _],h,p =>
    have q:=cb_list mg E G H _ vs Q s h p
    obtain ⟨x,rfl,a,xs,rfl,ha,ra⟩:=repL1 h
    exact q
  | [.scr _],h,p =>
    have q:=cb_list mg E G H _ vs Q s h p
    obtain ⟨x,rfl,a,rfl,ha⟩:=repL1 h
    exact q
  | [.exc _ _ _],h,p=>exact p.elim
  | [.ins _ _],h,p=>exact p.elim
  | [.dct _],h,p=>exact p.elim
  | a :: b :: c,h,p=>cases a <;> exact p.elim
theorem itw_ok {G:Hp} (z:Str):ItOk (Itw z) G (Mi.enumD 0 (Mi.signsD z)):=by
  intro i G1 H1 s1 s2
  rw [enumD_len]
  have hl:(Mi.signsD z).length = z.cps.size:=by simp [Mi.signsD]
  rw [hl]
  refine ⟨fun hi=>hi,fun hi=>hi,fun x H2 d hd hy=>?_⟩
  obtain ⟨T,c,rfl,hT,rfl,hc⟩:=hy
  obtain ⟨e,h1,rfl⟩:=enumD_get _ 0 i d hd
  have x1:=Ext.new s2 hT (.tup [.int i,.str ⟨#[c]⟩])
  have he:e = .str ⟨#[c]⟩:=by
    unfold Mi.signsD at h1
    rw [List.getElem?_map,Array.getElem?_toList,hc] at h1
    cases h1
    rfl
  subst he
  refine ⟨_,x1,T,_,rfl,upd_same,_,_,rfl,?_,_,_,rfl,rfl,rfl⟩
  show V.int (i:Int) = .int ((0 + i:Nat):Int)
  rw [Nat.zero_add]
theorem di_enX (A:DA mg E t m 0):DI mg E (iEnumX Kc.K t) (Mi.iEnX m) false:=by
  intro G H σ ρ Q s w p
  refine A.step errI s w p fun ds vs G1 H1 S T _ fr o p1=>?_
  have r:=o.repL
  match ds,r,p1 with
  | [.lst es],r,p1 =>
    obtain ⟨x,rfl,a,xs,rfl,ha,ra⟩:=repL1 r
    exact ⟨⟨xs,SqL.of (fr.ext.in' _ _ ha)⟩,p1 _ G1 H1 fr.ext (ite_ok ha ra)⟩
  | [.str z],r,p1 =>
    obtain ⟨x,rfl,hx⟩:=repL1 r
    cases (show x = .str z from hx)
    exact p1 _ G1 H1 fr.ext (itw_ok z)
  | [],_,p=>exact p.elim
  | [.non],_,p=>exact p.elim
  | [.bl _],_,p=>exact p.elim
  | [.int _],_,p=>exact p.elim
  | [.tup _],_,p=>exact p.elim
  | [.scr _],_,p=>exact p.elim
  | [.exc _ _ _],_,p=>exact p.elim
  | [.ins _ _],_,p=>exact p.elim
  | [.dct _],_,p=>exact p.elim
  | x :: _ :: _,_,p=>cases x <;> exact p.elim
theorem one_lst {f:List Dt → Option Dt} (h1:f [] = none) (h2:∀ d,(∀ es,d ≠ .lst es) → f [d] = none) (h3:∀ a b r,f (a :: b :: r) = none):∀ ds,(∀ es,ds ≠ [.lst es]) → f ds = none:=by
  intro ds h
  match ds,h with
  | [],_=>exact h1
  | [d],h=>exact h2 d fun es z=>h es (by rw [z])
  | a :: b :: r,_=>exact h3 a b r
end
end L3

namespace L3
open PySem PySem.Spec
open L2 hiding Rep RepL
open Mi (Dt Xn R okR bindR optR bindR_ok bindR_none bindR_err optR_some optR_none Rh Sl Ro EM TM AM FM IM SM Tg Out bindT setsH setsO full frz frz1 frzAt)
section
variable [Kc] {G0 H0 S0:Hp} {σ:St} {ρ:Ro} {G H:Hp} {As:Nat → Addr → Prop}
end
section
variable [Kc] {mg:Str → Option Value} {E:XK} {L n k l:Nat} {te ta tb:TE} {e ea eb ma:EM} {t:TA} {m:AM}
end
end L3

namespace L2
open PySem PySem.Spec PyProof.Rows
section
variable {X:Cx}
end
end L2

namespace Mi
open PySem
noncomputable section
end
end Mi

namespace L3
open PySem PySem.Spec
open L2 hiding Rep RepL
open Mi (Dt Xn R okR bindR optR bindR_ok bindR_none bindR_err optR_some optR_none Rh Sl Ro EM TM AM FM IM SM Tg Out bindT setsH setsO full frz frz1 frzAt)
section
variable [Kc] {mg:Str → Option Value} {E:XK} {L n k l:Nat} {te ta tb:TE} {e ea eb ma:EM} {t:TA} {m:AM}
end
end L3

namespace L2
open PySem PySem.Spec PyProof.Rows
structure RoomH (k:Nat) (A:Around):Prop where
  dp:A.depth + 3 * k + 5 < recursionLimit
  un:A.units + 16 * k + 200 < cLine
structure FnOkH (P:Program) (w:World) (K:PySem.W.Frag) (mg:Str → Option Value) (base:Heap) (k:Nat) (f:Addr) (fd:FuncData) (ps:List Str) (sp:Sp):Prop where
  len:∀ vs H Q E,sp vs H Q E → vs.length = ps.length
  run:∀ (A:Around) (outer:List Env) (s:Shared) (H:Hp) (args:Args) (us:List Value) (vs:List V) (Q:VK) (E:XK),RoomH k A → Env0 P w K mg base A outer s H → BindsTo s fd args (ps.zip us) → Vals vs us → sp vs H Q E →
    codeAny (model P w) A (.call (.ref f) args) (CR CX0 outer P w H s Q E) s
section
variable {X:Cx} {x:Str} {j k:Nat} {ps:List Str} {sp:Sp} {e:Expr} {es:List Expr} {t:TA} {p pos:Pos}
end
end L2
namespace L2
open PySem PySem.Spec PyProof.Rows
end L2

namespace Mi
end Mi

namespace L3
open PySem PySem.Spec
open L2 hiding Rep RepL
open Mi (Dt Xn R okR bindR optR bindR_ok bindR_none bindR_err optR_some optR_none Rh Sl Ro EM TM AM FM IM SM Tg Out bindT setsH setsO full frz frz1 frzAt)
section
variable [Kc] {mg:Str → Option Value} {E:XK} {L n n1:Nat} {t1 t2:TE} {e1 e2:EM}
end
end L3

namespace Mi
end Mi

namespace L3
open PySem PySem.Spec
open L2 hiding Rep RepL
open Mi (Dt Xn R okR bindR optR bindR_ok bindR_none bindR_err optR_some optR_none Rh Sl Ro EM TM AM FM IM SM Tg Out bindT setsH setsO full frz frz1 frzAt)
section
variable [Kc] {mg:Str → Option Value} {E:XK} {L n:Nat} {te:TE} {e:EM}
end
end L3

namespace L2
open PySem PySem.Spec PyProof.Rows
section
variable {X:Cx} {e m1:Expr} {te ts:TE} {pos p2:Pos}
def rRevS:R2:=fun x y H Q=>∃ z:Str,x = .str z ∧ y = .int (-1) ∧ z.length ≤ sizeLine ∧ Q (.str ⟨z.cps.toList.reverse.toArray⟩) H
theorem fm_congr {f g:Nat → Option Nat}:∀ {l:List Nat},(∀ k ∈ l,f k = g k) → l.filterMap f = l.filterMap g
  | [],_=>rfl
  | a :: r,h=>by rw [List.filterMap_cons,List.filterMap_cons,h a (by simp),fm_congr fun k hk=>h k (by simp [hk])]
theorem rev_pick (xs:List Nat):(Builtin.Str.strSliceIndices none none (-1) xs.length).filterMap (xs[·]?) = xs.reverse:=by
  have e:Builtin.Str.strSliceIndices none none (-1) xs.length = (List.range xs.length).map fun k=>xs.length - 1 - k:=by
    unfold Builtin.Str.strSliceIndices sliceRange
    dsimp only
    rw [if_neg (show ¬ ((-1:Int) > 0) by decide),if_neg (show ¬ ((-1:Int) > 0) by decide),if_neg (show ¬ ((-1:Int) > 0) by decide)]
    have hc:(if ((xs.length:Int) - 1) > -1 then ((xs.length:Int) - 1 - -1 - -1 - 1) / (- -1) else 0).toNat = xs.length:=by
      rw [show (- -1:Int) = 1 by rfl,Int.ediv_one]
      split <;> omega
    rw [hc]
    refine List.map_congr_left fun k hk=>?_
    have:=List.mem_range.mp hk
    omega
  rw [e,List.filterMap_map]
  have h2:(List.range xs.length).filterMap ((xs[·]?) ∘ fun k=>xs.length - 1 - k) = ((List.range xs.length).map fun j=>0 + j).filterMap (xs.reverse[·]?):=by
    rw [List.filterMap_map]
    refine fm_congr fun k hk=>?_
    have hk':=List.mem_range.mp hk
    show xs[xs.length - 1 - k]? = xs.reverse[0 + k]?
    rw [Nat.zero_add,List.getElem?_reverse hk']
  rw [h2,picked_eq xs.reverse 0 xs.length (by simp),List.drop_zero]
  exact List.take_of_length_le (by simp)
theorem pe_revS (he:PE X e te) (hs:PE X m1 ts):PE X (.Subscript e (.Slice none none (some m1) p2) pos) (tOp rRevS te ts):=by
  intro pins s σ H Q I h
  refine Subscript_ (thn (he pins s σ H _ I h) fun v s1 ⟨x,H1,I1,r1,q1⟩=>?_)
  refine wpAny_Slice ?_
  rw [evalPart_none]
  refine wpAny_pure ?_
  refine wpAny_pure ?_
  rw [evalPart_some]
  refine thn (hs pins s1 σ H1 _ I1 q1) fun u s2 ⟨y,H2,I2,r2,q2⟩=>?_
  obtain ⟨z,rfl,rfl,hz,q⟩:=q2
  obtain ⟨t,rfl⟩:=r1
  obtain ⟨t2,rfl⟩:=r2
  have I3:Inv X pins σ H2 { s2 with heap:=s2.heap.push { cls:=.type "slice",data:=.fields #[.none,.none,.int (-1) t2] } }:=I2.kept (t':=s2.toks) fun b ob q=>Heap.get?_push_of_some _ q
  have hm:sliceMade z t none none (some (-1,t2)) = .str ⟨z.cps.toList.reverse.toArray⟩:=by
    unfold sliceMade slicePicked
    rw [if_neg (by simp)]
    congr 2
    obtain ⟨⟨xs⟩⟩:=z
    have:=rev_pick xs
    have hlen:(Str.mk ⟨xs⟩).length = xs.length:=rfl
    rw [hlen]
    simpa using this
  show wpAny (model X.prog X.w) X.A (subscriptTail e (.Slice none none (some m1) p2) (.str z t) (.ref s2.heap.objs.size)) (EP X pins σ Q) X.xe { s2 with heap:=s2.heap.push { cls:=.type "slice",data:=.fields #[.none,.none,.int (-1) t2] } }
  refine tail_any (ops:=[.ref s2.heap.objs.size,.str z t]) (typeIs_str _ _ _) F.slot_str_getitem.lookup (wpAny_getItem_str_slice (l:=none) (u:=none) (st:=some (-1,t2)) ⟨_,Heap.get?_push_size _ rfl,rfl,rfl⟩ rfl ?_) (by with_unfolding_all rfl)
  rw [hm]
  refine ⟨?_,.str _,H2,I3.tok _,⟨_,rfl⟩,q⟩
  have:(⟨z.cps.toList.reverse.toArray⟩:Str).length = z.length:=by simp [Str.length]
  rw [this]
  exact hz
def rMinS:List V → Hp → VK → Prop:=fun vs H Q=>match vs with
  | [.ref a]=>∃ zs:List Str,H a = some (.lst (zs.map V.str)) ∧ 0 < zs.length ∧ ∀ m,m ∈ zs → (∀ y ∈ zs,¬ y.cps.toList < m.cps.toList) → Q (.str m) H
  | _=>False
theorem cmp_strs_lt {prog:Program} {w:World} {A:Around} {P:Nat → Value → Prop} (val:Nat → Str) (hval:∀ i v,P i v → ∃ t,v = .str (val i) t) :
    CmpOf prog w A .Lt P (fun i j=>decide ((val i).cps.toList < (val j).cps.toList)):=fun i j vi vj s Q E hi hj h=>by
  obtain ⟨t,rfl⟩:=hval i vi hi
  obtain ⟨u,rfl⟩:=hval j vj hj
  exact richCompare_gives (op:=.Lt) (typeIs_str s _ t) (typeIs_str s _ u) PySem.F.slot_str_lt PySem.F.entry_str_lt (PySem.F.args_str_lt_2 _ _) (gives_str_lt _ _ t u) (fun x=>nomatch x) h
theorem argBest_low (val:Nat → Str):∀ k,argBest (fun i j=>decide ((val i).cps.toList < (val j).cps.toList)) k ≤ k ∧ ∀ j ≤ k,¬ (val j).cps.toList < (val (argBest (fun i j=>decide ((val i).cps.toList < (val j).cps.toList)) k)).cps.toList
  | 0=>⟨Nat.le_refl _,fun j hj=>by rw [Nat.le_zero.mp hj]; exact List.lt_irrefl _⟩
  | k + 1=>by
    obtain ⟨h1,h2⟩:=argBest_low val k
    unfold argBest
    split
    · rename_i hlt
      have hlt':=of_decide_eq_true hlt
      refine ⟨Nat.le_refl _,fun j hj=>?_⟩
      rcases Nat.lt_or_eq_of_le hj with hj | hj
      · exact fun q=>h2 j (by omega) (List.lt_trans q hlt')
      · rw [hj]; exact List.lt_irrefl _
    · rename_i hlt
      refine ⟨by omega,fun j hj=>?_⟩
      rcases Nat.lt_or_eq_of_le hj with hj | hj
      · exact h2 j (by omega)
      · rw [hj]; exact fun q=>hlt (decide_eq_true q)
theorem strs_at:∀ {vs:List Value} {zs:List Str},StrsAre vs zs → ∀ (i:Nat) (v:Value),vs[i]? = some v → ∃ t,v = .str (zs.getD i ⟨#[]⟩) t
  | _,_,.nil,i,v,h=>by simp at h
  | _,_,.cons y t r,0,v,h=>by simp at h; exact ⟨t,by simp [h]⟩
  | _,_,.cons y t r,i + 1,v,h=>by
    obtain ⟨u,e⟩:=strs_at r i v (by simpa using h)
    exact ⟨u,by simpa using e⟩
theorem strs_len:∀ {vs:List Value} {zs:List Str},StrsAre vs zs → vs.length = zs.length
  | _,_,.nil=>rfl
  | _,_,.cons _ _ r=>by simp [strs_len r]
theorem k_minS (hc:X.calm = true):CallR X (.builtin "min") rMinS:=by
  intro pins s σ H vs us Q I r h
  match vs,r,h with
  | [.ref a],r,h =>
    obtain ⟨zs,ha,hz,q⟩:=h
    obtain ⟨u,rfl,rx⟩:=vals1 r
    cases rx
    obtain ⟨its,rv,hl⟩:=hok_list I.hok ha
    have hi:=strs_vals rv
    have hlen:=strs_len hi
    have hlt:a < s.heap.objs.size:=by obtain ⟨_,e,_⟩:=hl; exact Heap.lt_size e
    refine call_min_walk (wpAny_pyIter_list hl ?_)
    refine ⟨s.heap.objs.size,[s.heap.objs.size,a],[s.heap.objs.size],its.toArray.size,fun i v=>its.toArray[i]? = some v,fun i h=>h.IsListIter s.heap.objs.size a i ∧ h.IsList a its.toArray,_,rfl,Walks.list (A:=X.A.in1) (I.ok.hd hc) _ a (Nat.ne_of_lt hlt) its.toArray,⟨⟨_,Heap.get?_push_size _ rfl,rfl,rfl⟩,hl.push _⟩,fun b hb=>?_,by simpa [hlen] using hz,
      cmp_strs_lt (fun i=>zs.getD i ⟨#[]⟩) (fun i v hv=>strs_at hi i v (by simpa using hv)),fun v h' tk hP hk=>?_⟩
    · show b < (s.heap.push _).objs.size
      rw [Heap.size_push]
      simp only [List.mem_cons,List.not_mem_nil,or_false] at hb
      rcases hb with rfl | rfl
      · exact Nat.lt_succ_self _
      · exact Nat.lt_succ_of_lt hlt
    · obtain ⟨t,rfl⟩:=strs_at hi _ v (by rw [← hP,List.getElem?_toArray])
      obtain ⟨h1,h2⟩:=argBest_low (fun i=>zs.getD i ⟨#[]⟩) (its.toArray.size - 1)
      have hsz:its.toArray.size = zs.length:=by simp [hlen]
      refine ⟨.str _,H,I.kept (t':=tk) (old_kept (l:=a) hk),⟨_,rfl⟩,q _ ?_ fun y hy=>?_⟩
      · rw [List.getD_eq_getElem?_getD,List.getElem?_eq_getElem (by omega)]; simp
      · obtain ⟨j,hj,e⟩:=List.getElem_of_mem hy
        have:=h2 j (by omega)
        rw [show zs.getD j ⟨#[]⟩ = y by rw [List.getD_eq_getElem?_getD,List.getElem?_eq_getElem hj,e]; rfl] at this
        exact this
end
end L2

namespace Mi
open PySem
noncomputable section
def revD:Dt → Dt → Option Dt
  | .str z,.int j=>@ite _ (j = -1 ∧ z.length ≤ 100000) (Classical.propDecidable _) (some (.str ⟨z.cps.toList.reverse.toArray⟩)) none
  | _,_=>none
def leZ (a b:Str):Bool:=decide (a.cps.toList ≤ b.cps.toList)
def sortZ (zs:List Str):List Str:=zs.mergeSort leZ
def sortSD:List Dt → Option Dt
  | [.lst ds]=>match strsD ds with
    | some zs=>@ite _ (zs.length < 64) (Classical.propDecidable _) (some (.lst ((sortZ zs).map .str))) none
    | none=>none
  | _=>none
def minSD:List Dt → Option Dt
  | [.lst ds]=>match strsD ds with
    | some zs=>match sortZ zs with
      | m :: _=>some (.str m)
      | []=>none
    | none=>none
  | _=>none
theorem leZ_iff (a b:Str):leZ a b = true ↔ a.cps.toList ≤ b.cps.toList:=by simp [leZ]
theorem str_eqZ {a b:Str} (h:a.cps.toList = b.cps.toList):a = b:=by
  obtain ⟨⟨x⟩⟩:=a
  obtain ⟨⟨y⟩⟩:=b
  have:x = y:=h
  rw [this]
theorem uniqZ:∀ {a b:List Str},a.Perm b → a.Pairwise (fun a b=>a.cps.toList ≤ b.cps.toList) → b.Pairwise (fun a b=>a.cps.toList ≤ b.cps.toList) → a = b
  | [],b,h,_,_=>(List.nil_perm.mp h).symm
  | x :: r,[],h,_,_=>by simpa using h.length_eq
  | x :: r,y :: q,h,ha,hb=>by
    have e:x = y:=by
      rcases List.mem_cons.mp (h.mem_iff.mp (List.mem_cons_self (a:=x) (l:=r))) with z | z
      · exact z
      · rcases List.mem_cons.mp (h.mem_iff.mpr (List.mem_cons_self (a:=y) (l:=q))) with u | u
        · exact u.symm
        · exact str_eqZ (List.le_antisymm ((List.pairwise_cons.mp ha).1 y u) ((List.pairwise_cons.mp hb).1 x z))
    subst e
    rw [uniqZ (List.Perm.cons_inv h) (List.pairwise_cons.mp ha).2 (List.pairwise_cons.mp hb).2]
theorem sortZ_perm (zs:List Str):(sortZ zs).Perm zs:=List.mergeSort_perm zs _
theorem sortZ_asc (zs:List Str):(sortZ zs).Pairwise (fun a b=>a.cps.toList ≤ b.cps.toList):=by
  have:=List.pairwise_mergeSort (le:=leZ) (fun a b c h1 h2=>(leZ_iff _ _).mpr (List.le_trans ((leZ_iff _ _).mp h1) ((leZ_iff _ _).mp h2))) (fun a b=>by
    rcases List.le_total a.cps.toList b.cps.toList with h | h
    · rw [(leZ_iff _ _).mpr h]; rfl
    · rw [(leZ_iff _ _).mpr h]; simp) zs
  exact this.imp fun h=>(leZ_iff _ _).mp h
end
end Mi

namespace L3
open PySem PySem.Spec
open PyProof.Rows (risingS sortedS ltCps_eq)
open L2 hiding Rep RepL
open Mi (Dt Xn R okR bindR optR bindR_ok bindR_none bindR_err optR_some optR_none Rh Sl Ro EM TM AM FM IM SM OM Tg Out bindT setsH setsO full frz frz1 frzAt)
section
variable [Kc] {mg:Str → Option Value} {E:XK} {L n k l:Nat} {te ta tb:TE} {e ea eb ma:EM} {t:TA} {m:AM}
theorem ro_rev:ROp rRevS Mi.revD n:=by
  intro mg E G H d e x y Q s h1 h2 p
  cases d with
  | str z =>
    cases e with
    | int j =>
      cases (show x = .str z from h1)
      cases (show y = .int j from h2)
      rw [Mi.revD] at p
      split at p
      · rename_i hj
        obtain ⟨rfl,hz⟩:=hj
        exact ⟨z,rfl,rfl,by rw [sizeLine_eq]; omega,PostE.val p (Ext.refl s) rfl rfl⟩
      · exact p.elim
    | _=>exact p.elim
  | _=>exact p.elim
theorem rising_pw:∀ (l:List Str) (p:Str),risingS p l = true → (p :: l).Pairwise (fun a b=>a.cps.toList ≤ b.cps.toList)
  | [],p,_=>by simp
  | x :: r,p,h=>by
    rw [risingS,Bool.and_eq_true,ltCps_eq] at h
    have h1:p.cps.toList ≤ x.cps.toList:=by
      have:=h.1
      simpa [List.not_lt] using this
    have h2:=rising_pw r x h.2
    refine List.pairwise_cons.mpr ⟨fun y hy=>?_,h2⟩
    rcases List.mem_cons.mp hy with rfl | hy
    · exact h1
    · exact List.le_trans h1 ((List.pairwise_cons.mp h2).1 y hy)
theorem sorted_pw {l:List Str} (h:sortedS l = true):l.Pairwise (fun a b=>a.cps.toList ≤ b.cps.toList):=by
  cases l with
  | nil=>exact .nil
  | cons x r=>exact rising_pw r x h
theorem one_strs {r:List V → Hp → VK → Prop} {f:List Dt → Option Dt} (h0:∀ ds,(∀ es,ds ≠ [.lst es]) → f ds = none) (h1:∀ es,Mi.strsD es = none → f [.lst es] = none)
    (h2:∀ (mg:Str → Option Value) (E:XK) (G H:Hp) (a:Addr) (es:List Dt) (ns:List Str) (Q:VK),Same G H → Mi.strsD es = some ns → H a = some (.lst (ns.map V.str)) → PostE mg E G H n (optR (f [.lst es])) Q → r [.ref a] H Q):CBi r f n:=by
  intro mg E G H ds vs Q s h p
  by_cases hd:∃ es,ds = [.lst es]
  · obtain ⟨es,rfl⟩:=hd
    obtain ⟨x,rfl,a,xs,rfl,ha,ra⟩:=repL1 h
    cases ei:Mi.strsD es with
    | none=>rw [h1 es ei] at p; exact p.elim
    | some ns=>exact h2 mg E G H a es ns Q s ei (by rw [s _ _ ha,strs_rep ei ra]) p
  · rw [h0 ds fun es z=>hd ⟨es,z⟩] at p; exact p.elim
theorem cb_minS:CBi rMinS Mi.minSD n:=by
  refine one_strs (one_lst rfl (fun d h=>by cases d <;> first | rfl | exact absurd rfl (h _)) fun a b r=>by cases a <;> rfl) (fun es h=>by rw [Mi.minSD,h]) fun mg E G H a es ns Q s ei ha p=>?_
  rw [Mi.minSD,ei] at p
  dsimp only at p
  split at p
  · rename_i m0 r0 e0
    have hp:=Mi.sortZ_perm ns
    have hw:=Mi.sortZ_asc ns
    rw [e0] at hp hw
    refine ⟨ns,ha,?_,fun m1 h1 h2=>?_⟩
    · rw [← hp.length_eq]; simp
    have hm:m1 = m0:=by
      have q1:m0 ∈ ns:=hp.mem_iff.mp (by simp)
      have q2:=h2 m0 q1
      rcases List.mem_cons.mp (hp.mem_iff.mpr h1) with z | z
      · exact z
      · exact Mi.str_eqZ (List.le_antisymm (List.not_lt.mp q2) ((List.pairwise_cons.mp hw).1 m1 z))
    subst hm
    exact PostE.val p (Ext.refl s) rfl rfl
  · exact p.elim
end
end L3

namespace L2
open PySem PySem.Spec PyProof.Rows
section
variable {X:Cx} {x:Str} {C:Addr} {p pos:Pos}
end
def spIns (K:PySem.W.Frag) (fl:List Str):Sp:=fun vs H Q _=>∃ (x C dx:Addr) (ys:List V),vs = .ref x :: ys ∧ ys.length = fl.length ∧ H x = some (.ins C dx []) ∧ Cls K C ∧ (∀ f ∈ fl,NoAttr K C f) ∧ Q .non (upd H x (.ins C dx (fl.zip ys)))
section
variable {X:Cx} {m:Str} {k:Nat} {E:XK} {o e:Expr} {es:List Expr} {ta:TE} {t:TA} {apos pos:Pos} {tb:List (Addr × Sp)}
end
structure OIs (K:PySem.W.Frag) (C:Addr):Prop where
  cl:Cls K C
  ha:PySem.W.findIn K (.ref C) "__class__" = some (some (.builtin "object.__class__"))
  hn:PySem.W.specialIn K (.builtin "object.__class__") "__get__" = some (some (.builtin "getset_descriptor.__get__"))
  htk:PySem.W.takesIn K (.builtin "object.__class__") = some true
  hm:PySem.W.mroIn K C (.type "object") = some true
end L2

namespace Mi
open PySem
noncomputable section
def svD:Dt → Option Sv
  | .int i=>some (.i i)
  | .str x=>some (.s x)
  | _=>none
def svsD:List Dt → Option (List Sv)
  | []=>some []
  | d :: r=>match svD d,svsD r with
    | some v,some vs=>some (v :: vs)
    | _,_=>none
def dSv:Sv → Dt
  | .i n=>.int n
  | .s x=>.str x
def eNew (c:Str) (fl:List Str) (am:AM):EM:=fun ρ=>bindR (am ρ) fun ds=>match svsD ds with
  | some vs=>if vs.length = fl.length then okR (.ins c (fl.zip vs)) else none
  | none=>none
def eNew0 (c:Str):EM:=fun _=>okR (.ins c [])
def eFld (hs:List Str) (f:Str) (e:EM):EM:=fun ρ=>bindR (e ρ) fun d=>match d with
  | .ins c fs=>if c ∈ hs then (match fs.lookup f with | some v=>okR (dSv v) | none=>none) else none
  | _=>none
def eMeth (tb:List (Str × FM)) (m:Str) (e:EM) (am:AM):EM:=fun ρ=>bindR (e ρ) fun d=>match d with
  | .ins c fs=>match tb.lookup c with
    | some g=>match fs.lookup m with
      | none=>bindR (am ρ) fun ds=>g (d :: ds)
      | some _=>none
    | none=>none
  | _=>none
def eIsO (ys ns:List Str) (e:EM):EM:=fun ρ=>bindR (e ρ) fun d=>match d with
  | .ins c _=>if c ∈ ys then okR (.bl true) else if c ∈ ns then okR (.bl false) else none
  | _=>none
end
end Mi

namespace L3
open PySem PySem.Spec
open L2 hiding Rep RepL
open Mi (Dt Xn R okR bindR optR bindR_ok bindR_none bindR_err optR_some optR_none Rh Sl Ro EM TM AM FM IM SM OM Tg Out bindT setsH setsO full frz frz1 frzAt)
structure OCls (K:PySem.W.Frag) (mg:Str → Option Value) (c:Str) (C:Addr):Prop where
  cl:clK K c = some C
  gm:mg c = some (.ref C)
  is:OIs K C
structure ONew (K:PySem.W.Frag) (mg:Str → Option Value) (c:Str) (C:Addr):Prop extends OCls K mg c C where
  mks:PySem.W.makesIn K C = true
  ini:PySem.W.findIn K (.ref C) "__init__" = some (some (.builtin "object.__init__"))
  kp:PySem.W.keepIn K (.ref C) = true
structure OIni (P:Program) (w:World) (K:PySem.W.Frag) (mg:Str → Option Value) (base:Heap) (c:Str) (fl:List Str) (C:Addr):Prop extends OCls K mg c C where
  na:∀ f ∈ fl,NoAttr K C f
  ini:∃ fI fd ps,Mk K C fI ∧ FnOk P w K mg base (CXe P w) 1 fI fd ps (spIns K fl) ∧ Binds K fd ps []
section
variable {X:Cx} {c:Str} {fl:List Str} {C:Addr} {k:Nat} {E:XK} {e:Expr} {es:List Expr} {t:TA} {p pos:Pos}
end
section
variable [Kc] {mg:Str → Option Value} {E:XK} {L n k l:Nat} {te ta tb:TE} {e ea eb ma:EM} {t:TA} {m:AM}
end
end L3

namespace Mi
open PySem
noncomputable section
end
end Mi

namespace L2
open PySem PySem.Spec PyProof.Rows
section
variable {X:Cx} {m:Str} {k:Nat} {o e:Expr} {es:List Expr} {ta:TE} {t:TA} {apos pos:Pos} {tb:List (Addr × Sp)}
end
section
variable {prog:Program} {w:World} {A:Around} {E:Value → Shared → Prop} {s:Shared}
end
section
variable {X:Cx} {pos:Pos}
end
end L2
namespace L3
open PySem PySem.Spec
open L2 hiding Rep RepL
open Mi (Dt Xn R okR bindR optR bindR_ok bindR_none bindR_err optR_some optR_none Rh Sl Ro EM TM AM FM IM SM OM Tg Out bindT setsH setsO full frz frz1 frzAt)
section
variable [Kc] {mg:Str → Option Value} {E:XK} {L n k l:Nat} {te ta tb:TE} {e ea eb ma:EM} {t:TA} {m:AM}
end
end L3

namespace L2
open PySem PySem.Spec PyProof.Rows
theorem wpAny_chooseW {M:Model} {A:Around} {E:Value → Shared → Prop} {s:Shared} {src:Source} {n:Nat} {Q:Nat → Shared → Prop} (hn:n ≠ 0) (h:∀ i d,i < n → Q i { s with drawn:=d }):wpAny M A (choose src n) Q E s :=
  fun Γ p hΓ=>⟨hn,h _ _ (Nat.mod_lt _ (Nat.pos_of_ne_zero hn))⟩
theorem layNew_led (t:SetTable) (es:Array (Int × Value)) (h:Int) (x:Value):(layNew t es h x).2.1.led = t.led:=by
  unfold layNew
  split
  · dsimp only
    unfold SetTable.orStandIn
    split <;> rfl
  · rfl
theorem layNew_off (t:SetTable) (es:Array (Int × Value)) (h:Int) (x:Value) (hp:t.plain = false):(layNew t es h x).2.1.plain = false:=by
  unfold layNew
  split
  · dsimp only
    unfold SetTable.orStandIn
    split
    · exact hp
    · rfl
  · rfl
theorem relaid_keeps {t t':SetTable} {hs:Array Int} {w:Nat} {o:Array Nat} (h:t.relaid hs w = some (t',o)):t'.led = t.led ∧ t'.plain = t.plain:=by
  unfold SetTable.relaid SetTable.laid at h
  cases e:SetTable.layClean (SetTable.sizeAbove w - 1) hs with
  | none=>rw [e] at h; cases h
  | some ow =>
    rw [e] at h
    have h':=Option.some.inj h
    have:=congrArg Prod.fst h'
    dsimp only at this
    rw [← this]
    exact ⟨rfl,rfl⟩
theorem relayAll_keeps (t:SetTable) (es:Array (Int × Value)) (wanted:Nat):(relayAll t es wanted).2.1.led = t.led ∧ (t.plain = false → (relayAll t es wanted).2.1.plain = false):=by
  unfold relayAll
  split
  · rename_i t' order e
    obtain ⟨h1,h2⟩:=relaid_keeps e
    dsimp only
    split
    · exact ⟨h1,fun h=>h2.trans h⟩
    · exact ⟨rfl,fun _=>rfl⟩
  · exact ⟨rfl,fun _=>rfl⟩
section
variable {prog:Program} {w:World} {A:Around} {E:Value → Shared → Prop} {s:Shared}
def SetZ (prog:Program) (w:World) (h:Heap) (a:Addr) (led:Bool) (ks:List Str):Prop :=
  ∃ o es ep t,h.get? a = some o ∧ o.ExactSet ∧ o.data = .set es ep t ∧ ElemsOf (strKind prog w) es.toList ∧ es.toList.map (fun e=>strOf e.2) = ks ∧ ks.Nodup ∧ es.size < scanBound ∧ t.fits es.size = true ∧ t.led = led ∧ (0 < es.size → t.plain = false)
theorem SetZ.at {h h':Heap} {a:Addr} {led:Bool} {ks:List Str} (hS:SetZ prog w h a led ks) (hk:∀ o,h.get? a = some o → h'.get? a = some o):SetZ prog w h' a led ks:=by
  obtain ⟨o,es,ep,t,ho,r⟩:=hS
  exact ⟨o,es,ep,t,hk o ho,r⟩
theorem isStr_shape {k:Str} {v:Value} (h:(strKind prog w).is k v = true):∃ t,v = .str k t:=Value.isStrOf_shape h
theorem elem_str {es:List (Int × Value)} (h:ElemsOf (strKind prog w) es) {e:Int × Value} (he:e ∈ es):∃ k t,e.2 = .str k t:=by
  obtain ⟨⟨k,hk,_⟩,_⟩:=h e he
  obtain ⟨t,e1⟩:=isStr_shape hk
  exact ⟨k,t,e1⟩
theorem is_iff {es:List (Int × Value)} (h:ElemsOf (strKind prog w) es) {e:Int × Value} (he:e ∈ es) (k:Str):(strKind prog w).is k e.2 = true ↔ strOf e.2 = k:=by
  obtain ⟨k',t,e1⟩:=elem_str h he
  rw [e1]
  constructor
  · intro z
    obtain ⟨t',e2⟩:=isStr_shape z
    injection e2 with e3
  · rintro rfl
    exact strKind_is prog w _ t
theorem setAdd_Z {a:Addr} {led:Bool} {ks:List Str} {k:Str} {tk:Tok} {Q:Bool → Shared → Prop} (hS:SetZ prog w s.heap a led ks) (hroom:ks.length + 1 < scanBound)
    (h:∀ h' ks' b,Heap.SameBut a s.heap h' → SetZ prog w h' a led ks' → (k ∈ ks → ks' = ks) → (k ∉ ks → ks'.Perm (ks ++ [k])) → Q b { s with heap:=h' }) :
    wpAny (model prog w) A (setAddHashed a (.str k tk) ((strKind prog w).hash k)) Q E s:=by
  obtain ⟨o,es,ep,t,ho,hex,hd,hel,hks,hnd,hb,hf,hled,hpl⟩:=hS
  have hn:es.size = ks.length:=by rw [← hks,List.length_map,Array.length_toList]
  have hb1:es.size + 1 < scanBound:=by omega
  have hkey:(strKind prog w).is k (.str k tk) = true:=strKind_is prog w k tk
  have hsc:(Value.str k tk).scannable = true:=rfl
  unfold setAddHashed setAddHashedIn
  refine wpAny_holding (wpAny_bind (wpAny_setState_of ho hd hf ?_))
  dsimp only
  rw [byScan_of hsc hb hel]
  simp only [↓reduceIte]
  unfold setAddByScan
  refine wpAny_bind ?_
  refine wpAny_bind (wpAny_rule ?_)
  refine wpAny_bind (wpAny_setScan_of hkey ho hd hf hel ?_)
  cases hr:List.findIdx? (fun e=>(strKind prog w).is k e.2) es.toList with
  | some j =>
    dsimp only
    obtain ⟨hj,hpj,_⟩:=List.findIdx?_eq_some_iff_getElem.mp hr
    have hin:k ∈ ks:=by
      rw [← hks]
      exact List.mem_map.mpr ⟨es.toList[j],List.getElem_mem hj,(is_iff hel (List.getElem_mem hj) k).mp hpj⟩
    refine wpAny_pure (wpAny_pure ?_)
    have e:s = { s with heap:=s.heap }:=by cases s; rfl
    rw [e]
    exact h s.heap ks false (Heap.SameBut.refl a s.heap) ⟨o,es,ep,t,ho,hex,hd,hel,hks,hnd,hb,hf,hled,hpl⟩ (fun _=>rfl) (fun z=>absurd hin z)
  | none =>
    dsimp only
    have hnin:k ∉ ks:=by
      intro z
      rw [← hks] at z
      obtain ⟨e,he,e1⟩:=List.mem_map.mp z
      have:=List.findIdx?_eq_none_iff.mp hr e he
      rw [(is_iff hel he k).mpr e1] at this
      exact Bool.noConfusion this
    have hgw:∀ (b:Bool) {s₁:Shared} {Q':Unit → Shared → Prop},Q' () s₁ → wpAny (model prog w) A (match b with | true=>rule "set.scan.the-table-gave-way" | false=>pure ()) Q' E s₁ :=
      fun b s₁ Q' hq=>by cases b <;> first | exact wpAny_pure hq | exact wpAny_rule hq
    have hperm:=layNew_perm t es ((strKind prog w).hash k) (.str k tk)
    have hfits:=layNew_fits t es ((strKind prog w).hash k) (.str k tk)
    have hled1:=layNew_led t es ((strKind prog w).hash k) (.str k tk)
    have hoff1:=layNew_off t es ((strKind prog w).hash k) (.str k tk)
    generalize hL:layNew t es ((strKind prog w).hash k) (.str k tk) = L at hperm hfits hled1 hoff1 ⊢
    obtain ⟨es1,t1,wasDummy,gave⟩:=L
    dsimp only at hperm hfits hled1 hoff1 ⊢
    rw [Array.toList_push] at hperm
    have hel1:ElemsOf (strKind prog w) es1.toList:=(hel.push hkey hsc).perm hperm
    have hks1:(es1.toList.map fun e=>strOf e.2).Perm (ks ++ [k]):=by
      have:=hperm.map fun e:Int × Value=>strOf e.2
      rw [List.map_append,hks] at this
      exact this
    have hnd1:(es1.toList.map fun e=>strOf e.2).Nodup:=hks1.nodup_iff.mpr (by
      rw [List.nodup_append]
      exact ⟨hnd,by simp,fun x hx y hy e=>hnin (by rw [List.mem_singleton] at hy; rw [← hy,← e]; exact hx)⟩)
    have hb1':es1.size < scanBound:=by rw [← Array.length_toList,hperm.length_eq,List.length_append,Array.length_toList]; simpa using hb1
    refine wpAny_bind (hgw _ ?_)
    have tail:∀ t2:SetTable,t2.fits es1.size = true → t2.led = led → t2.plain = false → wpAny (model prog w) A (do
        storeSet a es1 t2
        if (!wasDummy && t2.tooFull) = true then do
            (match (relayAll t2 es1 (SetTable.grown es1.size)).2.2 with | true=>rule "set.scan.the-table-gave-way" | false=>pure ())
            storeSet a (relayAll t2 es1 (SetTable.grown es1.size)).1 (relayAll t2 es1 (SetTable.grown es1.size)).2.1
            pure (some true)
          else pure (some true)) (fun r s'=>wpAny (model prog w) A (match r with | some added=>pure added | none=>setAddHashedIn a (.str k tk) ((strKind prog w).hash k) 99999) Q E s') E s:=by
      intro t2 f2 l2 p2
      refine wpAny_bind (wpAny_storeSet_of ho hd ?_ (fits_of_scanBound hb1'))
      have hg:(s.heap.update a (Obj.putSet es1 t2)).get? a = some { o with data:=.set es1 (ep + 1) t2 }:=by
        have:=Heap.get?_update_self (Obj.putSet es1 t2) ho (by rw [putSet_of es1 t2 hd]; rfl)
        rw [putSet_of es1 t2 hd] at this
        exact this
      have hsb1:=Heap.SameBut.update s.heap a (Obj.putSet es1 t2)
      split
      · have hp:=relayAll_perm t2 es1 (SetTable.grown es1.size)
        have hfr:=relayAll_fits t2 es1 (SetTable.grown es1.size)
        have hkp:=relayAll_keeps t2 es1 (SetTable.grown es1.size)
        generalize hRl:relayAll t2 es1 (SetTable.grown es1.size) = Rl at hp hfr hkp ⊢
        obtain ⟨es2,t3,gave2⟩:=Rl
        dsimp only at hp hfr hkp ⊢
        have hsz:es2.size = es1.size:=by rw [← Array.length_toList,hp.length_eq,Array.length_toList]
        refine wpAny_bind (hgw _ ?_)
        refine wpAny_bind (wpAny_storeSet_of hg rfl ?_ (fits_of_scanBound (by rw [hsz]; exact hb1')))
        have hg2:=Heap.get?_update_self (Obj.putSet es2 t3) hg (by rw [putSet_of (o:={ o with data:=.set es1 (ep + 1) t2 }) es2 t3 rfl]; rfl)
        rw [putSet_of (o:={ o with data:=.set es1 (ep + 1) t2 }) es2 t3 rfl] at hg2
        have hks2:=hp.map fun e:Int × Value=>strOf e.2
        refine wpAny_pure (wpAny_pure (h _ (es2.toList.map fun e=>strOf e.2) _ (hsb1.trans (Heap.SameBut.update _ a _)) ⟨_,es2,ep + 2,t3,hg2,hex,rfl,hel1.perm hp,rfl,hks2.nodup_iff.mpr hnd1,by rw [hsz]; exact hb1',hfr,hkp.1.trans l2,fun _=>hkp.2 p2⟩ (fun z=>absurd z hnin) fun _=>hks2.trans hks1))
      · exact wpAny_pure (wpAny_pure (h _ (es1.toList.map fun e=>strOf e.2) _ hsb1 ⟨_,es1,ep + 1,t2,hg,hex,rfl,hel1,rfl,hnd1,hb1',f2,l2,fun _=>p2⟩ (fun z=>absurd z hnin) fun _=>hks1))
    split
    · refine wpAny_bind ?_
      rw [hashByValue_scannable 8 hsc]
      refine wpAny_pure ?_
      exact tail { t1 with plain:=false } (SetTable.fits_plain_off hfits) (hled1.trans hled) rfl
    · rename_i hp1
      refine wpAny_bind (wpAny_pure ?_)
      simp only [↓reduceIte]
      exact tail t1 hfits (hled1.trans hled) (by simpa using hp1)
end
end L2

namespace L2
open PySem PySem.Spec PyProof.Rows
section
variable {prog:Program} {w:World} {A:Around} {R:Result → Shared → Prop} {I:Addr} {fp wr:List Addr} {G:Array GenState → Array GenState → Prop} {n:Nat} {St:Nat → Shared → Prop} {led:Bool} {z:Str}
theorem loopZ (W:WalksS prog w A.in1 I fp wr G z.cps.size (SignAt z) St) (S:Addr) (hSf:S ∉ fp) (hb:z.cps.size + 1 < scanBound) :
    ∀ (k i:Nat) (s:Shared) (ks:List Str),z.cps.size - i = k → i ≤ z.cps.size → St i s → SetZ prog w s.heap S led ks → ks.length ≤ i → (∀ c,c ∈ ks ↔ ∃ j d,j < i ∧ z.cps[j]? = some d ∧ c = ⟨#[d]⟩) →
      (∀ s' ks',Moved (S :: wr) G s s' → SetZ prog w s'.heap S led ks' → (∀ c,c ∈ ks' ↔ ∃ j d,j < z.cps.size ∧ z.cps[j]? = some d ∧ c = ⟨#[d]⟩) → R (.ok (.ret .none)) s') →
      codeAny (model prog w) A (.builtin "set.update.loop" ⟨[.ref S,.ref I],[]⟩) R s:=by
  have hSw:S ∉ wr:=fun h=>hSf (W.sub _ h)
  have hsub:∀ b ∈ wr,b ∈ S :: wr:=fun b hb=>List.mem_cons_of_mem _ hb
  intro k
  induction k with
  | zero =>
    intro i s ks hk hi hst hS hkl hks hR
    have hin:i = z.cps.size:=by omega
    subst hin
    refine codeAny_builtin PyProof.Rows.F.entry_set_update_loop ?_
    rw [Around.under_plainId PyProof.Rows.F.plain_set_update_loop _]
    show wpAny _ A.in1 (pyNext (.ref I) >>= _) _ _ s
    refine wpAny_bind (W.done s _ _ hst fun s' hm=>?_)
    show wpAny _ A.in1 (ret Value.none) _ _ s'
    exact wpAny_pure (hR s' ks (hm.mono hsub) (hS.at fun o ho=>hm.heap S o hSw ho) hks)
  | succ k ih =>
    intro i s ks hk hi hst hS hkl hks hR
    have hlt:i < z.cps.size:=by omega
    refine codeAny_builtin PyProof.Rows.F.entry_set_update_loop ?_
    rw [Around.under_plainId PyProof.Rows.F.plain_set_update_loop _]
    show wpAny _ A.in1 (pyNext (.ref I) >>= _) _ _ s
    refine wpAny_bind (W.item i s _ _ hlt hst fun v s' hP hst' hm=>?_)
    obtain ⟨c,u,hc,rfl⟩:=hP
    have hS':SetZ prog w s'.heap S led ks:=hS.at fun o ho=>hm.heap S o hSw ho
    show wpAny _ A.in1 (holding [Value.str ⟨#[c]⟩ u] (setAdd S (.str ⟨#[c]⟩ u)) >>= _) _ _ s'
    refine wpAny_bind (wpAny_holding ?_)
    unfold setAdd
    refine wpAny_holding ?_
    refine wpAny_bind ((strKind prog w).pyHash (k:=⟨#[c]⟩) (strKind_is prog w _ _) ?_)
    refine setAdd_Z (s:={ s' with toks:=s'.toks + 1 }) hS' (by omega) fun h' ks' b hsb hS2 hin hout=>?_
    have hmem:∀ x,x ∈ ks' ↔ ∃ j d,j < i + 1 ∧ z.cps[j]? = some d ∧ x = ⟨#[d]⟩:=by
      intro x
      have step:x ∈ ks' ↔ x ∈ ks ∨ x = ⟨#[c]⟩:=by
        by_cases h:(⟨#[c]⟩:Str) ∈ ks
        · rw [hin h]
          exact ⟨.inl,fun z=>z.elim id fun e=>e ▸ h⟩
        · rw [(hout h).mem_iff,List.mem_append,List.mem_singleton]
      rw [step,hks]
      constructor
      · rintro (⟨j,d,hj,e1,e2⟩ | rfl)
        · exact ⟨j,d,by omega,e1,e2⟩
        · exact ⟨i,c,by omega,hc,rfl⟩
      · rintro ⟨j,d,hj,e1,e2⟩
        by_cases hji:j = i
        · subst hji
          rw [hc] at e1
          cases e1
          exact .inr e2
        · exact .inl ⟨j,d,by omega,e1,e2⟩
    have hlen:ks'.length ≤ i + 1:=by
      by_cases h:(⟨#[c]⟩:Str) ∈ ks
      · rw [hin h]; omega
      · rw [(hout h).length_eq,List.length_append]; simp; omega
    refine wpAny_pure ⟨plainId_quiet PyProof.Rows.F.plain_set_update_loop _,ih (i + 1) _ ks' (by omega) hlt (W.frame _ s' _ _ hst' (Nat.le_succ _) fun b hb o e=>?_) hS2 hlen hmem fun s'' ks'' hm'' hS'' hk''=>?_⟩
    · rw [hsb.2 b (fun h:b = S=>hSf (by rw [← h]; exact hb))]; exact e
    · refine hR s'' ks'' (Moved.trans W.gtrans ((hm.mono hsub).then_heap (Nat.le_succ _) fun b o hb e=>?_) hm'') hS'' hk''
      rw [hsb.2 b (fun h:b = S=>hb (by rw [h]; exact List.mem_cons_self))]; exact e
end
end L2
namespace PySem
open PyProof.Rows
theorem setZ_code_new {prog:Program} {w:World} {A:Around} {E:Value → Shared → Prop} {s:Shared} (a:Value) {Q₁:Value → Shared → Prop}
    (h:Q₁ (.ref s.heap.objs.size) { s with heap:=s.heap.push { cls:=.type "set",dict:=none,data:=.set #[] 0 (.fresh 0 0 (!w.params.followText "set-order")) } }) :
    codeAny (model prog w) A (.call (.builtin "set.__new__") ⟨[.type "set",a],[]⟩) (wants Q₁ E) s:=by
  refine codeAny_of_tree ?_
  show wpAny _ A.in1 (do checkBuiltinCall "set.__new__" ⟨[.type "set",a],[]⟩; again (.builtin "set.__new__" ⟨[.type "set",a],[]⟩)) _ _ s
  refine wpAny_bind (wpAny_of_eq (F.newCall_set_1 a) (wpAny_pure ⟨plainId_quiet F.plain_set_new _,codeAny_builtin F.entry_set_new ?_⟩))
  rw [Around.under_plainId F.plain_set_new _]
  unfold Builtin.«set.__new__» Builtin.Frozenset.newClass
  have hsub:=sub_set_self
  obtain ⟨hp,g,d,tk,os⟩:=s
  dsimp only
  wp_walk
  refine wpAny_askSetting (wpAny_pure ?_)
  dsimp only
  simp only [newObj]
  refine wpAny_bind (wpAny_alloc (wpAny_pure ?_))
  exact wpAny_pure h
theorem setZ_sub_str:isSubtype (.type "str") (.type "set") = pure false:=by rw [isSubtype_type]; kernel_rfl
theorem setZ_sub_strf:isSubtype (.type "str") (.type "frozenset") = pure false:=by rw [isSubtype_type]; kernel_rfl
set_option maxHeartbeats 3200000 in
theorem setZ_call_str {prog:Program} {w:World} {A:Around} {E:Value → Shared → Prop} {s:Shared} {z:Str} {t:Tok} {Q:Value → Shared → Prop}
    (hh:A.handled = none) (hb:z.cps.size + 1 < scanBound)
    (h:∀ (h':Heap) (tk:Nat) (ks:List Str),L2.SetZ prog w h' s.heap.objs.size (!w.params.followText "set-order") ks → (∀ c,c ∈ ks ↔ ∃ j d,j < z.cps.size ∧ z.cps[j]? = some d ∧ c = ⟨#[d]⟩) →
      (∀ b o,b < s.heap.objs.size → s.heap.get? b = some o → h'.get? b = some o) → s.heap.objs.size < h'.objs.size → Q (.ref s.heap.objs.size) { s with heap:=h',toks:=tk }) :
    wpAny (model prog w) A (call (.type "set") [.str z t]) Q E s:=by
  obtain ⟨c,tl,hmro⟩:=F.called_set.mro
  have hmade:=F.called_set.made
  have hsub:=F.called_set.sub
  refine wpAny_call (codeAny_of_tree ?_)
  show wpAny _ _ (callAny (.type "set") _) _ _ _
  refine wpAny_pure ⟨Code.quiet_builtin _ (by decide +kernel),codeAny_builtin F.entry_type_call ?_⟩
  rw [Around.under_plain (weight_type_call_type "set" [.str z t] []) rfl]
  have h1:=F.called_set.notType
  have h2:=F.called_set.canCreate
  have hct:=F.typeCall_set_1 (.str z t)
  repeat (any_goals (first | assumption | wp_step))
  refine codeAny_mono (setZ_code_new (.str z t) (E:=E) (Q₁:=fun obj s₁=>obj = .ref s.heap.objs.size ∧ s₁ = { s with heap:=s.heap.push { cls:=.type "set",dict:=none,data:=.set #[] 0 (.fresh 0 0 (!w.params.followText "set-order")) } }) ⟨rfl,rfl⟩) fun r s₁ hr=>?_
  generalize (!w.params.followText "set-order") = led at hr h
  cases r with
  | error e=>exact hr
  | ok fl =>
    cases fl with
    | ret obj =>
      obtain ⟨rfl,rfl⟩:=hr
      have hS:(s.heap.push { cls:=.type "set",dict:=none,data:=.set #[] 0 (.fresh 0 0 led) }).get? s.heap.objs.size = some { cls:=.type "set",dict:=none,data:=.set #[] 0 (.fresh 0 0 led) }:=Heap.get?_push_size _ rfl
      have hT:Shared.TypeIs { s with heap:=s.heap.push { cls:=.type "set",dict:=none,data:=.set #[] 0 (.fresh 0 0 led) } } (.ref s.heap.objs.size) "set":=⟨_,hS,rfl⟩
      have hli:=F.called_set.init.lookup
      have hbi:=F.called_set.init.bind (.ref s.heap.objs.size)
      repeat (any_goals (first | assumption | wp_step))
      refine codeAny_mono (codeAny_call_builtin (R:=wants (fun r s₂=>r = .none ∧ ∃ h' tk ks,s₂ = { s with heap:=h',toks:=tk } ∧ L2.SetZ prog w h' s.heap.objs.size led ks ∧ (∀ c,c ∈ ks ↔ ∃ j d,j < z.cps.size ∧ z.cps[j]? = some d ∧ c = ⟨#[d]⟩) ∧
          (∀ b o,b < s.heap.objs.size → s.heap.get? b = some o → h'.get? b = some o)) E) F.called_set.init.plain F.entry_set_init (check_set_init_1 hT ?_)) fun r₂ s₂ hr₂=>?_
      · have hsls:=setZ_sub_str
        have hslf:=setZ_sub_strf
        have hne:(Value.type "str" == Value.type "dict") = false:=by decide
        unfold Builtin.«set.__init__» noKeywords Builtin.Frozenset.updateFrom
        generalize hPI:pyIter = PI
        wp_walk
        subst hPI
        refine wpAny_pyIter_str fun o St W hst=>?_
        refine wpAny_bind (wpAny_runValue ?_)
        have hh3:A.in1.in1.in1.handled = none:=by simp [hh]
        have hSf:s.heap.objs.size ∉ [(s.heap.push { cls:=.type "set",dict:=none,data:=.set #[] 0 (.fresh 0 0 led) }).objs.size]:=by
          rw [Heap.size_push]; simp only [List.mem_cons,List.not_mem_nil,or_false]
          exact Nat.ne_of_lt (Nat.lt_succ_self _)
        refine L2.loopZ (led:=led) (W _ hh3).toS s.heap.objs.size hSf hb (z.cps.size - 0) 0 _ [] (by omega) (Nat.zero_le _) hst ?hS0 (Nat.le_refl _) (fun c=>⟨fun z=>by simp at z,fun ⟨j,d,hj,_⟩=>by omega⟩) ?hR
        case hS0 =>
          exact ⟨_,#[],0,_,Heap.get?_push_of_some _ hS,⟨rfl,rfl,rfl⟩,rfl,fun e he=>by simp at he,rfl,.nil,by decide,rfl,rfl,fun z=>by simp at z⟩
        case hR =>
          intro s' ks hm hS' hk
          obtain ⟨h',g',d',tk',os'⟩:=s'
          have eg:g' = s.gens:=hm.gens
          have ed:d' = s.drawn:=hm.drawn
          have eo:os' = s.os:=hm.os
          subst eg; subst ed; subst eo
          show wpAny _ _ _ _ _ _
          refine wpAny_pure ?_
          show wpAny _ _ (ret Value.none) _ _ _
          refine wpAny_pure ⟨rfl,h',tk',ks,rfl,hS',hk,fun b o hb e=>?_⟩
          have hb1:b ≠ s.heap.objs.size:=Nat.ne_of_lt hb
          have hb2:b ≠ (s.heap.push { cls:=.type "set",dict:=none,data:=.set #[] 0 (.fresh 0 0 led) }).objs.size:=by
            rw [Heap.size_push]; exact Nat.ne_of_lt (Nat.lt_succ_of_lt hb)
          exact hm.heap b o (by simp only [List.mem_cons,List.not_mem_nil,or_false,not_or]; exact ⟨hb1,hb2⟩) (Heap.get?_push_of_some _ (Heap.get?_push_of_some _ e))
      · cases r₂ with
        | error e=>exact hr₂
        | ok fl₂ =>
          cases fl₂ with
          | ret r =>
            obtain ⟨rfl,h',tk,ks,rfl,hS',hk,hk'⟩:=hr₂
            repeat (any_goals (first | assumption | wp_step))
            exact h _ _ ks hS' hk hk' (by obtain ⟨o,_,_,_,ho,_⟩:=hS'; exact Heap.lt_size ho)
          | _=>exact hr₂.elim
    | _=>exact hr.elim
end PySem

namespace L2
open PySem PySem.Spec PyProof.Rows
theorem slot_si_next:Slot "set_iterator" "__next__" "set_iterator.__next__" :=
  .of (owner:="set_iterator") (n:="__next__") (by rw [typeLookup_type,builtinLookup_eq_fast]; kernel_rfl) (by decide +kernel) (by decide +kernel) (by decide +kernel)
    (by first | exact .inl (by decide +kernel) | exact .inr (by decide +kernel)) (by rw [isSubtype_type]; kernel_rfl)
theorem slot_si_iter:Slot "set_iterator" "__iter__" "set_iterator.__iter__" :=
  .of (owner:="set_iterator") (n:="__iter__") (by rw [typeLookup_type,builtinLookup_eq_fast]; kernel_rfl) (by decide +kernel) (by decide +kernel) (by decide +kernel)
    (by first | exact .inl (by decide +kernel) | exact .inr (by decide +kernel)) (by rw [isSubtype_type]; kernel_rfl)
theorem entry_si_next:entryFor table "set_iterator.__next__" = some Builtin.«set_iterator.__next__»:=entryFor_of_fast (by kernel_rfl)
theorem entry_si_iter:entryFor table "set_iterator.__iter__" = some Builtin.«dict_keyiterator.__iter__»:=entryFor_alias (id':="dict_keyiterator.__iter__") (by kernel_rfl) rfl (by decide +kernel) (by kernel_rfl)
theorem entry_set_iterZ:entryFor table "set.__iter__" = some Builtin.«frozenset.__iter__»:=entryFor_alias (id':="frozenset.__iter__") (by kernel_rfl) rfl (by decide +kernel) (by kernel_rfl)
theorem args_si_next (a:Value):argsOk "set_iterator.__next__" ⟨[a],[]⟩:=by unfold argsOk; kernel_rfl
theorem args_si_iter (a:Value):argsOk "set_iterator.__iter__" ⟨[a],[]⟩:=by unfold argsOk; kernel_rfl
def IsSI (h:Heap) (it:Addr) (vs:Array Value):Prop:=∃ o,h.get? it = some o ∧ o.cls = .type "set_iterator" ∧ o.data = .fields vs
section
variable {prog:Program} {w:World} {A:Around} {E:Value → Shared → Prop} {s:Shared}
theorem si_self {it:Addr} {vs:Array Value} {Q:Value → Shared → Prop} (hit:IsSI s.heap it vs) (h:Q (.ref it) s):wpAny (model prog w) A (pyIter (.ref it)) Q E s:=by
  obtain ⟨o,ho,hc,hd⟩:=hit
  have hT:s.TypeIs (.ref it) "set_iterator":=⟨o,ho,hc⟩
  refine wpAny_pyIter_slot hT slot_si_iter (wpAny_call_entry slot_si_iter hT entry_si_iter ?_ (args_si_iter _))
  show wpAny _ _ (ret (.ref it)) _ _ s
  exact wpAny_pure ⟨_,rfl,"set_iterator",_,hT,slot_si_next.lookup,h⟩
theorem si_stop {P:Fin → Shared → Prop} {E':Value → Shared → Prop} (hh:A.handled = none) (h:∀ x h',Heap.ExtBut s.heap.objs.size s.heap h' → (∀ b o,s.heap.get? b = some o → h'.get? b = some o) → (∃ ox,h'.get? x = some ox ∧ ox.cls = .type "StopIteration") → E' (.ref x) { s with heap:=h' }) :
    wpAny (model prog w) A (newExc (.type "StopIteration") [] >>= fun x=>(raiseNew x:Sem Fin)) P E' s:=by
  refine wpAny_bind ?_
  simp only [newExc,newTuple]
  refine wpAny_bind (wpAny_newObj_type ?_ (by size_fits))
  refine wpAny_bind (m:=firstArgMember _ _) (wpAny_of_eq (a:=Value.none) (by first | rfl | (simp only [firstArgMember]; rfl)) ?_)
  refine wpAny_newObj_type ?_ (by size_fits)
  simp only [raiseNew]
  refine wpAny_bind (wpAny_handled ?_)
  rw [hh]
  refine wpAny_bind (wpAny_pure (wpAny_throw ?_))
  exact h _ _ (fun b o hb e=>Heap.get?_push_of_some _ (Heap.get?_push_of_some _ e)) (fun b o e=>Heap.get?_push_of_some _ (Heap.get?_push_of_some _ e)) ⟨_,Heap.get?_push_size _ rfl,rfl⟩
theorem si_next_slot {it a:Addr} {es:Array (Int × Value)} {ep:Nat} {tb:SetTable} {os:Obj} {sl i nx:Nat} {x:Value} {Q:Option Value → Shared → Prop} (hne:a ≠ it)
    (hit:IsSI s.heap it #[.int sl 0,.int i 0,.ref a,.int es.size 0,.int ep 0]) (ho:s.heap.get? a = some os) (hd:os.data = .set es ep tb) (hf:tb.fits es.size = true)
    (hN:∀ (s:Shared) (Q:Option (Value × Nat) → Shared → Prop) (A:Around) (E:Value → Shared → Prop),s.heap.get? a = some os → Q (some (x,nx)) s → wpAny (model prog w) A (setNext a sl i ep) Q E s)
    (hQ:∀ h',IsSI h' it #[.int nx 0,.int (i + 1:Nat) 0,.ref a,.int es.size 0,.int ep 0] → Heap.SameBut it s.heap h' → Q (some x) { s with heap:=h' }) :
    wpAny (model prog w) A (pyNext (.ref it)) Q E s:=by
  obtain ⟨o,hoi,hc,hdi⟩:=hit
  have hT:s.TypeIs (.ref it) "set_iterator":=⟨o,hoi,hc⟩
  unfold pyNext
  refine wpAny_bind (wpAny_attempt (wpAny_callSpecial?_slot (name:=Str.ofString "__next__") hT slot_si_next (wpAny_call_entry slot_si_next hT entry_si_next ?_ (args_si_next _))))
  unfold Builtin.«set_iterator.__next__»
  refine wpAny_bind (m:=slotArgs "__next__" 0 _) (wpAny_pure ?_)
  refine wpAny_bind (wpAny_fieldsOf hoi hdi ?_)
  dsimp only
  refine wpAny_bind (wpAny_setEntries_of ho hd hf ?_)
  rw [if_neg (by simp)]
  refine wpAny_bind (hN _ _ _ _ ho ?_)
  dsimp only
  refine wpAny_bind (wpAny_setField hoi hdi (by simp) ?_)
  have e1:=Heap.get?_update_self (Obj.mapFields (·.setIfInBounds 0 (rawInt (nx:Nat)))) hoi (Obj.isFreed_of_fields (Obj.data_mapFields hdi _))
  refine wpAny_bind (wpAny_setField e1 (Obj.data_mapFields hdi _) (by simp) ?_)
  have e2:=Heap.get?_update_self (Obj.mapFields (·.setIfInBounds 1 (rawInt ((i:Int) + 1)))) e1 (Obj.isFreed_of_fields (Obj.data_mapFields (Obj.data_mapFields hdi _) _))
  refine wpAny_pure ⟨x,rfl,wpAny_pure (hQ _ ⟨_,e2,?_,?_⟩ ((Heap.SameBut.update ..).trans (Heap.SameBut.update ..)))⟩
  · rw [Obj.cls_mapFields,Obj.cls_mapFields,hc]
  · rw [Obj.data_mapFields (Obj.data_mapFields hdi _)]
    simp [rawInt]
theorem si_end_slot {it a:Addr} {es:Array (Int × Value)} {ep:Nat} {tb:SetTable} {os:Obj} {sl i:Nat} {Q:Option Value → Shared → Prop} (hh:A.handled = none) (hne:a ≠ it)
    (hit:IsSI s.heap it #[.int sl 0,.int i 0,.ref a,.int es.size 0,.int ep 0]) (ho:s.heap.get? a = some os) (hd:os.data = .set es ep tb) (hf:tb.fits es.size = true)
    (hN:∀ (s:Shared) (Q:Option (Value × Nat) → Shared → Prop) (A:Around) (E:Value → Shared → Prop),s.heap.get? a = some os → Q none s → wpAny (model prog w) A (setNext a sl i ep) Q E s)
    (hQ:∀ h',Heap.ExtBut it s.heap h' → Q none { s with heap:=h' }) :
    wpAny (model prog w) A (pyNext (.ref it)) Q E s:=by
  obtain ⟨o,hoi,hc,hdi⟩:=hit
  have hT:s.TypeIs (.ref it) "set_iterator":=⟨o,hoi,hc⟩
  unfold pyNext
  refine wpAny_bind (wpAny_attempt (wpAny_callSpecial?_slot (name:=Str.ofString "__next__") hT slot_si_next (wpAny_call_entry slot_si_next hT entry_si_next ?_ (args_si_next _))))
  unfold Builtin.«set_iterator.__next__»
  refine wpAny_bind (m:=slotArgs "__next__" 0 _) (wpAny_pure ?_)
  refine wpAny_bind (wpAny_fieldsOf hoi hdi ?_)
  dsimp only
  refine wpAny_bind (wpAny_setEntries_of ho hd hf ?_)
  rw [if_neg (by simp)]
  refine wpAny_bind (hN _ _ _ _ ho ?_)
  dsimp only
  refine wpAny_bind (wpAny_setField hoi hdi (by simp) ?_)
  refine si_stop hh fun x h' _ hk hx=>?_
  obtain ⟨ox,hox,hcx⟩:=hx
  refine wpAny_bind (wpAny_isInstance (T:="StopIteration") (b:=true) ⟨ox,hox,hcx⟩ isSubtype_stop ?_)
  exact wpAny_pure (hQ _ fun b o' hb e=>hk b o' ((Heap.get?_update_other _ _ (Ne.symm hb)).trans e))
theorem si_next_draw {it a T:Addr} {es:Array (Int × Value)} {ep:Nat} {tb:SetTable} {os:Obj} {i p:Nat} {t0:Tok} {h0:Int} {x:Value} {ps:Array Value} {Q:Option Value → Shared → Prop} (hne:a ≠ it)
    (hit:IsSI s.heap it #[.ref T,.int i 0,.ref a,.int es.size 0,.int ep 0]) (ho:s.heap.get? a = some os) (hd:os.data = .set es ep tb) (hf:tb.fits es.size = true)
    (hT0:∃ oT n,s.heap.get? T = some oT ∧ oT.data = .seq ps n) (hp:ps[i]? = some (.int p t0)) (hx:es[p]? = some (h0,x))
    (hQ:∀ h',IsSI h' it #[.ref T,.int (i + 1:Nat) 0,.ref a,.int es.size 0,.int ep 0] → Heap.SameBut it s.heap h' → Q (some x) { s with heap:=h' }) :
    wpAny (model prog w) A (pyNext (.ref it)) Q E s:=by
  obtain ⟨o,hoi,hc,hdi⟩:=hit
  obtain ⟨oT,nT,hoT,hdT⟩:=hT0
  have hT:s.TypeIs (.ref it) "set_iterator":=⟨o,hoi,hc⟩
  unfold pyNext
  refine wpAny_bind (wpAny_attempt (wpAny_callSpecial?_slot (name:=Str.ofString "__next__") hT slot_si_next (wpAny_call_entry slot_si_next hT entry_si_next ?_ (args_si_next _))))
  unfold Builtin.«set_iterator.__next__»
  refine wpAny_bind (m:=slotArgs "__next__" 0 _) (wpAny_pure ?_)
  refine wpAny_bind (wpAny_fieldsOf hoi hdi ?_)
  dsimp only
  refine wpAny_bind (wpAny_setEntries_of ho hd hf ?_)
  rw [if_neg (by simp)]
  refine wpAny_bind (wpAny_seqItems hoT hdT ?_)
  dsimp only
  simp only [Int.toNat_natCast,hp]
  refine wpAny_bind ?_
  unfold setNextDrawn
  refine wpAny_bind (wpAny_setState_of ho hd hf ?_)
  dsimp only
  rw [if_neg (by simp)]
  simp only [Int.toNat_natCast,hx]
  refine wpAny_pure ?_
  refine wpAny_bind (wpAny_setField hoi hdi (by simp) ?_)
  have e1:=Heap.get?_update_self (Obj.mapFields (·.setIfInBounds 1 (rawInt ((i:Int) + 1)))) hoi (Obj.isFreed_of_fields (Obj.data_mapFields hdi _))
  refine wpAny_pure ⟨x,rfl,wpAny_pure (hQ _ ⟨_,e1,?_,?_⟩ (Heap.SameBut.update ..))⟩
  · rw [Obj.cls_mapFields,hc]
  · rw [Obj.data_mapFields hdi]
    simp [rawInt]
theorem si_end_draw {it a T:Addr} {es:Array (Int × Value)} {ep:Nat} {tb:SetTable} {os:Obj} {i:Nat} {ps:Array Value} {Q:Option Value → Shared → Prop} (hh:A.handled = none) (hne:a ≠ it)
    (hit:IsSI s.heap it #[.ref T,.int i 0,.ref a,.int es.size 0,.int ep 0]) (ho:s.heap.get? a = some os) (hd:os.data = .set es ep tb) (hf:tb.fits es.size = true)
    (hT0:∃ oT n,s.heap.get? T = some oT ∧ oT.data = .seq ps n) (hp:ps[i]? = none)
    (hQ:∀ h',Heap.ExtBut it s.heap h' → Q none { s with heap:=h' }) :
    wpAny (model prog w) A (pyNext (.ref it)) Q E s:=by
  obtain ⟨o,hoi,hc,hdi⟩:=hit
  obtain ⟨oT,nT,hoT,hdT⟩:=hT0
  have hT:s.TypeIs (.ref it) "set_iterator":=⟨o,hoi,hc⟩
  unfold pyNext
  refine wpAny_bind (wpAny_attempt (wpAny_callSpecial?_slot (name:=Str.ofString "__next__") hT slot_si_next (wpAny_call_entry slot_si_next hT entry_si_next ?_ (args_si_next _))))
  unfold Builtin.«set_iterator.__next__»
  refine wpAny_bind (m:=slotArgs "__next__" 0 _) (wpAny_pure ?_)
  refine wpAny_bind (wpAny_fieldsOf hoi hdi ?_)
  dsimp only
  refine wpAny_bind (wpAny_setEntries_of ho hd hf ?_)
  rw [if_neg (by simp)]
  refine wpAny_bind (wpAny_seqItems hoT hdT ?_)
  dsimp only
  simp only [Int.toNat_natCast,hp]
  refine wpAny_bind (wpAny_setField hoi hdi (by simp) ?_)
  have e1:=Heap.get?_update_self (Obj.mapFields (·.setIfInBounds 0 (rawInt 0))) hoi (Obj.isFreed_of_fields (Obj.data_mapFields hdi _))
  refine wpAny_bind (wpAny_setField e1 (Obj.data_mapFields hdi _) (by simp) ?_)
  refine si_stop hh fun x h' _ hk hx=>?_
  obtain ⟨ox,hox,hcx⟩:=hx
  refine wpAny_bind (wpAny_isInstance (T:="StopIteration") (b:=true) ⟨ox,hox,hcx⟩ isSubtype_stop ?_)
  exact wpAny_pure (hQ _ fun b o' hb e=>hk b o' ((Heap.get?_update_other _ _ (Ne.symm hb)).trans ((Heap.get?_update_other _ _ (Ne.symm hb)).trans e)))
end
end L2

namespace L2
open PySem PySem.Spec PyProof.Rows
section
variable {prog:Program} {w:World} {A:Around} {E:Value → Shared → Prop} {s:Shared}
theorem walk_slot (hh:A.handled = none) {it a:Addr} (hne:a ≠ it) {es:Array (Int × Value)} {ep:Nat} {tb:SetTable} {os:Obj} (hd:os.data = .set es ep tb) (hf:tb.fits es.size = true) (vs:Nat → Value) (sl:Nat → Nat)
    (hN:∀ i,i < es.size → ∀ (s:Shared) (Q:Option (Value × Nat) → Shared → Prop) (A:Around) (E:Value → Shared → Prop),s.heap.get? a = some os → Q (some (vs i,sl (i + 1))) s → wpAny (model prog w) A (setNext a (sl i) i ep) Q E s)
    (hE:∀ (s:Shared) (Q:Option (Value × Nat) → Shared → Prop) (A:Around) (E:Value → Shared → Prop),s.heap.get? a = some os → Q none s → wpAny (model prog w) A (setNext a (sl es.size) es.size ep) Q E s) :
    Walks prog w A it [it,a] [it] es.size (fun i v=>v = vs i) (fun i h=>IsSI h it #[.int (sl i) 0,.int i 0,.ref a,.int es.size 0,.int ep 0] ∧ h.get? a = some os) where
  sub:=fun b hb=>by simp at hb; simp [hb]
  frame:=fun i h h' st hk=>⟨let ⟨o,ho,r⟩:=st.1; ⟨o,hk it (by simp) o ho,r⟩,hk a (by simp) _ st.2⟩
  item:=fun i s Q E hi st hQ=>by
    have hs:s = { s with toks:=s.toks }:=by cases s; rfl
    refine si_next_slot hne st.1 st.2 hd hf (hN i hi) fun h' hit' hs'=>?_
    exact hQ _ h' s.toks rfl ⟨hit',(hs'.2 a hne).trans st.2⟩ fun b o hb e=>(hs'.2 b fun z=>hb (by simp [z])).trans e
  done:=fun s Q E st hQ=>by
    refine si_end_slot hh hne st.1 st.2 hd hf hE fun h' he'=>?_
    exact hQ h' s.toks fun b o hb e=>he' b o (fun z=>hb (by simp [z])) e
  self:=fun i s Q E st hQ=>si_self st.1 hQ
theorem walk_draw (hh:A.handled = none) {it a T:Addr} (hne:a ≠ it) (hTi:T ≠ it) {es:Array (Int × Value)} {ep:Nat} {tb:SetTable} {os oT:Obj} {nT:Nat} (hd:os.data = .set es ep tb) (hf:tb.fits es.size = true) (ps:List Nat) (hps:ps.length = es.size) (hlt:∀ p ∈ ps,p < es.size) (hdT:oT.data = .seq (ps.map fun p:Nat=>rawInt (p:Int)).toArray nT) :
    Walks prog w A it [it,a,T] [it] es.size (fun i v=>∃ p h0,ps[i]? = some p ∧ es[p]? = some (h0,v)) (fun i h=>IsSI h it #[.ref T,.int i 0,.ref a,.int es.size 0,.int ep 0] ∧ h.get? a = some os ∧ h.get? T = some oT) where
  sub:=fun b hb=>by simp at hb; simp [hb]
  frame:=fun i h h' st hk=>⟨let ⟨o,ho,r⟩:=st.1; ⟨o,hk it (by simp) o ho,r⟩,hk a (by simp) _ st.2.1,hk T (by simp) _ st.2.2⟩
  item:=fun i s Q E hi st hQ=>by
    have hpi:ps[i]? = some ps[i]:=List.getElem?_eq_getElem (by omega)
    have hpl:ps[i] < es.size:=hlt _ (List.getElem_mem _)
    have hx:es[ps[i]]? = some (es[ps[i]].1,es[ps[i]].2):=by simp [hpl]
    refine si_next_draw (p:=ps[i]) (t0:=0) hne st.1 st.2.1 hd hf ⟨oT,nT,st.2.2,hdT⟩ (by rw [List.getElem?_toArray,List.getElem?_map,hpi]; rfl) hx fun h' hit' hs'=>?_
    exact hQ _ h' s.toks ⟨_,_,hpi,hx⟩ ⟨hit',(hs'.2 a hne).trans st.2.1,(hs'.2 T hTi).trans st.2.2⟩ fun b o hb e=>(hs'.2 b fun z=>hb (by simp [z])).trans e
  done:=fun s Q E st hQ=>by
    refine si_end_draw hh hne st.1 st.2.1 hd hf ⟨oT,nT,st.2.2,hdT⟩ (by simp [hps]) fun h' he'=>?_
    exact hQ h' s.toks fun b o hb e=>he' b o (fun z=>hb (by simp [z])) e
  self:=fun i s Q E st hQ=>si_self st.1 hQ
theorem erase_perm {α:Type}:∀ (l:List α) {i:Nat} (h:i < l.length),(l[i] :: l.eraseIdx i).Perm l
  | a :: r,0,h=>by simp
  | a :: r,i + 1,h=>by
    have:=erase_perm r (i:=i) (by simpa using h)
    simp only [List.getElem_cons_succ,List.eraseIdx_cons_succ]
    exact (List.Perm.swap _ _ _).trans (this.cons a)
theorem draw_order {α:Type}:∀ (n:Nat) (xs:List α) (s:Shared) (Q:List α → Shared → Prop),xs.length = n → (∀ ys d,ys.Perm xs → Q ys { s with drawn:=d }) → wpAny (model prog w) A (drawOrder n xs) Q E s
  | 0,xs,s,Q,hl,h=>by
    have e:xs = []:=List.length_eq_zero_iff.mp hl
    subst e
    unfold drawOrder
    have:=h [] s.drawn (List.Perm.refl _)
    exact wpAny_pure this
  | n + 1,[],s,Q,hl,h=>by simp at hl
  | n + 1,x :: xs,s,Q,hl,h=>by
    unfold drawOrder
    refine wpAny_bind (wpAny_chooseW (by simp) fun i d hi=>?_)
    have hget:(x :: xs)[i]? = some ((x :: xs)[i]'hi):=List.getElem?_eq_getElem hi
    rw [hget]
    dsimp only
    refine wpAny_bind (draw_order n _ _ _ (by rw [List.length_eraseIdx_of_lt hi]; simp at hl ⊢; omega) fun ys d' hp=>wpAny_pure ?_)
    exact h _ d' ((hp.cons _).trans (erase_perm _ hi))
theorem pick_go {α:Type} (next:Nat → Nat):∀ (fuel k:Nat) (left:List α) (out:Array α),left.length = fuel → (pickOrder.go next fuel k left out).toList.Perm (out.toList ++ left)
  | 0,k,left,out,hl=>by
    have e:left = []:=List.length_eq_zero_iff.mp hl
    subst e
    simp [pickOrder.go]
  | fuel + 1,k,left,out,hl=>by
    unfold pickOrder.go
    have hi:next k % left.length < left.length:=Nat.mod_lt _ (by omega)
    have hget:left[next k % left.length]? = some (left[next k % left.length]'hi):=List.getElem?_eq_getElem hi
    rw [hget]
    dsimp only
    refine (pick_go next fuel (k + 1) _ _ (by rw [List.length_eraseIdx_of_lt hi]; omega)).trans ?_
    rw [Array.toList_push,List.append_assoc]
    exact List.Perm.append_left _ (erase_perm left hi)
theorem pick_perm (next:Nat → Nat) {α:Type} (xs:Array α):(pickOrder next xs).toList.Perm xs.toList:=by
  have:=pick_go next xs.size 0 xs.toList #[] (by simp)
  unfold pickOrder
  simpa using this
end
end L2
namespace L2
open PySem PySem.Spec PyProof.Rows
section
variable {prog:Program} {w:World} {A:Around} {E:Value → Shared → Prop} {s:Shared}
theorem strs_of_elems {es:List (Int × Value)} (h:ElemsOf (strKind prog w) es):StrsAre (es.map (·.2)) (es.map fun e=>strOf e.2):=by
  induction es with
  | nil=>exact .nil
  | cons e r ih =>
    obtain ⟨k,t,e1⟩:=elem_str h (List.mem_cons_self ..)
    have:=ih h.tail
    rw [List.map_cons,List.map_cons,e1]
    exact .cons k t this
theorem strs_items {vs:List Value} {zs:List Str} {acc:Array Value} {n:Nat} {P:Nat → Value → Prop} (hi:ItemsOf P acc n) (hn:vs.length = n) (hP:∀ i v,i < n → P i v → vs[i]? = some v) (hz:StrsAre vs zs):StrsAre acc.toList zs:=by
  have:acc.toList = vs:=by
    refine List.ext_getElem? fun i=>?_
    by_cases h:i < n
    · have hs:i < acc.size:=by rw [hi.1]; exact h
      have h1:acc[i]? = some acc[i]:=by simp [hs]
      rw [Array.getElem?_toList,h1,hP i _ h (hi.2 i _ h1)]
    · rw [List.getElem?_eq_none (by simp [hi.1]; omega),List.getElem?_eq_none (by omega)]
  rw [this]
  exact hz
theorem iter_setZ {a:Addr} {ks:List Str} (hS:SetZ prog w s.heap a (!w.params.followText "set-order") ks) (hk:ks ≠ []) {Q:Value → Shared → Prop}
    (hQ:∀ (it:Addr) (h2:Heap) (d2:Drawn) (fp:List Addr) (St:Nat → Heap → Prop) (P:Nat → Value → Prop) (vs:List Value) (zs:List Str),(∀ A':Around,A'.handled = none → Walks prog w A' it fp [it] ks.length P St) → (∀ i v,i < ks.length → P i v → vs[i]? = some v) → vs.length = ks.length → StrsAre vs zs → zs.Perm ks →
      St 0 h2 → (∀ b ∈ fp,b < h2.objs.size) → (∀ b ∈ fp,b = a ∨ s.heap.objs.size ≤ b) → s.heap.objs.size ≤ it → (∀ b o,s.heap.get? b = some o → h2.get? b = some o) → Q (.ref it) { s with heap:=h2,drawn:=d2 }) :
    wpAny (model prog w) A (pyIter (.ref a)) Q E s:=by
  obtain ⟨o,es,ep,t,ho,hex,hd,hel,hks,hnd,hb,hf,hled,hpl⟩:=hS
  have hn:es.size = ks.length:=by rw [← hks,List.length_map,Array.length_toList]
  have hn1:0 < es.size:=by rw [hn]; exact List.length_pos_iff.mpr hk
  have hpl:=hpl hn1
  have hT:s.TypeIs (.ref a) "set":=⟨o,ho,hex.1⟩
  have hlt:a < s.heap.objs.size:=Heap.lt_size ho
  refine wpAny_pyIter_slot hT PySem.F.slot_set_iter (wpAny_call_entry PySem.F.slot_set_iter hT entry_set_iterZ ?_ (PySem.F.args_set_iter_1 _))
  unfold Builtin.«frozenset.__iter__»
  refine wpAny_bind (m:=Builtin.Frozenset.slot0 "__iter__" _) (wpAny_pure ?_)
  refine wpAny_bind (m:=Builtin.Frozenset.sizeOf a) (wpAny_bind (wpAny_setEntries_of ho hd hf (wpAny_pure ?_)))
  refine wpAny_bind (m:=setDrawn a) ?_
  unfold setDrawn
  refine wpAny_bind (wpAny_setState_of ho hd hf ?_)
  dsimp only
  unfold setsByText
  refine wpAny_bind (wpAny_bind (wpAny_askSetting (wpAny_pure ?_)))
  refine wpAny_pure ?_
  show wpAny _ _ (if (!w.params.followText "set-order" && (!t.plain && decide (es.size > 1))) = true then _ else _) _ _ _
  rw [hpl]
  have ne1:a ≠ s.heap.objs.size:=Nat.ne_of_lt hlt
  rw [← hn] at hQ
  cases hbt:w.params.followText "set-order" with
  | true =>
    rw [if_neg (by simp)]
    refine wpAny_bind (wpAny_pure ?_)
    refine wpAny_bind (wpAny_setEpoch_of ho hd hf ?_)
    refine wpAny_bind (wpAny_newObj_type (wpAny_pure ⟨_,rfl,"set_iterator",_,⟨_,Heap.get?_push_size _ rfl,rfl⟩,slot_si_next.lookup,?_⟩))
    have hpk:=pick_perm (w.params.setOrder a ep) es
    have hpl':(pickOrder (w.params.setOrder a ep) es).size = es.size:=by rw [← Array.length_toList,hpk.length_eq,Array.length_toList]
    generalize hpo:pickOrder (w.params.setOrder a ep) es = pk at hpk hpl'
    have hnext:∀ (i:Nat) (s:Shared) (Q:Option (Value × Nat) → Shared → Prop) (A:Around) (E:Value → Shared → Prop),s.heap.get? a = some o → Q ((pk[i]?).map fun e=>(e.2,0)) s → wpAny (model prog w) A (setNext a 0 i ep) Q E s:=by
      intro i s Q A E ho' hq
      unfold setNext
      refine wpAny_bind (wpAny_setState_of ho' hd hf ?_)
      dsimp only
      unfold setsByText
      refine wpAny_bind (wpAny_bind (wpAny_askSetting (wpAny_pure ?_)))
      show wpAny _ _ (if w.params.followText "set-order" = true then _ else _) _ _ _
      rw [hbt,if_pos rfl]
      rw [if_neg (by simp)]
      refine wpAny_bind ?_
      unfold setWalk
      refine wpAny_bind (wpAny_setState_of ho' hd hf ?_)
      dsimp only
      unfold setsByText
      refine wpAny_bind (wpAny_bind (wpAny_askSetting (wpAny_pure ?_)))
      show wpAny _ _ (if w.params.followText "set-order" = true then _ else _) _ _ _
      rw [hbt,if_pos rfl]
      refine wpAny_bind (wpAny_askSetting ?_)
      refine wpAny_pure ?_
      show wpAny _ _ (pure (((pickOrder (w.params.setOrder a ep) es)[i]?).map fun e=>(e.2,0))) _ _ _
      rw [hpo]
      exact wpAny_pure hq
    refine hQ s.heap.objs.size _ s.drawn [s.heap.objs.size,a] _ _ (pk.toList.map (·.2)) (pk.toList.map fun e=>strOf e.2) (fun A' hA'=>walk_slot hA' ne1 hd hf (fun i=>((pk[i]?).map (·.2)).getD .none) (fun _=>0) (fun i hi s Q A E ho' hq=>hnext i s Q A E ho' ?_) (fun s Q A E ho' hq=>hnext _ s Q A E ho' ?_)) (fun i v hi hv=>?_) (by rw [List.length_map,Array.length_toList,hpl']) (strs_of_elems (hel.perm hpk)) (by rw [← hks]; exact hpk.map _) ⟨⟨_,Heap.get?_push_size _ rfl,rfl,rfl⟩,Heap.get?_push_of_some _ ho⟩ (fun b hb=>?_) (fun b hb=>by simp only [List.mem_cons,List.not_mem_nil,or_false] at hb; rcases hb with rfl | rfl; exact .inr (Nat.le_refl _); exact .inl rfl) (Nat.le_refl _) (fun b o e=>Heap.get?_push_of_some _ e)
    · have:pk[i]? = some pk[i]:=by simp [hpl',hi]
      rw [this] at hq ⊢
      exact hq
    · have:pk[es.size]? = none:=by simp [hpl']
      rw [this]
      exact hq
    · rw [hv,List.getElem?_map,Array.getElem?_toList]
      have:pk[i]? = some pk[i]:=by simp [hpl',hi]
      rw [this]
      rfl
    · show b < (s.heap.push _).objs.size
      rw [Heap.size_push]
      simp only [List.mem_cons,List.not_mem_nil,or_false] at hb
      rcases hb with rfl | rfl
      · exact Nat.lt_succ_self _
      · exact Nat.lt_succ_of_lt hlt
  | false =>
    by_cases h2:1 < es.size
    · rw [if_pos (by simp [h2])]
      refine wpAny_bind (draw_order es.size (List.range es.size) s _ (by simp) fun ps d hps=>?_)
      have hpn:ps.length = es.size:=by rw [hps.length_eq,List.length_range]
      refine wpAny_bind (wpAny_newTuple ?_ (hsz:=by rw [List.length_map,hpn]; exact fits_of_scanBound hb))
      have ho1:(s.heap.push (seqObj "tuple" (ps.map fun i:Nat=>rawInt (i:Int)).toArray 0)).get? a = some o:=Heap.get?_push_of_some _ ho
      refine wpAny_bind (wpAny_setEpoch_of (s:={ heap:=s.heap.push (seqObj "tuple" (ps.map fun i:Nat=>rawInt (i:Int)).toArray 0),gens:=s.gens,drawn:=d,toks:=s.toks,os:=s.os }) ho1 hd hf ?_)
      refine wpAny_bind (wpAny_newObj_type (wpAny_pure ⟨_,rfl,"set_iterator",_,⟨_,Heap.get?_push_size _ rfl,rfl⟩,slot_si_next.lookup,?_⟩))
      have hsz:(s.heap.push (seqObj "tuple" (ps.map fun i:Nat=>rawInt (i:Int)).toArray 0)).objs.size = s.heap.objs.size + 1:=Heap.size_push _ _
      have hpl3:∀ p ∈ ps,p < es.size:=fun p hp=>List.mem_range.mp (hps.mem_iff.mp hp)
      have hvs:∀ (i:Nat) (v:Value),(∃ (p:Nat) (h0:Int),ps[i]? = some p ∧ es[p]? = some (h0,v)) → (ps.map fun p=>((es[p]?).map (·.2)).getD .none)[i]? = some v:=fun i v ⟨p,h0,e1,e2⟩=>by
        rw [List.getElem?_map,e1]
        show some (((es[p]?).map (·.2)).getD .none) = _
        rw [e2]
        rfl
      have hall:∀ f:Int × Value → Str,((List.range es.size).map fun p=>((es[p]?).map f).getD ⟨#[]⟩) = es.toList.map f:=fun f=>by
        refine List.ext_getElem (by simp) fun i h1 h2=>?_
        have hi:i < es.size:=by simpa using h1
        simp [hi]
      have hallv:((List.range es.size).map fun p=>((es[p]?).map (·.2)).getD Value.none) = es.toList.map (·.2):=by
        refine List.ext_getElem (by simp) fun i h1 h2=>?_
        have hi:i < es.size:=by simpa using h1
        simp [hi]
      have hstr:StrsAre (ps.map fun p=>((es[p]?).map (·.2)).getD .none) (ps.map fun p=>((es[p]?).map fun e=>strOf e.2).getD ⟨#[]⟩):=by
        have gen:∀ l:List Nat,(∀ p ∈ l,p < es.size) → StrsAre (l.map fun p=>((es[p]?).map (·.2)).getD .none) (l.map fun p=>((es[p]?).map fun e=>strOf e.2).getD ⟨#[]⟩):=by
          intro l
          induction l with
          | nil=>intro _; exact .nil
          | cons p r ih =>
            intro hl
            have hp:=hl p (by simp)
            have hg:es[p]? = some es[p]:=by simp [hp]
            obtain ⟨k,tk,e1⟩:=elem_str hel (e:=es[p]) (by rw [← Array.getElem_toList]; exact List.getElem_mem _)
            rw [List.map_cons,List.map_cons,hg]
            show StrsAre (es[p].2 :: _) (strOf es[p].2 :: _)
            rw [e1]
            exact .cons k tk (ih fun q hq=>hl q (by simp [hq]))
        exact gen ps hpl3
      refine hQ (s.heap.push (seqObj "tuple" (ps.map fun i:Nat=>rawInt (i:Int)).toArray 0)).objs.size _ d [(s.heap.push (seqObj "tuple" (ps.map fun i:Nat=>rawInt (i:Int)).toArray 0)).objs.size,a,s.heap.objs.size] _ _ _ _ (fun A' hA'=>walk_draw (T:=s.heap.objs.size) (oT:=seqObj "tuple" (ps.map fun i:Nat=>rawInt (i:Int)).toArray 0) hA' (by rw [hsz]; exact Nat.ne_of_lt (Nat.lt_succ_of_lt hlt)) (by rw [hsz]; exact Nat.ne_of_lt (Nat.lt_succ_self _)) hd hf ps hpn hpl3 rfl) (fun i v _ hv=>hvs i v hv) (by rw [List.length_map,hpn]) hstr ?_ ⟨⟨_,Heap.get?_push_size _ rfl,rfl,rfl⟩,Heap.get?_push_of_some _ ho1,Heap.get?_push_of_some _ (Heap.get?_push_size _ rfl)⟩ (fun b hb=>?_) (fun b hb=>by rw [hsz] at hb; simp only [List.mem_cons,List.not_mem_nil,or_false] at hb; rcases hb with rfl | rfl | rfl; exact .inr (Nat.le_succ _); exact .inl rfl; exact .inr (Nat.le_refl _)) (by rw [hsz]; exact Nat.le_succ _) (fun b o e=>Heap.get?_push_of_some _ (Heap.get?_push_of_some _ e))
      · rw [← hks,← hall]
        exact hps.map _
      · show b < (Heap.push _ _).objs.size
        rw [Heap.size_push,hsz]
        rw [hsz] at hb
        simp only [List.mem_cons,List.not_mem_nil,or_false] at hb
        rcases hb with rfl | rfl | rfl
        · exact Nat.lt_succ_self _
        · exact Nat.lt_succ_of_lt (Nat.lt_succ_of_lt hlt)
        · exact Nat.lt_succ_of_lt (Nat.lt_succ_self _)
    · rw [if_neg (by simp [h2])]
      refine wpAny_bind (wpAny_pure ?_)
      refine wpAny_bind (wpAny_setEpoch_of ho hd hf ?_)
      refine wpAny_bind (wpAny_newObj_type (wpAny_pure ⟨_,rfl,"set_iterator",_,⟨_,Heap.get?_push_size _ rfl,rfl⟩,slot_si_next.lookup,?_⟩))
      have hs1:es.size = 1:=by omega
      have hled':t.led = true:=by rw [hled,hbt]; rfl
      have hps1:t.place.size = 1:=by
        simp only [SetTable.fits,Bool.and_eq_true,beq_iff_eq] at hf
        rw [hf.1,hs1]
      obtain ⟨es0⟩:=es
      obtain ⟨e0,rfl⟩:∃ e0,es0 = [e0]:=List.length_eq_one_iff.mp (by simpa using hs1)
      obtain ⟨j,hj⟩:∃ j,t.place = #[j]:=by
        obtain ⟨l⟩:Nonempty Unit:=⟨()⟩
        have:t.place.toList.length = 1:=by simpa using hps1
        obtain ⟨j,e⟩:=List.length_eq_one_iff.mp this
        exact ⟨j,Array.ext' e⟩
      have b0:SetTable.below t.place 0 = 0:=by rw [hj]; simp [SetTable.below,SetTable.below.go]
      have b1:SetTable.below t.place (j + 1) = 1:=by rw [hj]; simp [SetTable.below,SetTable.below.go]
      have hnext:∀ (sl i:Nat) (s:Shared) (Q:Option (Value × Nat) → Shared → Prop) (A:Around) (E:Value → Shared → Prop),s.heap.get? a = some o → Q (match (#[e0]:Array (Int × Value))[SetTable.below t.place sl]?,t.place[SetTable.below t.place sl]? with | some (_,x),some j=>some (x,j + 1) | _,_=>none) s → wpAny (model prog w) A (setNext a sl i ep) Q E s:=by
        intro sl i s Q A E ho' hq
        unfold setNext
        refine wpAny_bind (wpAny_setState_of ho' hd hf ?_)
        dsimp only
        unfold setsByText
        refine wpAny_bind (wpAny_bind (wpAny_askSetting (wpAny_pure ?_)))
        show wpAny _ _ (if w.params.followText "set-order" = true then _ else _) _ _ _
        rw [hbt,if_neg (by decide)]
        show wpAny _ _ (if (!t.plain && decide ((#[e0]:Array (Int × Value)).size > 1)) = true then _ else _) _ _ _
        rw [if_neg (by simp)]
        refine wpAny_bind ?_
        show wpAny _ _ (if (!t.led && !(#[e0]:Array (Int × Value)).isEmpty) = true then _ else _) _ _ _
        rw [hled',if_neg (by simp)]
        exact wpAny_pure (wpAny_pure hq)
      refine hQ s.heap.objs.size _ s.drawn [s.heap.objs.size,a] _ _ [e0.2] [strOf e0.2] (fun A' hA'=>walk_slot hA' ne1 hd hf (fun _=>e0.2) (fun i=>if i = 0 then 0 else j + 1) (fun i hi s Q A E ho' hq=>hnext _ i s Q A E ho' ?_) (fun s Q A E ho' hq=>hnext _ _ s Q A E ho' ?_)) (fun i v hi hv=>?_) rfl ?_ (by rw [← hks]; exact List.Perm.refl _) ⟨⟨_,Heap.get?_push_size _ rfl,rfl,rfl⟩,Heap.get?_push_of_some _ ho⟩ (fun b hb=>?_) (fun b hb=>by simp only [List.mem_cons,List.not_mem_nil,or_false] at hb; rcases hb with rfl | rfl; exact .inr (Nat.le_refl _); exact .inl rfl) (Nat.le_refl _) (fun b o e=>Heap.get?_push_of_some _ e)
      · have hi0:i = 0:=by simp at hi; exact hi
        subst hi0
        rw [if_pos rfl,b0,hj]
        simpa using hq
      · simp only [List.size_toArray,List.length_cons,List.length_nil,Nat.zero_add,Nat.one_ne_zero,if_false,b1]
        simpa using hq
      · have hi0:i = 0:=by simp at hi; exact hi
        subst hi0
        rw [hv]
        rfl
      · have:=strs_of_elems hel
        simpa using this
      · show b < (s.heap.push _).objs.size
        rw [Heap.size_push]
        simp only [List.mem_cons,List.not_mem_nil,or_false] at hb
        rcases hb with rfl | rfl
        · exact Nat.lt_succ_self _
        · exact Nat.lt_succ_of_lt hlt
end
end L2

namespace L2
open PySem PySem.Spec PyProof.Rows
theorem set_len:typeLookup (.type "set") "__len__" = pure (some (.builtin "set.__len__")):=by rw [typeLookup_type,builtinLookup_eq_fast]; kernel_rfl
section
variable {prog:Program} {w:World} {A:Around} {E:Value → Shared → Prop} {s:Shared}
theorem SetZ.type {h:Heap} {a:Addr} {led:Bool} {ks:List Str} (hS:SetZ prog w h a led ks):∃ o,h.get? a = some o ∧ o.cls = .type "set":=by
  obtain ⟨o,_,_,_,ho,hex,_⟩:=hS
  exact ⟨o,ho,hex.1⟩
theorem collect_setZ {a:Addr} {ks:List Str} (hh:A.handled = none) (hS:SetZ prog w s.heap a (!w.params.followText "set-order") ks) (hk:ks ≠ []) (hlen:ks.length ≤ sizeLine) {Q:List Value → Shared → Prop}
    (hQ:∀ (h':Heap) (d:Drawn) (tk:Nat) (acc:List Value) (zs:List Str),StrsAre acc zs → zs.Perm ks → s.heap.objs.size < h'.objs.size → (∀ b o,s.heap.get? b = some o → h'.get? b = some o) → Q acc { s with heap:=h',drawn:=d,toks:=tk }) :
    wpAny (model prog w) A (collect (.ref a)) Q E s:=by
  obtain ⟨o0,ho0,hc0⟩:=hS.type
  have hlt:a < s.heap.objs.size:=Heap.lt_size ho0
  unfold collect
  refine wpAny_bind (wpAny_runValue (codeAny_builtin PySem.F.entry_proto_collect ?_))
  rw [Around.under_plainId PySem.F.plain_proto_collect _]
  show wpAny _ A.in1 (newList [] >>= fun l=>again (.builtin "list.__iadd__" ⟨[l,.ref a],[]⟩)) _ _ s
  refine wpAny_bind (wpAny_newObj_type ?_)
  refine wpAny_pure ⟨plainId_quiet PySem.F.plain_list_iadd _,codeAny_builtin PySem.F.entry_list_iadd ?_⟩
  rw [Around.under_plainId PySem.F.plain_list_iadd _]
  show wpAny _ A.in1 (Builtin.List.listExtendWith (.ref s.heap.objs.size) (.ref a) (.ref s.heap.objs.size)) _ _ _
  unfold Builtin.List.listExtendWith
  have ho1:(s.heap.push { cls:=.type "list",data:=.seq ([]:List Value).toArray }).get? a = some o0:=Heap.get?_push_of_some _ ho0
  refine wpAny_bind (wpAny_typeOf (T:="set") ⟨o0,ho1,hc0⟩ ?_)
  have h1:Builtin.List.listSameRef (.ref s.heap.objs.size) (.ref a) = false:=by simp [Builtin.List.listSameRef]; exact Nat.ne_of_gt hlt
  have h2:(Value.type "set" == Value.type "list") = false:=by decide
  have h3:(Value.type "set" == Value.type "tuple") = false:=by decide
  simp only [h1,h2,h3,Bool.or_false,Bool.false_eq_true,if_false]
  refine wpAny_bind (iter_setZ (hS.at fun o e=>Heap.get?_push_of_some _ e) hk fun it h2 d2 fp St P vs zs W hP hvl hsa hzp hst hfp hfa hit hkeep=>?_)
  have hS1:h2.get? s.heap.objs.size = some { cls:=.type "list",data:=.seq ([]:List Value).toArray }:=hkeep _ _ (Heap.get?_push_size _ rfl)
  have hsz:(s.heap.push { cls:=.type "list",data:=.seq ([]:List Value).toArray }).objs.size = s.heap.objs.size + 1:=Heap.size_push _ _
  have hSf:s.heap.objs.size ∉ fp:=fun hm=>by
    rcases hfa _ hm with e | e
    · exact Nat.ne_of_gt hlt e
    · rw [hsz] at e; exact Nat.not_succ_le_self _ e
  refine wpAny_bind (wpAny_holding ?_)
  unfold Builtin.List.listLengthHint
  have ho2:h2.get? a = some o0:=hkeep _ _ ho1
  refine wpAny_bind (wpAny_specialOf (T:="set") (v:=.ref a) ⟨o0,ho2,hc0⟩ set_len ?_)
  wp_delta
  refine wpAny_bind (wpAny_isInstance (T:="set") (v:=.ref a) (b:=true) ⟨o0,ho2,hc0⟩ (by rw [isSubtype_type]; kernel_rfl) ?_)
  show wpAny _ A.in1 (typeOf (Value.ref a) >>= _) _ _ _
  refine wpAny_bind (wpAny_typeOf (T:="set") (v:=.ref a) ⟨o0,ho2,hc0⟩ ?_)
  refine wpAny_pure ?_
  show wpAny _ A.in1 (rule "list.extend.makes-room" >>= fun _=>Builtin.List.listTouch (.ref s.heap.objs.size) >>= fun _ =>
    again (.builtin "list.extend.loop" ⟨[.ref s.heap.objs.size,.ref it,.ref s.heap.objs.size],[]⟩)) _ _ _
  refine wpAny_bind (wpAny_rule ?_)
  refine wpAny_bind ?_
  show wpAny _ A.in1 (updateSeq s.heap.objs.size (·.push .none) >>= fun _=>updateSeq s.heap.objs.size (·.pop)) _ _ _
  refine wpAny_bind (wpAny_updateSeq hS1 rfl ?_)
  have hS₂:=Heap.get?_update_self (Obj.mapSeq (·.push Value.none)) hS1 rfl
  refine wpAny_updateSeq hS₂ rfl ?_
  have hS₃:=Heap.get?_update_self (Obj.mapSeq (·.pop)) hS₂ rfl
  have oth:∀ b o,b ≠ s.heap.objs.size → h2.get? b = some o → ((h2.update s.heap.objs.size (Obj.mapSeq (·.push Value.none))).update s.heap.objs.size (Obj.mapSeq (·.pop))).get? b = some o :=
    fun b o hb e=>(Heap.get?_update_other _ _ (Ne.symm hb)).trans ((Heap.get?_update_other _ _ (Ne.symm hb)).trans e)
  refine wpAny_pure ⟨plainId_quiet PySem.F.plain_extend_loop _,codeAny_extend_loopS (W A.in1 hh).toS hlen _ hSf _ ks.length 0 _ _ _ rfl (Nat.zero_le _) ((W A.in1 hh).frame 0 h2 _ hst fun b hb o e=>oth b o (fun z=>hSf (z ▸ hb)) e) hS₃ (ItemsOf.nil P) fun s' acc' c' hm hS' hacc=>?_⟩
  show wpAny _ A (load s.heap.objs.size >>= _) _ _ s'
  refine wpAny_bind (wpAny_load hS' ?_)
  obtain ⟨h',g',d',tk',os'⟩:=s'
  have eg:g' = s.gens:=hm.gens
  have ed:d' = d2:=hm.drawn
  have eo:os' = s.os:=hm.os
  subst eg; subst ed; subst eo
  refine wpAny_pure (hQ h' d' tk' acc'.toList zs (strs_items hacc hvl hP hsa) hzp (Heap.lt_size hS') fun b o e=>?_)
  have hbl:b < s.heap.objs.size:=Heap.lt_size e
  refine hm.heap b o (fun hb=>?_) (oth b o (Nat.ne_of_lt hbl) (hkeep b o (Heap.get?_push_of_some _ e)))
  simp only [List.mem_cons,List.not_mem_nil,or_false] at hb
  rcases hb with rfl | rfl
  · exact Nat.lt_irrefl _ hbl
  · rw [hsz] at hit; exact absurd hbl (Nat.not_lt.mpr (Nat.le_of_succ_le hit))
theorem sorted_setZ {a:Addr} {ks:List Str} (hh:A.handled = none) (hS:SetZ prog w s.heap a (!w.params.followText "set-order") ks) (hk:ks ≠ []) (hlen:ks.length < 64) {Q:Value → Shared → Prop}
    (hQ:∀ (h':Heap) (d:Drawn) (tk:Nat) (L:Addr) (out:Array Value) (e:Nat) (zs:List Str),StrsAre out.toList zs → zs.Perm ks → sortedS zs = true → s.heap.objs.size ≤ L → h'.get? L = some (seqObj "list" out e) → (∀ b o,s.heap.get? b = some o → h'.get? b = some o) → Q (.ref L) { s with heap:=h',drawn:=d,toks:=tk }) :
    wpAny (model prog w) A (call (.builtin "sorted") [.ref a]) Q E s:=by
  refine Calls.call_function_entry kind_sorted plain_sorted entry_sorted (args_sorted1 _) ?_
  unfold Builtin.«sorted»
  refine wpAny_bind (m:=checkCount "sorted" 1 1 _) (wpAny_pure ?_)
  refine wpAny_bind (collect_setZ (A:=A.in1) hh hS hk (by rw [sizeLine_eq]; omega) fun h' d tk acc zs hsa hzp hgr hkeep=>?_)
  have hal:acc.length = ks.length:=by rw [strs_len hsa,hzp.length_eq]
  refine wpAny_bind (wpAny_newList ?_ (hsz:=by rw [hal,sizeLine_eq]; omega))
  have hoL:(h'.push (seqObj "list" acc.toArray 0)).get? h'.objs.size = some (seqObj "list" acc.toArray 0):=Heap.get?_push_size _ rfl
  refine wpAny_bind (wpAny_holding (wpAny_call_entry slot_list_sort ⟨_,hoL,rfl⟩ entry_list_sort (list_sort_treeK strKind_oneLt hoL hsa.keysOf (fun v₁ v₂ rest e=>keyKind_strs (by rw [← e]; exact hsa)) (by omega) fun st' a1 a2=>⟨_,rfl,?_⟩) (args_list_sort _)))
  obtain ⟨zs',b1,b2,b3⟩:=sorted_out_str hsa a1 a2
  obtain ⟨e,he⟩:=sortedHeap_at (vs:=acc) (out:=(arrOf st').map (·.2)) hoL
  refine wpAny_pure ⟨_,rfl,hQ _ d tk h'.objs.size _ e zs' b1 (b2.trans hzp) b3 ?_ he fun b o eb=>?_⟩
  · exact Nat.le_of_lt hgr
  · have h1:=hkeep b o eb
    have hlt:b < h'.objs.size:=Heap.lt_size h1
    rw [sortedHeap_old (Nat.ne_of_lt hlt) (by rw [size_push']; exact Nat.lt_succ_of_lt hlt)]
    exact Heap.get?_push_of_some _ h1
end
end L2

namespace Mi
open PySem
noncomputable section
def ded:List Nat → List Nat
  | []=>[]
  | a :: r=>if a ∈ ded r then ded r else a :: ded r
def sosL (l:List Nat):List Nat:=(ded l).mergeSort fun a b=>decide (a ≤ b)
def sosD:List Dt → Option Dt
  | [.str z]=>@ite _ (0 < z.length ∧ z.length ≤ 60) (Classical.propDecidable _) (some (.lst ((sosL z.cps.toList).map fun c=>.str ⟨#[c]⟩))) none
  | _=>none
theorem ded_mem (x:Nat):∀ l:List Nat,x ∈ ded l ↔ x ∈ l
  | []=>by simp [ded]
  | a :: r=>by
    unfold ded
    split
    · rename_i h
      rw [ded_mem x r,List.mem_cons]
      constructor
      · exact .inr
      · rintro (rfl | h')
        · exact (ded_mem x r).mp h
        · exact h'
    · rw [List.mem_cons,List.mem_cons,ded_mem x r]
theorem ded_nodup:∀ l:List Nat,(ded l).Nodup
  | []=>by simp [ded]
  | a :: r=>by
    unfold ded
    split
    · exact ded_nodup r
    · rename_i h
      exact List.nodup_cons.mpr ⟨h,ded_nodup r⟩
theorem sos_mem (x:Nat) (l:List Nat):x ∈ sosL l ↔ x ∈ l:=by
  unfold sosL
  rw [(List.mergeSort_perm _ _).mem_iff,ded_mem]
theorem sos_nodup (l:List Nat):(sosL l).Nodup:=by
  unfold sosL
  exact (List.mergeSort_perm _ _).nodup_iff.mpr (ded_nodup l)
theorem sos_asc (l:List Nat):(sosL l).Pairwise (· ≤ ·):=by
  have:=List.pairwise_mergeSort (le:=fun a b:Nat=>decide (a ≤ b)) (fun a b c h1 h2=>by simp at h1 h2 ⊢; omega) (fun a b=>by simp; omega) (ded l)
  exact this.imp fun h=>by simpa using h
end
end Mi

namespace L2
open PySem PySem.Spec PyProof.Rows
section
variable {X:Cx} {pins:List (Addr × Obj)} {σ:List (Option V)} {H:Hp} {s:Shared}
theorem Inv.drawn (I:Inv X pins σ H s) (d:Drawn):Inv X pins σ H { s with drawn:=d }:=⟨I.ok,I.os,I.bare,I.base,I.loc,I.cell,I.free,I.freeC,I.pin,I.hok,I.len⟩
def setHO (P:Program) (w:World) (a:Addr) (ks:List Str):HO:=.ext fun h=>SetZ P w h a (!w.params.followText "set-order") ks
def rSetZ (P:Program) (w:World):List V → Hp → VK → Prop:=fun vs H Q=>match vs with
  | [.str z]=>z.cps.size ≤ 1000 ∧ ∀ a ks,H a = none → ks.Nodup → (∀ c,c ∈ ks ↔ ∃ d ∈ z.cps.toList,c = (⟨#[d]⟩:Str)) → Q (.ref a) (upd H a (setHO P w a ks))
  | _=>False
theorem k_setZ (hc:X.calm = true):CallR X (.type "set") (rSetZ X.prog X.w):=by
  intro pins s σ H vs us Q I r h
  match vs,r,h with
  | [.str z],r,h =>
    obtain ⟨hz,q⟩:=h
    obtain ⟨u,rfl,rx⟩:=vals1 r
    obtain ⟨t,rfl⟩:=rx
    refine setZ_call_str (I.ok.hd hc) (by unfold scanBound; omega) fun h' tk ks hS hks hk hsz=>?_
    have hS':=hS
    obtain ⟨o,es,ep,tb,ho,hex,hd,hel,hkse,hnd,_⟩:=hS
    refine ⟨.ref _,_,I.laid (t':=tk) (o:=setHO X.prog X.w s.heap.objs.size ks) (fun b u e=>hk b u (Heap.lt_size e) e) (Nat.le_refl _) ⟨hS',⟨o,ho⟩,fun h1 h2 z f=>z.at f⟩,rfl,q _ ks (I.hok.fresh (Nat.le_refl _)) hnd fun c=>?_⟩
    rw [hks c]
    constructor
    · rintro ⟨j,d,_,e1,e2⟩
      exact ⟨d,by rw [← Array.getElem?_toList] at e1; exact List.mem_of_getElem? e1,e2⟩
    · rintro ⟨d,hd',e2⟩
      obtain ⟨j,e1⟩:=List.getElem?_of_mem hd'
      have hj:j < z.cps.size:=by have:=(List.getElem?_eq_some_iff.mp e1).1; simpa using this
      exact ⟨j,d,hj,by rw [← Array.getElem?_toList]; exact e1,e2⟩
def rSortZ (P:Program) (w:World):List V → Hp → VK → Prop:=fun vs H Q=>match vs with
  | [.ref a]=>∃ ks,H a = some (setHO P w a ks) ∧ ks ≠ [] ∧ ks.length < 64 ∧ ∀ ys:List Str,ys.Perm ks → sortedS ys = true → ∀ l,H l = none → Q (.ref l) (upd H l (.lst (ys.map V.str)))
  | _=>False
theorem k_sortZ (hc:X.calm = true):CallR X (.builtin "sorted") (rSortZ X.prog X.w):=by
  intro pins s σ H vs us Q I r h
  match vs,r,h with
  | [.ref a],r,h =>
    obtain ⟨ks,ha,hne,hlen,q⟩:=h
    obtain ⟨u,rfl,rx⟩:=vals1 r
    cases rx
    have hok:ObjOk X.prog X.w H s.heap a (setHO X.prog X.w a ks):=I.hok a _ ha
    have hS:SetZ X.prog X.w s.heap a (!X.w.params.followText "set-order") ks:=hok.1
    refine sorted_setZ (I.ok.hd hc) hS hne hlen fun h' d tk L out e zs b1 b2 b3 hL hl hk=>?_
    have I2:Inv X pins σ H { s with drawn:=d }:=I.drawn d
    have hz':zs.length ≤ sizeLine:=by rw [b2.length_eq,sizeLine_eq]; omega
    exact ⟨.ref _,_,I2.laid (t':=tk) (o:=.lst (zs.map V.str)) (fun b o e=>hk b o e) hL ⟨by rw [List.length_map]; exact hz',out.toList,e,strs_back b1,by simpa [seqObj] using hl⟩,rfl,q zs b2 b3 _ (I2.hok.fresh hL)⟩
end
theorem boot_set':bootBuiltins "set" = some (.type "set"):=by decide +kernel
end L2
namespace L3
open PySem PySem.Spec
open PyProof.Rows (risingS sortedS ltCps_eq)
open L2 hiding Rep RepL
open Mi (Dt Xn R okR bindR optR bindR_ok bindR_none bindR_err optR_some optR_none Rh Sl Ro EM TM AM FM IM SM OM Tg Out bindT setsH setsO full frz frz1 frzAt)
section
variable [Kc] {mg:Str → Option Value} {E:XK} {L n k l:Nat} {te ta tb:TE} {e ea eb ma:EM} {t:TA} {m:AM}
theorem one_le {c d:Nat}:([c]:List Nat) ≤ [d] ↔ c ≤ d:=by
  constructor
  · intro h
    by_cases z:c ≤ d
    · exact z
    · exact absurd (show ([d]:List Nat) < [c] from .rel (by omega)) (List.not_lt.mpr h)
  · intro h
    rcases Nat.lt_or_eq_of_le h with h | h
    · exact List.le_of_lt (.rel h)
    · rw [h]; exact List.le_refl _
theorem sgn_inj {l:List Nat} (h:l.Nodup):(l.map fun c=>(⟨#[c]⟩:Str)).Nodup:=by
  rw [List.Nodup,List.pairwise_map]
  refine h.imp fun hne e=>hne ?_
  have:[_] = [_]:=congrArg (fun s:Str=>s.cps.toList) e
  simpa using this
theorem repL_sgn {G:Hp}:∀ (l:List Nat),RepL G (l.map fun c=>Dt.str ⟨#[c]⟩) ((l.map fun c=>(⟨#[c]⟩:Str)).map V.str)
  | []=>rfl
  | _ :: r=>⟨_,_,rfl,rfl,repL_sgn r⟩
theorem de_sos {P:Program} {w:World} (A:DE mg E te e k):DE mg E (tCB (rSortZ P w) (tCons (tCB (rSetZ P w) (tCons te tNil)) tNil)) (Mi.eBi Mi.sosD (Mi.aCons e Mi.aNil)) 1:=by
  intro G H σ ρ Q s w' p
  have p0:PostE mg E G H 1 (bindR (e ρ) fun d=>optR (Mi.sosD [d])) Q:=by
    have:(Mi.eBi Mi.sosD (Mi.aCons e Mi.aNil)) ρ = bindR (e ρ) fun d=>optR (Mi.sosD [d]):=by
      show bindR (bindR (e ρ) fun x=>bindR (okR []) fun xs=>okR (x :: xs)) (fun xs=>optR (Mi.sosD xs)) = _
      cases e ρ with
      | none=>rfl
      | some r=>cases r <;> rfl
    rw [← this]
    exact p
  refine (de_frz A).step errE s w' p0 fun d v G1 H1 S _ fr o p1=>?_
  cases d with
  | str z =>
    cases (show v = .str z from o)
    have p2:PostE mg E G H 1 (optR (@ite _ (0 < z.length ∧ z.length ≤ 60) (Classical.propDecidable _) (some (Dt.lst ((Mi.sosL z.cps.toList).map fun c=>Dt.str ⟨#[c]⟩))) none)) Q:=p1
    split at p2
    · rename_i hz
      have hzl:z.length = z.cps.size:=rfl
      refine ⟨by omega,fun a ks ha hnd hks=>?_⟩
      have hperm:ks.Perm ((Mi.sosL z.cps.toList).map fun c=>(⟨#[c]⟩:Str)):=by
        refine (List.perm_ext_iff_of_nodup hnd (sgn_inj (Mi.sos_nodup _))).mpr fun c=>?_
        rw [hks c,List.mem_map]
        constructor
        · rintro ⟨d,hd,rfl⟩; exact ⟨d,(Mi.sos_mem d _).mpr hd,rfl⟩
        · rintro ⟨d,hd,rfl⟩; exact ⟨d,(Mi.sos_mem d _).mp hd,rfl⟩
      have hsl:(Mi.sosL z.cps.toList).length ≤ 60:=by
        have h1:(Mi.sosL z.cps.toList).length = (Mi.ded z.cps.toList).length:=(List.mergeSort_perm _ _).length_eq
        have h2:∀ l:List Nat,(Mi.ded l).length ≤ l.length:=by
          intro l
          induction l with
          | nil=>exact Nat.le_refl _
          | cons a r ih =>
            unfold Mi.ded
            split
            · simp only [List.length_cons]; omega
            · simp only [List.length_cons]; omega
        have h3:=h2 z.cps.toList
        simp at h3
        omega
      refine ⟨ks,upd_same,?_,by rw [hperm.length_eq,List.length_map]; omega,fun ys h1 h2 l hl=>?_⟩
      · intro hnil
        have hz0:0 < z.cps.toList.length:=by simp; omega
        have hm:z.cps.toList[0] ∈ z.cps.toList:=List.getElem_mem hz0
        have:=(hks ⟨#[z.cps.toList[0]]⟩).mpr ⟨_,hm,rfl⟩
        rw [hnil] at this
        simp at this
      · have hy:ys = (Mi.sosL z.cps.toList).map fun c=>(⟨#[c]⟩:Str):=by
          refine Mi.uniqZ (h1.trans hperm) (sorted_pw h2) ?_
          rw [List.pairwise_map]
          exact (Mi.sos_asc _).imp fun h=>one_le.mpr h
        subst hy
        have hla:l ≠ a:=fun z=>by rw [z,upd_same] at hl; cases hl
        have hl1:H1 l = none:=by rw [upd_ne hla] at hl; exact hl
        have x1:Ext G1 H1 G1 (upd H1 a (setHO P w a ks)):=⟨Same.refl _,fun b o e=>by
            by_cases z:b = a
            · rw [z,ha] at e; cases e
            · rw [upd_ne z]; exact e,fun b o e=>by
            have e2:=fr.ext.in' _ _ e
            by_cases z:b = a
            · rw [z,ha] at e2; cases e2
            · rw [upd_ne z]; exact e2,fun _ _=>rfl⟩
        exact PostE.lst p2 (fr.ext.trans x1) (repL_sgn _) hl
    · exact p2.elim
  | _=>exact p1.elim
end
end L3

namespace Mi
open PySem
noncomputable section
end
end Mi

namespace PySem
open Builtin Builtin.Str PySem.Spec
end PySem
namespace L2
open PySem PySem.Spec PyProof.Rows
section
variable {X:Cx} {pins:List (Addr × Obj)} {σ:List (Option V)} {H:Hp} {s:Shared}
end
end L2

namespace L3
open PySem PySem.Spec
open PyProof.Rows (risingS sortedS ltCps_eq)
open L2 hiding Rep RepL
open Mi (Dt Xn R okR bindR optR bindR_ok bindR_none bindR_err optR_some optR_none Rh Sl Ro EM TM AM FM IM SM OM Tg Out bindT setsH setsO full frz frz1 frzAt)
section
variable [Kc] {mg:Str → Option Value} {E:XK} {L n k l:Nat} {te ta tb:TE} {e ea eb ma:EM} {t:TA} {m:AM}
end
end L3

namespace Mi
open PySem
noncomputable section
end
end Mi

namespace L2
open PySem PySem.Spec PyProof.Rows
section
variable {prog:Program} {w:World} {A:Around} {E:Value → Shared → Prop} {s:Shared}
end
section
variable {X:Cx} {pins:List (Addr × Obj)} {σ:List (Option V)} {H:Hp} {s:Shared}
end
end L2
namespace L3
open PySem PySem.Spec
open L2 hiding Rep RepL
open Mi (Dt Xn R okR bindR optR bindR_ok bindR_none bindR_err optR_some optR_none Rh Sl Ro EM TM AM FM IM SM OM Tg Out bindT setsH setsO full frz frz1 frzAt)
section
variable [Kc] {mg:Str → Option Value} {E:XK} {L n k l:Nat} {te ta tb:TE} {e ea eb ma:EM} {t:TA} {m:AM}
end
end L3

namespace L2
open PySem PySem.Spec
structure Dr (p:Prop):Prop where
  h:p
section
variable {X:Cx}
end
end L2

namespace Mi
open PySem
noncomputable section
def rvsD:List Dt → Option Dt
  | [.lst xs]=>some (.lst xs.reverse)
  | [.str z]=>@ite _ (z.length ≤ 1000) (Classical.propDecidable _) (some (.lst (signsD z).reverse)) none
  | _=>none
def joinRD (x:Dt) (ys:List Dt):Option Dt:=match x,ys with
  | .str y,[.str z]=>@ite _ (y.length = 0 ∧ z.length ≤ 1000) (Classical.propDecidable _) (some (.str ⟨z.cps.reverse⟩)) none
  | _,_=>none
end
end Mi

namespace L2
open PySem PySem.Spec PyProof.Rows
theorem rvd_owner:Manifest.owners.lookup (String.ofList ['d','e','s','r','e','v','e','r'].reverse) = some Manifest.sig_reversed:=by kernel_rfl
theorem rvd_slot_next:Slot "reversed" "__next__" "reversed.__next__" :=
  Slot.of (owner:="reversed") (n:="__next__") (by rw [typeLookup_type,builtinLookup_eq_fast]; kernel_rfl) (by decide +kernel) (by decide +kernel) (by decide +kernel) (by first | exact .inl (by decide +kernel) | exact .inr (by decide +kernel)) (by rw [isSubtype_type]; kernel_rfl)
theorem rvd_entry_next:entryFor table "reversed.__next__" = some Builtin.«reversed.__next__»:=entryFor_of_tree (by kernel_rfl)
theorem rvd_args_next (a:Value):argsOk "reversed.__next__" ⟨[a],[]⟩:=by
  unfold argsOk; rw [signature?_of (id:="reversed.__next__") (n:=['_','_','t','x','e','n','_','_']) (o:=['d','e','s','r','e','v','e','r']) (by kernel_rfl) rvd_owner]; kernel_rfl
theorem rvd_slot_iter:Slot "reversed" "__iter__" "reversed.__iter__" :=
  Slot.of (owner:="reversed") (n:="__iter__") (by rw [typeLookup_type,builtinLookup_eq_fast]; kernel_rfl) (by decide +kernel) (by decide +kernel) (by decide +kernel) (by first | exact .inl (by decide +kernel) | exact .inr (by decide +kernel)) (by rw [isSubtype_type]; kernel_rfl)
theorem rvd_args_iter (a:Value):argsOk "reversed.__iter__" ⟨[a],[]⟩:=by
  unfold argsOk; rw [signature?_of (id:="reversed.__iter__") (n:=['_','_','r','e','t','i','_','_']) (o:=['d','e','s','r','e','v','e','r']) (by kernel_rfl) rvd_owner]; kernel_rfl
theorem rvd_entry_iter:entryFor table "reversed.__iter__" = some Builtin.«dict_keyiterator.__iter__» :=
  entryFor_alias (id':="dict_keyiterator.__iter__") (by kernel_rfl) (by first | rfl | decide +kernel | (unfold String.splitOn; simp +decide [String.splitOnAux])) (by decide +kernel) (by kernel_rfl)
theorem rvd_slot_hint:Slot "reversed" "__length_hint__" "reversed.__length_hint__" :=
  Slot.of (owner:="reversed") (n:="__length_hint__") (by rw [typeLookup_type,builtinLookup_eq_fast]; kernel_rfl) (by decide +kernel) (by decide +kernel) (by decide +kernel) (by first | exact .inl (by decide +kernel) | exact .inr (by decide +kernel)) (by rw [isSubtype_type]; kernel_rfl)
theorem rvd_entry_hint:entryFor table "reversed.__length_hint__" = some Builtin.«reversed.__length_hint__»:=entryFor_of_tree (by kernel_rfl)
theorem rvd_args_hint (a:Value):argsOk "reversed.__length_hint__" ⟨[a],[]⟩:=by
  unfold argsOk; rw [signature?_of (id:="reversed.__length_hint__") (n:=['_','_','t','n','i','h','_','h','t','g','n','e','l','_','_']) (o:=['d','e','s','r','e','v','e','r']) (by kernel_rfl) rvd_owner]; kernel_rfl
theorem rvd_no_len:typeLookup (.type "reversed") "__len__" = pure none:=by rw [typeLookup_type,builtinLookup_eq_fast]; kernel_rfl
theorem rvd_called:TypeCalled "reversed" "reversed.__new__" "object.__init__" where
  notType:=by decide +kernel
  canCreate:=PySem.F.create_reversed
  mro:=⟨_,_,PySem.F.mro_reversed⟩
  made:=PySem.F.made_reversed
  plain:=PySem.F.plain_reversed_new
  sub:=PySem.F.sub_reversed_self
  init:=Slot.of (owner:="object") (n:="__init__") (by rw [typeLookup_type,builtinLookup_eq_fast]; kernel_rfl) (by decide +kernel) (by decide +kernel) (by decide +kernel) (by first | exact .inl (by decide +kernel) | exact .inr (by decide +kernel)) (by rw [isSubtype_type]; kernel_rfl)
theorem str_no_rev:typeLookup (.type "str") "__reversed__" = pure none:=by rw [typeLookup_type,builtinLookup_eq_fast]; kernel_rfl
structure Walk1 (prog:Program) (w:World) (A:Around) (I:Addr) (fp:List Addr) (n:Nat) (P:Nat → Value → Prop) (St:Nat → Heap → Prop):Prop where
  me:I ∈ fp
  frame:∀ i h h',St i h → (∀ b ∈ fp,∀ o,h.get? b = some o → h'.get? b = some o) → St i h'
  item:∀ i (s:Shared) (Q:Option Value → Shared → Prop) (E:Value → Shared → Prop),i < n → St i s.heap →
    (∀ v h' tk,P i v → St (i + 1) h' → (∀ b o,b ≠ I → s.heap.get? b = some o → h'.get? b = some o) → Q (some v) { s with heap:=h',toks:=tk }) → wpAny (model prog w) A (pyNext (.ref I)) Q E s
  done:∀ (s:Shared) (Q:Option Value → Shared → Prop) (E:Value → Shared → Prop),St n s.heap →
    (∀ h' tk,(∀ b o,b ≠ I → s.heap.get? b = some o → h'.get? b = some o) → (∃ u,h'.get? I = some u) → Q none { s with heap:=h',toks:=tk }) → wpAny (model prog w) A (pyNext (.ref I)) Q E s
  self:∀ i (s:Shared) (Q:Value → Shared → Prop) (E:Value → Shared → Prop),St i s.heap → Q (.ref I) s → wpAny (model prog w) A (pyIter (.ref I)) Q E s
theorem walk1_loop {prog:Program} {w:World} {A:Around} {I:Addr} {fp:List Addr} {n:Nat} {P:Nat → Value → Prop} {St:Nat → Heap → Prop} {R:Result → Shared → Prop} (W:Walk1 prog w A.in1 I fp n P St) (hn:n ≤ sizeLine) (S:Addr) (hSf:S ∉ fp) (res:Value) :
    ∀ (k i:Nat) (s:Shared) (acc:Array Value) (c:Nat),n - i = k → i ≤ n → St i s.heap → s.heap.get? S = some { cls:=.type "list",dict:=none,data:=.seq acc c,slots:=#[] } → ItemsOf P acc i →
    (∀ h' tk acc' c',(∀ b o,b ≠ S → b ≠ I → s.heap.get? b = some o → h'.get? b = some o) → (∃ u,h'.get? I = some u) → h'.get? S = some { cls:=.type "list",dict:=none,data:=.seq acc' c',slots:=#[] } → ItemsOf P acc' n → R (.ok (.ret res)) { s with heap:=h',toks:=tk }) →
    codeAny (model prog w) A (.builtin "list.extend.loop" ⟨[.ref S,.ref I,res],[]⟩) R s:=by
  have hSI:S ≠ I:=fun h=>hSf (h ▸ W.me)
  intro k
  induction k with
  | zero =>
    intro i s acc c hk hi hst hS hacc hR
    have hin:i = n:=by omega
    subst hin
    refine codeAny_builtin PySem.F.entry_extend_loop ?_
    rw [Around.under_plainId PySem.F.plain_extend_loop _]
    show wpAny _ A.in1 (pyNext (.ref I) >>= _) _ _ s
    refine wpAny_bind (W.done s _ _ hst fun h' tk hk hu=>?_)
    exact wpAny_pure (hR h' tk acc c (fun b o _ hb e=>hk b o hb e) hu (hk S _ hSI hS) hacc)
  | succ k ih =>
    intro i s acc c hk hi hst hS hacc hR
    have hlt:i < n:=by omega
    refine codeAny_builtin PySem.F.entry_extend_loop ?_
    rw [Around.under_plainId PySem.F.plain_extend_loop _]
    show wpAny _ A.in1 (pyNext (.ref I) >>= _) _ _ s
    refine wpAny_bind (W.item i s _ _ hlt hst fun v h1 t1 hP hst' hk1=>?_)
    have hS':=hk1 S _ hSI hS
    show wpAny _ A.in1 (updateSeq S (·.push v) >>= _) _ _ _
    refine wpAny_bind ?_
    refine wpAny_updateSeq hS' rfl (wpAny_pure ⟨plainId_quiet PySem.F.plain_extend_loop _,ih (i + 1) _ (acc.push v) _ (by omega) hlt (W.frame _ h1 _ hst' fun b hb o e=>?_) (Heap.get?_update_self _ hS' rfl) (hacc.push hP) fun h'' tk acc' c' hk2 hu hS'' hacc'=>?_⟩)
      (by rw [hacc.1]; omega) (by show (acc.push v).size ≤ sizeLine + 1; rw [Array.size_push,hacc.1]; omega)
    · exact (Heap.get?_update_other _ _ (fun h:S = b=>hSf (by rw [h]; exact hb))).trans e
    · refine hR h'' tk acc' c' (fun b o hb hb2 e=>hk2 b o hb hb2 ?_) hu hS'' hacc'
      exact (Heap.get?_update_other _ _ (Ne.symm hb)).trans (hk1 b o hb2 e)
structure Once (prog:Program) (w:World) (T:String) (r:Addr) (fp:List Addr) (n:Nat) (P:Nat → Value → Prop) (St:Nat → Heap → Prop):Prop where
  ty:∀ (s:Shared) i,St i s.heap → s.TypeIs (.ref r) T
  nl:(Value.type T == Value.type "list") = false
  nt:(Value.type T == Value.type "tuple") = false
  me:r ∈ fp
  hint:∀ (A:Around) (E:Value → Shared → Prop) (s:Shared) (Q:Bool → Shared → Prop),A.handled = none → St 0 s.heap → (∀ b tk,Q b { s with toks:=tk }) → wpAny (model prog w) A (Builtin.List.listLengthHint (.ref r)) Q E s
  walk:∀ (A:Around),A.handled = none → Walk1 prog w A r fp n P St
section
variable {prog:Program} {w:World} {A:Around} {E:Value → Shared → Prop} {s:Shared} {T:String} {r:Addr} {fp:List Addr} {n:Nat} {P:Nat → Value → Prop} {St:Nat → Heap → Prop}
theorem once_extend {R:Result → Shared → Prop} (K:Once prog w T r fp n P St) (hh:A.handled = none) (st:St 0 s.heap) (S:Addr) (hSf:S ∉ fp) (res:Value) (c₀:Nat) (hS:s.heap.get? S = some { cls:=.type "list",data:=.seq #[] c₀ })
    (hR:∀ h' tk acc' c',(∀ b o,b ≠ S → b ≠ r → s.heap.get? b = some o → h'.get? b = some o) → (∃ u,h'.get? r = some u) → h'.get? S = some { cls:=.type "list",dict:=none,data:=.seq acc' c',slots:=#[] } → ItemsOf P acc' n → R (.ok (.ret res)) { s with heap:=h',toks:=tk }) (hn:n ≤ sizeLine) :
    wpAny (model prog w) A.in1 (Builtin.List.listExtendWith (.ref S) (.ref r) res)
      (fun fin s'=>match fin with | .done f=>R (.ok f) s' | .again c'=>c'.quiet = true ∧ codeAny (model prog w) A c' R s') (fun e s'=>R (.error e) s') s:=by
  have W:=K.walk A.in1 hh
  have hSr:S ≠ r:=fun z=>hSf (z ▸ K.me)
  have key:∀ (h:Heap) (c₁ tk:Nat),St 0 h → (∀ b o,b ≠ S → s.heap.get? b = some o → h.get? b = some o) →
      h.get? S = some { cls:=.type "list",data:=.seq #[] c₁ } → codeAny (model prog w) A (.builtin "list.extend.loop" ⟨[.ref S,.ref r,res],[]⟩) R { s with heap:=h,toks:=tk }:=by
    intro h c₁ tk hst hk hS₁
    refine walk1_loop W hn S hSf res n 0 _ #[] c₁ rfl (Nat.zero_le _) hst hS₁ (ItemsOf.nil _) fun h' tk' acc' c' hm hu hS' hacc=>?_
    exact hR h' tk' acc' c' (fun b o hb hb2 e=>hm b o hb hb2 (hk b o hb e)) hu hS' hacc
  unfold Builtin.List.listExtendWith
  refine wpAny_bind (wpAny_typeOf (T:=T) (K.ty s 0 st) ?_)
  have h1:Builtin.List.listSameRef (.ref S) (.ref r) = false:=by simp [Builtin.List.listSameRef,hSr]
  simp only [h1,K.nl,K.nt,Bool.or_false,Bool.false_eq_true,if_false]
  refine wpAny_bind (W.self 0 s _ _ st ?_)
  refine wpAny_bind (wpAny_holding (K.hint _ _ _ _ hh st fun b tk=>?_))
  refine wpAny_ite_split (fun _=>?_) (fun _=>wpAny_pure ⟨plainId_quiet PySem.F.plain_extend_loop _,key _ c₀ _ st (fun b o _ e=>e) hS⟩)
  refine wpAny_bind (wpAny_rule ?_)
  refine wpAny_bind ?_
  show wpAny _ _ (updateSeq S (·.push .none) >>= fun _=>updateSeq S (·.pop)) _ _ _
  refine wpAny_bind (wpAny_updateSeq hS rfl ?_)
  have hS₂:=Heap.get?_update_self (Obj.mapSeq (·.push Value.none)) hS rfl
  refine wpAny_updateSeq (hz:=by seq_fits) hS₂ rfl ?_
  have hS₃:=Heap.get?_update_self (Obj.mapSeq (·.pop)) hS₂ rfl
  refine wpAny_pure ⟨plainId_quiet PySem.F.plain_extend_loop _,key _ _ _ ?_ (fun b o hb e=>?_) hS₃⟩
  · refine W.frame 0 _ _ st fun b hb o e=>?_
    have hbS:b ≠ S:=fun h=>hSf (h ▸ hb)
    exact (Heap.get?_update_other _ _ (Ne.symm hbS)).trans ((Heap.get?_update_other _ _ (Ne.symm hbS)).trans e)
  · exact (Heap.get?_update_other _ _ (Ne.symm hb)).trans ((Heap.get?_update_other _ _ (Ne.symm hb)).trans e)
def ColR (s:Shared) (r:Addr) (n:Nat) (P:Nat → Value → Prop):Result → Shared → Prop:=fun r1 s1=>∃ h' tk acc' c',r1 = .ok (.ret (.ref s.heap.objs.size)) ∧ s1 = { s with heap:=h',toks:=tk } ∧ (∀ b o,b ≠ r → s.heap.get? b = some o → h'.get? b = some o) ∧ (∃ u,h'.get? r = some u) ∧
    h'.get? s.heap.objs.size = some { cls:=.type "list",dict:=none,data:=.seq acc' c',slots:=#[] } ∧ ItemsOf P acc' n
theorem once_collect {Q:List Value → Shared → Prop} (K:Once prog w T r fp n P St) (hh:A.handled = none) (st:St 0 s.heap) (hfp:∀ b ∈ fp,b < s.heap.objs.size) (hn:n ≤ sizeLine)
    (hQ:∀ h' tk acc',(∀ b o,b ≠ r → s.heap.get? b = some o → h'.get? b = some o) → (∃ u,h'.get? r = some u) → ItemsOf P acc' n → Q acc'.toList { s with heap:=h',toks:=tk }) :
    wpAny (model prog w) A (collect (.ref r)) Q E s:=by
  unfold collect
  refine wpAny_bind (wpAny_runValue (codeAny_mono (codeAny_builtin (R:=ColR s r n P) PySem.F.entry_proto_collect ?_) fun r1 s1 hr=>?_))
  · rw [Around.under_plainId PySem.F.plain_proto_collect _]
    show wpAny _ A.in1 (newList [] >>= fun l=>again (.builtin "list.__iadd__" ⟨[l,.ref r],[]⟩)) _ _ s
    refine wpAny_bind (wpAny_newObj_type ?_)
    refine wpAny_pure ⟨plainId_quiet PySem.F.plain_list_iadd _,codeAny_builtin PySem.F.entry_list_iadd ?_⟩
    rw [Around.under_plainId PySem.F.plain_list_iadd _]
    show wpAny _ A.in1 (Builtin.List.listExtendWith (.ref s.heap.objs.size) (.ref r) (.ref s.heap.objs.size)) _ _ _
    have hSf:s.heap.objs.size ∉ fp:=fun hm=>Nat.lt_irrefl _ (hfp _ hm)
    have hS0:(s.heap.push { cls:=.type "list",data:=.seq ([]:List Value).toArray }).get? s.heap.objs.size = some { cls:=.type "list",data:=.seq #[] }:=Heap.get?_push_size _ rfl
    refine once_extend (R:=ColR s r n P) (s:={ s with heap:=s.heap.push { cls:=.type "list",data:=.seq ([]:List Value).toArray } }) (A:=A) K hh ((K.walk A hh).frame 0 s.heap _ st fun b hb o e=>Heap.get?_push_of_some _ e) _ hSf _ 0 hS0 (fun h' tk acc' c' hk hu hS' hacc=>?_) hn
    exact ⟨h',tk,acc',c',rfl,rfl,fun b o hb e=>hk b o (Nat.ne_of_lt (Heap.lt_size e)) hb (Heap.get?_push_of_some _ e),hu,hS',hacc⟩
  · obtain ⟨h',tk,acc',c',rfl,rfl,hk,hu,hS',hacc⟩:=hr
    show wpAny _ A (load s.heap.objs.size >>= _) _ _ _
    refine wpAny_bind (wpAny_load hS' ?_)
    exact wpAny_pure (hQ h' tk acc' hk hu hacc)
end
theorem lri_end {prog:Program} {w:World} {A:Around} {E:Value → Shared → Prop} {s:Shared} {it l:Addr} {Q:Option Value → Shared → Prop} (hh:A.handled = none) (hit:s.heap.IsRevIter it l (-1))
    (hQ:∀ h',(∀ b o,s.heap.get? b = some o → h'.get? b = some o) → Q none { s with heap:=h' }):wpAny (model prog w) A (pyNext (.ref it)) Q E s:=by
  obtain ⟨o,ho,hc,hd⟩:=id hit
  unfold pyNext
  refine wpAny_bind (wpAny_attempt (wpAny_callSpecial?_slot (name:=Str.ofString "__next__") hit.typeIs PySem.F.slot_lri_next (wpAny_call_entry PySem.F.slot_lri_next hit.typeIs PySem.F.entry_lri_next ?_ (PySem.F.args_lri_next_1 _))))
  unfold Builtin.«list_reverseiterator.__next__»
  refine wpAny_bind (wpAny_of_eq (a:=(Value.ref it,[])) rfl ?_)
  try dsimp only
  refine wpAny_bind (wpAny_field ho hd (x:=rawInt (-1)) rfl ?_)
  show wpAny _ _ (if (-1:Int) < 0 then _ else _) _ _ s
  rw [if_pos (by decide)]
  refine wpAny_bind (wpAny_rule ?_)
  first
  | show wpAny _ _ (newExc (.type "StopIteration") [] >>= _) _ _ _
  | (refine wpAny_bind ?_; show wpAny _ _ (newExc (.type "StopIteration") [] >>= _) _ _ _)
  refine wpAny_bind ?_
  simp only [newExc,newTuple]
  refine wpAny_bind (wpAny_newObj_type ?_ (by size_fits))
  refine wpAny_bind (m:=firstArgMember _ _) (wpAny_of_eq (a:=Value.none) (by first | rfl | (simp only [firstArgMember]; rfl)) ?_)
  refine wpAny_newObj_type ?_ (by size_fits)
  simp only [raiseNew]
  refine wpAny_bind (wpAny_handled ?_)
  first | rw [show A.in1.handled = none from hh] | rw [hh]
  refine wpAny_bind (wpAny_pure (wpAny_throw ?_))
  refine wpAny_bind (wpAny_isInstance (T:="StopIteration") (b:=true) ⟨_,Heap.get?_push_size _ rfl,rfl⟩ isSubtype_stop ?_)
  exact wpAny_pure (hQ _ fun b o e=>Heap.get?_push_of_some _ (Heap.get?_push_of_some _ e))
def rvdObj (x:Str) (t:Tok) (i:Int):Obj:={ cls:=.type "reversed",data:=.fields #[.str x t,rawInt i] }
def IsRvd (h:Heap) (a:Addr) (x:Str) (t:Tok) (i:Int):Prop:=∃ o,h.get? a = some o ∧ o.cls = .type "reversed" ∧ o.data = .fields #[.str x t,rawInt i]
section
variable {prog:Program} {w:World} {A:Around} {E:Value → Shared → Prop} {s:Shared} {x:Str} {t:Tok}
theorem IsRvd.type {a:Addr} {i:Int} (h:IsRvd s.heap a x t i):s.TypeIs (.ref a) "reversed":=let ⟨o,ho,hc,_⟩:=h; ⟨o,ho,hc⟩
theorem IsRvd.at {h h':Heap} {a:Addr} {i:Int} (z:IsRvd h a x t i) (e:∀ o,h.get? a = some o → h'.get? a = some o):IsRvd h' a x t i:=let ⟨o,ho,r⟩:=z; ⟨o,e _ ho,r⟩
theorem rvd_new {Q₁:Value → Shared → Prop} (hx:x.length ≤ sizeLine)
    (h:∀ tk,Q₁ (.ref s.heap.objs.size) { s with heap:=s.heap.push (rvdObj x t ((x.length:Int) - 1)),toks:=tk }) :
    codeAny (model prog w) A (.call (.builtin "reversed.__new__") ⟨[.type "reversed",.str x t],[]⟩) (wants Q₁ E) s:=by
  have hn:=line63
  refine codeAny_of_tree ?_
  show wpAny _ A.in1 (do checkBuiltinCall "reversed.__new__" ⟨[.type "reversed",.str x t],[]⟩; again (.builtin "reversed.__new__" ⟨[.type "reversed",.str x t],[]⟩)) _ _ s
  refine wpAny_bind (wpAny_of_eq (PySem.F.newCall_reversed_1 _) (wpAny_pure ⟨plainId_quiet PySem.F.plain_reversed_new _,codeAny_builtin PySem.F.entry_reversed_new ?_⟩))
  rw [Around.under_plainId PySem.F.plain_reversed_new _]
  unfold Builtin.«reversed.__new__»
  refine wpAny_bind (wpAny_of_eq (newClass_reversed _) ?_)
  try dsimp only
  refine wpAny_bind (wpAny_of_eq (a:=()) (by first | rfl | kernel_rfl) ?_)
  refine wpAny_bind (wpAny_of_eq (a:=()) (by first | rfl | kernel_rfl) ?_)
  try dsimp only
  refine wpAny_bind (wpAny_specialOf (typeIs_str s x t) str_no_rev ?_)
  refine wpAny_bind ?_
  show wpAny _ _ (isInstance (.str x t) (.type "dict") >>= _) _ _ _
  refine wpAny_bind (wpAny_isInstance (T:="str") (v:=.str x t) (b:=false) rfl (by rw [isSubtype_type]; kernel_rfl) ?_)
  show wpAny _ _ (specialOf (.str x t) "__getitem__" >>= _) _ _ _
  refine wpAny_bind (wpAny_specialOf (typeIs_str s x t) slot_str_getitem.lookup ?_)
  refine wpAny_of_eq (a:=true) (by first | rfl | kernel_rfl) ?_
  show wpAny _ _ (call (Value.builtin "len") [Value.str x t] >>= _) _ _ _
  refine wpAny_bind (len_str (by omega) ?_)
  refine wpAny_bind (wpAny_of_eq (a:=some (x.length:Int)) (by first | rfl | kernel_rfl) ?_)
  refine wpAny_bind ?_
  show wpAny _ _ (newObj (.type "reversed") (.fields #[Value.str x t,rawInt ((x.length:Int) - 1)])) _ _ _
  refine wpAny_newObj_type ?_
  exact wpAny_pure (h _)
theorem rvd_call {Q:Value → Shared → Prop} (hx:x.length ≤ sizeLine)
    (h:∀ tk,Q (.ref s.heap.objs.size) { s with heap:=s.heap.push (rvdObj x t ((x.length:Int) - 1)),toks:=tk }):wpAny (model prog w) A (call (.type "reversed") [.str x t]) Q E s:=by
  refine callType_codes (Q₁:=fun obj s₁=>obj = .ref s.heap.objs.size ∧ ∃ tk,s₁ = { s with heap:=s.heap.push (rvdObj x t ((x.length:Int) - 1)),toks:=tk }) rvd_called (PySem.F.typeCall_reversed_1 _) PySem.F.entry_object_init (rvd_new hx fun tk=>⟨rfl,tk,rfl⟩) fun obj s₁ h₁=>?_
  obtain ⟨rfl,tk,rfl⟩:=h₁
  have hT:Shared.TypeIs { s with heap:=s.heap.push (rvdObj x t ((x.length:Int) - 1)),toks:=tk } (.ref s.heap.objs.size) "reversed":=⟨_,Heap.get?_push_size _ rfl,rfl⟩
  exact ⟨hT,PySem.F.args_object_init_2 _ _,object_init_meets rvd_called.init.lookup rvd_called.made (by decide) prog w A.in1 _ _ ⟨hT,rfl,h tk⟩⟩
theorem seqIndex_nat {i n:Nat} (h:i < n):seqIndex? (i:Int) n = some i:=by
  unfold seqIndex?
  simp
  omega
theorem rvd_item {it:Addr} {i:Nat} {c:Nat} {Q:Option Value → Shared → Prop} (hit:IsRvd s.heap it x t (i:Int)) (hx:x.length ≤ sizeLine) (hc:x.cps[i]? = some c)
    (hQ:∀ h' u tk,IsRvd h' it x t ((i:Int) - 1) → Heap.SameBut it s.heap h' → Q (some (.str ⟨#[c]⟩ u)) { s with heap:=h',toks:=tk }):wpAny (model prog w) A (pyNext (.ref it)) Q E s:=by
  obtain ⟨o,ho,hcl,hd⟩:=id hit
  have hn:=line63
  have hlt:i < x.length:=(Array.getElem?_eq_some_iff.mp hc).1
  unfold pyNext
  refine wpAny_bind (wpAny_attempt (wpAny_callSpecial?_slot (name:=Str.ofString "__next__") hit.type rvd_slot_next
    (wpAny_call_entry rvd_slot_next hit.type rvd_entry_next ?_ (rvd_args_next _))))
  unfold Builtin.«reversed.__next__»
  refine wpAny_bind (wpAny_of_eq (a:=(Value.ref it,[])) rfl ?_)
  try dsimp only
  refine wpAny_bind (wpAny_field ho hd (x:=.str x t) rfl ?_)
  refine wpAny_bind (wpAny_field ho hd (x:=rawInt (i:Int)) rfl ?_)
  show wpAny _ _ (if (i:Int) < 0 then _ else _) _ _ s
  rw [if_neg (by omega)]
  show wpAny _ _ (specialOf (.str x t) "__getitem__" >>= _) _ _ _
  refine wpAny_bind (wpAny_specialOf (typeIs_str s x t) slot_str_getitem.lookup ?_)
  show wpAny _ _ (mkInt (i:Int) >>= _) _ _ _
  refine wpAny_bind (wpAny_mkInt ?_)
  have e1:decide ((i:Int) < -(2 ^ 63:Int)) = false:=decide_eq_false (by omega)
  have e2:decide ((i:Int) ≥ 2 ^ 63) = false:=decide_eq_false (by omega)
  refine wpAny_bind (wpAny_attempt (getItem_str (c:=c) (by rw [e1,e2,Bool.or_false]) (by rw [seqIndex_nat hlt]; exact hc) ?_))
  show wpAny _ _ (field (Value.ref it) 1 >>= _) _ _ _
  refine wpAny_bind (wpAny_field ho hd (x:=rawInt (i:Int)) rfl ?_)
  show wpAny _ _ (setField (Value.ref it) 1 (rawInt ((i:Int) - 1)) >>= _) _ _ _
  refine wpAny_bind (wpAny_setField ho hd (by simp) ?_)
  refine wpAny_pure ⟨_,rfl,wpAny_pure (hQ _ _ _ ?_ (Heap.SameBut.update ..))⟩
  exact ⟨_,Heap.get?_update_self _ ho (Obj.isFreed_of_fields (Obj.data_mapFields hd _)),(Obj.cls_mapFields ..).trans hcl,by
    rw [Obj.data_mapFields hd]; simp⟩
theorem rvd_self {it:Addr} {i:Int} {Q:Value → Shared → Prop} (hit:IsRvd s.heap it x t i) (h:Q (.ref it) s):wpAny (model prog w) A (pyIter (.ref it)) Q E s:=by
  refine wpAny_pyIter_slot hit.type rvd_slot_iter (wpAny_call_entry rvd_slot_iter hit.type rvd_entry_iter ?_ (rvd_args_iter _))
  show wpAny _ _ (ret (.ref it)) _ _ s
  exact wpAny_pure ⟨_,rfl,"reversed",_,hit.type,rvd_slot_next.lookup,h⟩
theorem rvd_end {it:Addr} {Q:Option Value → Shared → Prop} (hh:A.handled = none) (hit:IsRvd s.heap it x t (-1))
    (hQ:∀ h',Heap.ExtBut it s.heap h' → (∃ u,h'.get? it = some u) → Q none { s with heap:=h' }):wpAny (model prog w) A (pyNext (.ref it)) Q E s:=by
  obtain ⟨o,ho,hc,hd⟩:=id hit
  unfold pyNext
  refine wpAny_bind (wpAny_attempt (wpAny_callSpecial?_slot (name:=Str.ofString "__next__") hit.type rvd_slot_next
    (wpAny_call_entry rvd_slot_next hit.type rvd_entry_next ?_ (rvd_args_next _))))
  unfold Builtin.«reversed.__next__»
  refine wpAny_bind (wpAny_of_eq (a:=(Value.ref it,[])) rfl ?_)
  try dsimp only
  refine wpAny_bind (wpAny_field ho hd (x:=.str x t) rfl ?_)
  refine wpAny_bind (wpAny_field ho hd (x:=rawInt (-1)) rfl ?_)
  show wpAny _ _ (if (-1:Int) < 0 then _ else _) _ _ s
  rw [if_pos (by decide)]
  refine wpAny_bind (wpAny_rule ?_)
  refine wpAny_bind ?_
  show wpAny _ _ (setField (.ref it) 1 (rawInt (-1)) >>= fun _=>setField (.ref it) 0 .none) _ _ _
  refine wpAny_bind (wpAny_setField ho hd (by simp) ?_)
  have ho2:=Heap.get?_update_self (Obj.mapFields fun x=>x.setIfInBounds 1 (rawInt (-1))) ho (Obj.isFreed_of_fields (Obj.data_mapFields hd _))
  refine wpAny_setField ho2 (Obj.data_mapFields hd _) (by simp) ?_
  refine wpAny_bind ?_
  have hB:Heap.ExtBut it s.heap ((s.heap.update it (Obj.mapFields fun x=>x.setIfInBounds 1 (rawInt (-1)))).update it (Obj.mapFields fun x=>x.setIfInBounds 0 Value.none)) :=
    fun b o hb e=>(Heap.get?_update_other _ _ (Ne.symm hb)).trans ((Heap.get?_update_other _ _ (Ne.symm hb)).trans e)
  have hU:=Heap.get?_update_self (Obj.mapFields fun x=>x.setIfInBounds 0 Value.none) ho2 (Obj.isFreed_of_fields (Obj.data_mapFields (Obj.data_mapFields hd _) _))
  generalize ((s.heap.update it (Obj.mapFields fun x=>x.setIfInBounds 1 (rawInt (-1)))).update it (Obj.mapFields fun x=>x.setIfInBounds 0 Value.none)) = g at hB hU ⊢
  show wpAny _ _ (newExc (.type "StopIteration") [] >>= _) _ _ _
  refine wpAny_bind ?_
  simp only [newExc,newTuple]
  refine wpAny_bind (wpAny_newObj_type ?_ (by size_fits))
  refine wpAny_bind (m:=firstArgMember _ _) (wpAny_of_eq (a:=Value.none) (by first | rfl | (simp only [firstArgMember]; rfl)) ?_)
  refine wpAny_newObj_type ?_ (by size_fits)
  simp only [raiseNew]
  refine wpAny_bind (wpAny_handled ?_)
  rw [show A.in1.handled = none from hh]
  refine wpAny_bind (wpAny_pure (wpAny_throw ?_))
  refine wpAny_bind (wpAny_isInstance (T:="StopIteration") (b:=true) ⟨_,Heap.get?_push_size _ rfl,rfl⟩ isSubtype_stop ?_)
  exact wpAny_pure (hQ _ ((hB.push _).push _) ⟨_,Heap.get?_push_of_some _ (Heap.get?_push_of_some _ hU)⟩)
theorem once_rvd {I:Addr} (hx:x.length ≤ sizeLine) :
    Once prog w "reversed" I [I] x.length (fun i v=>∃ c u,x.cps[x.length - 1 - i]? = some c ∧ v = .str ⟨#[c]⟩ u) (fun i h=>i ≤ x.length ∧ IsRvd h I x t ((x.length:Int) - 1 - (i:Int))) where
  ty:=fun s i st=>st.2.type
  nl:=by decide
  nt:=by decide
  me:=by simp
  hint:=fun A E s Q hh st hQ=>by
    have hn:=line63
    have hT:=st.2.type
    obtain ⟨o,ho,hc,hd⟩:=st.2
    unfold Builtin.List.listLengthHint
    refine wpAny_bind (wpAny_specialOf hT rvd_no_len ?_)
    show wpAny _ _ (specialOf (Value.ref I) (Str.ofString "__length_hint__") >>= _) _ _ _
    refine wpAny_bind (wpAny_specialOf hT rvd_slot_hint.lookup ?_)
    generalize hid:("reversed.__length_hint__":String) = id0
    wp_delta
    rw [show splitId id0 = some ("reversed","__length_hint__") from by subst hid; decide +kernel]
    subst hid
    refine wpAny_bind (wpAny_isInstance (T:="reversed") (b:=true) hT (by rw [isSubtype_type]; kernel_rfl) ?_)
    refine wpAny_ite_split (fun hab=>absurd hab (by decide)) (fun _=>?_)
    refine wpAny_ite_split (fun hab=>absurd hab (by decide +kernel)) (fun _=>?_)
    refine wpAny_bind (wpAny_rule ?_)
    refine wpAny_bind (wpAny_of_eq (rvd_slot_hint.bind _) ?_)
    try dsimp only
    refine wpAny_bind (wpAny_attempt (wpAny_call_entry rvd_slot_hint hT rvd_entry_hint ?_ (rvd_args_hint _)))
    unfold Builtin.«reversed.__length_hint__»
    refine wpAny_bind (wpAny_of_eq (a:=Value.ref I) rfl ?_)
    refine wpAny_bind (wpAny_field ho hd (x:=.str x t) rfl ?_)
    show wpAny _ _ (call (Value.builtin "len") [Value.str x t] >>= _) _ _ _
    refine wpAny_bind (len_str (by omega) ?_)
    refine wpAny_bind (wpAny_of_eq (a:=some (x.length:Int)) (by first | rfl | kernel_rfl) ?_)
    try dsimp only
    refine wpAny_bind (wpAny_field ho hd (x:=rawInt ((x.length:Int) - 1 - ((0:Nat):Int))) rfl ?_)
    show wpAny _ _ (if (x.length:Int) < (x.length:Int) - 1 - ((0:Nat):Int) + 1 then _ else _) _ _ _
    rw [if_neg (by omega)]
    refine wpAny_bind (wpAny_mkInt (wpAny_pure ⟨_,rfl,?_⟩))
    have hF:Builtin.List.listFitsIndex ((x.length:Int) - 1 - ((0:Nat):Int) + 1) = true:=by unfold Builtin.List.listFitsIndex; simp; omega
    have hL:Builtin.List.listTooLong ((x.length:Int) - 1 - ((0:Nat):Int) + 1).toNat = false:=by unfold Builtin.List.listTooLong; simp; omega
    show wpAny _ _ (asInt? (Value.int ((x.length:Int) - 1 - ((0:Nat):Int) + 1) _) >>= _) _ _ _
    refine wpAny_bind (wpAny_of_eq (a:=some ((x.length:Int) - 1 - ((0:Nat):Int) + 1)) (by first | rfl | kernel_rfl) ?_)
    try dsimp only
    rw [hF,hL]
    refine wpAny_ite_split (fun hab=>absurd hab (by decide)) (fun _=>?_)
    refine wpAny_ite_split (fun hab=>absurd hab (by omega)) (fun _=>?_)
    refine wpAny_ite_split (fun hab=>absurd hab (by decide)) (fun _=>?_)
    exact wpAny_pure (hQ _ _)
  walk:=fun A hh=>{
    me:=by simp
    frame:=fun i h h' st hk=>⟨st.1,st.2.at fun o e=>hk I (by simp) o e⟩
    item:=fun i s Q E hi st hQ=>by
      have e:(x.length:Int) - 1 - (i:Int) = ((x.length - 1 - i:Nat):Int):=by omega
      have hit:=st.2
      rw [e] at hit
      have hlt:x.length - 1 - i < x.cps.size:=by show _ < x.length; omega
      have hc:x.cps[x.length - 1 - i]? = some (x.cps[x.length - 1 - i]'hlt):=Array.getElem?_eq_getElem hlt
      refine rvd_item hit hx hc fun h' u tk hit' hs'=>?_
      have e2:((x.length - 1 - i:Nat):Int) - 1 = (x.length:Int) - 1 - ((i + 1:Nat):Int):=by omega
      rw [e2] at hit'
      exact hQ _ h' tk ⟨_,u,hc,rfl⟩ ⟨hi,hit'⟩ fun b o hb eo=>hs'.extBut b o hb eo
    done:=fun s Q E st hQ=>by
      have e:(x.length:Int) - 1 - (x.length:Int) = -1:=by omega
      have hit:=st.2
      rw [e] at hit
      exact rvd_end hh hit fun h' he' hu=>hQ h' s.toks (fun b o hb eo=>he' b o hb eo) hu
    self:=fun _ _ _ _ st hQ=>rvd_self st.2 hQ }
theorem once_join {T:String} {r:Addr} {fp:List Addr} {n:Nat} {P:Nat → Value → Prop} {St:Nat → Heap → Prop} {Q:Value → Shared → Prop} (K:Once prog w T r fp n P St) (hh:A.handled = none) (st:St 0 s.heap) (hfp:∀ b ∈ fp,b < s.heap.objs.size) (hn:n ≤ sizeLine)
    (hstr:∀ i v,P i v → ∃ y u,v = Value.str y u)
    (hq:∀ h' (l:List (Str × Tok)),(∀ b o,b ≠ r → s.heap.get? b = some o → h'.get? b = some o) → (∃ u,h'.get? r = some u) → ItemsOf P (strValues l).toArray n → JoinOk x (l.map (·.1)) = true ∧ ∀ t' k,Q (.str (Txt.join x (l.map (·.1))) t') { s with heap:=h',toks:=k }) :
    wpAny (model prog w) A (call (.builtin "str.join") [.str x t,.ref r]) Q E s:=by
  refine wpAny_call (codeAny_call_builtin PySem.F.slot_str_join.plain PySem.F.entry_str_join (PySem.F.slot_str_join.check _ _ _ _ _ _ _ _ (typeIs_str _ _ _) (PySem.F.args_str_join_2 _ _) ?_))
  rw [join_tree_other]
  refine wpAny_bind (wpAny_typeOf (K.ty s 0 st) ?_)
  rw [K.nl,K.nt]
  show wpAny _ A.in1 ((pyIter (.ref r)).tryCatch _ >>= fun it=>collect it >>= fun items=>joinTail x items) _ _ s
  refine wpAny_bind (wpAny_tryCatch ((K.walk A.in1 hh).self 0 s _ _ st ?_))
  refine wpAny_bind (once_collect K hh st hfp hn fun h' tk acc hk hu hacc=>?_)
  obtain ⟨l,hl⟩:=exists_strValues acc.toList fun v hv=>by
    obtain ⟨j,hj,rfl⟩:=Array.mem_iff_getElem.mp (Array.mem_toList_iff.mp hv)
    exact hstr j _ (hacc.2 j _ (Array.getElem?_eq_getElem hj))
  rw [← hl]
  have hacc':ItemsOf P (strValues l).toArray n:=by rw [hl]; simpa using hacc
  obtain ⟨hok,hpost⟩:=hq h' l hk hu hacc'
  unfold JoinOk at hok
  rw [Bool.not_eq_true'] at hok
  have g:Gives (joinTail x (strValues l)) (joinMade x l):=by
    have g0:=gives_joinTail x l hok
    cases l with
    | nil=>exact g0
    | cons p q=>cases q with
      | nil=>exact g0
      | cons q q'=>exact g0
  exact g prog w A (wants Q E) _ (post_join l ⟨joinFit_length hok,hpost⟩)
end
end L2

namespace L2
open PySem PySem.Spec PyProof.Rows
def lriHO (p a:Addr) (n:Nat):HO:=.ext fun h=>h.IsRevIter p a ((n:Int) - 1)
def rvdHO (p:Addr) (z:Str):HO:=.ext fun h=>∃ t,IsRvd h p z t ((z.length:Int) - 1)
def goneHO (p:Addr):HO:=.ext fun h=>∃ o,h.get? p = some o
section
variable {X:Cx} {pins:List (Addr × Obj)} {σ:List (Option V)} {H:Hp} {s:Shared}
theorem Inv.spent {p:Addr} {h':Heap} {t':Nat} (I:Inv X pins σ H s) (mu:Mut (H p)) (k:∀ b u,b ≠ p → s.heap.get? b = some u → h'.get? b = some u) (hp:∃ u,h'.get? p = some u) :
    Inv X pins σ (upd H p (goneHO p)) { s with heap:=h',toks:=t' } :=
  I.write mu (.inl rfl) k hp ⟨hp,hp,fun h1 h2 z f=>let ⟨o,e⟩:=z; ⟨o,f o e⟩⟩
def rRevU (K:PySem.W.Frag):List V → Hp → VK → Prop:=fun vs H Q=>match vs with
  | [.ref a]=>∃ xs,SqL K H a xs ∧ ∀ p,H p = none → Q (.ref p) (upd H p (lriHO p a xs.length))
  | [.str z]=>z.length ≤ sizeLine ∧ ∀ p,H p = none → Q (.ref p) (upd H p (rvdHO p z))
  | _=>False
theorem k_rev {K:PySem.W.Frag} (hK:X.K = K:=by rfl):CallR X (.type "reversed") (rRevU K):=by
  subst hK
  intro pins s σ H vs us Q I r h
  match vs,r,h with
  | [.ref a],r,h =>
    obtain ⟨xs,hq,q⟩:=h
    obtain ⟨u,rfl,rx⟩:=vals1 r
    cases rx
    obtain ⟨its,rv,pl,hz⟩:=I.list hq
    have hlen:=rv.length
    refine call_reversed_list pl.isList ?_
    have e:((its.toArray.size:Nat):Int) - 1 = (xs.length:Int) - 1:=by simp; omega
    rw [e]
    exact ⟨.ref _,_,I.laid (t':=s.toks) (o:=lriHO s.heap.objs.size a xs.length) (fun b o e=>Heap.get?_push_of_some _ e) (Nat.le_refl _) ⟨⟨_,Heap.get?_push_size _ rfl,rfl,rfl⟩,⟨_,Heap.get?_push_size _ rfl⟩,fun h1 h2 z f=>z.at f⟩,rfl,q _ I.fresh⟩
  | [.str z],r,h =>
    obtain ⟨hz,q⟩:=h
    obtain ⟨u,rfl,rx⟩:=vals1 r
    obtain ⟨t,rfl⟩:=rx
    refine rvd_call hz fun tk=>?_
    exact ⟨.ref _,_,I.laid (t':=tk) (o:=rvdHO s.heap.objs.size z) (fun b o e=>Heap.get?_push_of_some _ e) (Nat.le_refl _) ⟨⟨t,_,Heap.get?_push_size _ rfl,rfl,rfl⟩,⟨_,Heap.get?_push_size _ rfl⟩,fun h1 h2 z f=>let ⟨t,y⟩:=z; ⟨t,y.at f⟩⟩,rfl,q _ I.fresh⟩
def rListR (K:PySem.W.Frag):List V → Hp → VK → Prop:=fun vs H Q=>match vs with
  | [.ref p]=>(∃ a xs,H p = some (lriHO p a xs.length) ∧ a ≠ p ∧ SqL K H a xs ∧ ∀ l,upd H p (goneHO p) l = none → Q (.ref l) (upd (upd H p (goneHO p)) l (.lst xs.reverse))) ∨
      ∃ z,H p = some (rvdHO p z) ∧ z.length ≤ sizeLine ∧ ∀ l,upd H p (goneHO p) l = none → Q (.ref l) (upd (upd H p (goneHO p)) l (.lst (signsV z).reverse))
  | _=>False
def backsS (z:Str):List Str:=(z.cps.toList.map fun c=>(⟨#[c]⟩:Str)).reverse
def joinRM:V → List V → Hp → VK → Prop:=fun x vs H Q=>match x,vs with
  | .str y,[.ref p]=>∃ z:Str,H p = some (rvdHO p z) ∧ z.length + z.length * y.length ≤ 16777216 ∧ Q (.str (Str.join y (backsS z))) (upd H p (goneHO p))
  | _,_=>False
theorem mt_joinRM (hc:X.calm = true):MtR X "str.join" joinRM:=by
  intro pins s σ H x vs v us Q I rx rv h
  match x,vs,rx,rv,h with
  | .str y,[.ref p],rx,rv,h =>
    obtain ⟨z,hp,hz,q⟩:=h
    obtain ⟨t,rfl⟩:=rx
    obtain ⟨u,rfl,ru⟩:=vals1 rv
    cases ru
    have hok:ObjOk X.prog X.w H s.heap p (rvdHO p z):=I.hok p _ hp
    obtain ⟨t',hit⟩:∃ t,IsRvd s.heap p z t ((z.length:Int) - 1):=hok.1
    have hpl:p < s.heap.objs.size:=hok.lt
    have mu:Mut (H p):=by rw [hp]; trivial
    have st:0 ≤ z.length ∧ IsRvd s.heap p z t' ((z.length:Int) - 1 - ((0:Nat):Int)):=⟨Nat.zero_le _,by simpa using hit⟩
    have hzl:z.length ≤ sizeLine:=by rw [sizeLine_eq]; omega
    refine once_join (once_rvd (I:=p) hzl) (I.ok.hd hc) st (fun b hb=>by rw [List.mem_singleton.mp hb]; exact hpl) hzl (fun i v ⟨c,u,_,e⟩=>⟨_,_,e⟩) fun h' l hk hu hi=>?_
    have hl:l.map (·.1) = backsS z:=by
      have hll:l.length = z.length:=by have:=hi.1; simpa [strValues] using this
      refine List.ext_getElem? fun j=>?_
      by_cases hj:j < z.length
      · have hjl:j < l.length:=by omega
        obtain ⟨c,u,e1,e2⟩:=hi.2 j (.str l[j].1 l[j].2) (by simp [strValues,List.getElem?_eq_getElem hjl])
        have e3:l[j].1 = (⟨#[c]⟩:Str):=by injection e2
        have hzc:z.cps.size = z.length:=rfl
        rw [List.getElem?_map,List.getElem?_eq_getElem hjl]
        unfold backsS
        rw [List.getElem?_reverse (by simp; omega),List.getElem?_map]
        simp only [List.length_map,Array.length_toList,hzc]
        rw [Array.getElem?_toList,e1]
        simp [e3]
      · have hzc:z.cps.size = z.length:=rfl
        rw [List.getElem?_eq_none (by simp; omega),List.getElem?_eq_none (by simp [backsS]; omega)]
    rw [hl]
    have hJ:JoinOk y (backsS z) = true:=by
      unfold JoinOk
      rw [Bool.not_eq_true']
      unfold Builtin.Str.tooLong
      rw [StrLaws.joinTotal]
      have h1:((backsS z).map (·.length)).sum = z.length:=by
        have:∀ cs:List Nat,((cs.map fun c=>(⟨#[c]⟩:Str)).map (·.length)).sum = cs.length:=by
          intro cs
          induction cs with
          | nil=>rfl
          | cons a r ih=>simp only [List.map_cons,List.sum_cons,List.length_cons,ih]; show 1 + _ = _; omega
        unfold backsS
        rw [List.map_reverse,List.sum_reverse,this]
        simp [Str.length]
      have h2:(backsS z).length = z.length:=by simp [backsS,Str.length]
      rw [h1,h2]
      simp [sizeLine_eq]
      omega
    exact ⟨hJ,fun t2 k=>⟨.str _,_,I.spent (t':=k) mu hk hu,⟨t2,by rw [eq_of_beq (join_closes (ys:=backsS z) (rfl:y = y))]⟩,q⟩⟩
theorem boot_reversed':bootBuiltins "reversed" = some (.type "reversed"):=by decide +kernel
end
end L2
namespace L3
open PySem PySem.Spec
open L2 hiding Rep RepL
open Mi (Dt Xn R okR bindR optR bindR_ok bindR_none bindR_err optR_some optR_none Rh Sl Ro EM TM AM FM IM SM OM Tg Out bindT setsH setsO full frz frz1 frzAt)
section
variable [Kc] {mg:Str → Option Value} {E:XK} {L n k l:Nat} {te ta tb:TE} {e ea eb ma:EM} {t:TA} {m:AM}
theorem same_gone {H:Hp} {p:Addr} (h:H p = none) (o u:HO):L2.Same H (upd (upd H p o) p u):=fun b w q=>by
  have hb:b ≠ p:=fun z=>by rw [z,h] at q; cases q
  rw [upd_ne hb,upd_ne hb]; exact q
theorem backs_join (z:Str):Str.join ⟨#[]⟩ (backsS z) = (⟨z.cps.reverse⟩:Str):=by
  have key:∀ cs:List Nat,Str.join ⟨#[]⟩ (cs.map fun c=>(⟨#[c]⟩:Str)) = (⟨cs.toArray⟩:Str):=by
    intro cs
    induction cs with
    | nil=>rfl
    | cons a r ih =>
      cases r with
      | nil=>rfl
      | cons b q =>
        show (⟨#[a]⟩:Str) ++ ⟨#[]⟩ ++ Str.join ⟨#[]⟩ ((b :: q).map fun c=>(⟨#[c]⟩:Str)) = _
        rw [ih]
        show (⟨(#[a] ++ #[]) ++ (b :: q).toArray⟩:Str) = _
        congr 1
        simp
  unfold backsS
  rw [← List.map_reverse,key]
  congr 1
  rw [← Array.toList_reverse,Array.toArray_toList]
theorem de_joinR (A:DE mg E te e k) (B:DA mg E t m 0):DE mg E (tBM Kc.K "str" joinRM te (tCons (tCB (rRevU Kc.K) t) tNil)) (Mi.eMt Mi.joinRD e m) n:=by
  intro G H σ ρ Q s w p
  refine (de_frz A).step errE s w p fun d v G1 H1 S _ fr o p1=>?_
  cases d with
  | str y =>
    cases (show v = .str y from o)
    refine ⟨rfl,?_⟩
    have p2:PostE mg E G H n (bindR (m ρ) fun xs=>optR (Mi.joinRD (.str y) xs)) Q:=p1
    refine B.step (errE.from fr.ext) fr.ext.in' (w.mono fr.ext.g) p2 fun ds vs G2 H2 S2 T2 _ fr2 o2 p3=>?_
    have p4:=PostE.from p3 (fr.ext.trans fr2.ext)
    have r:=o2.repL
    have s1:=fr2.ext.in'
    match ds,r,p4 with
    | [.str z],r,p5 =>
      obtain ⟨x,rfl,hx⟩:=repL1 r
      cases (show x = .str z from hx)
      have p6:PostE mg E G2 H2 n (optR (@ite _ (y.length = 0 ∧ z.length ≤ 1000) (Classical.propDecidable _) (some (.str ⟨z.cps.reverse⟩)) none)) Q:=p5
      split at p6
      · rename_i hz
        have hzl:z.length ≤ sizeLine:=by rw [sizeLine_eq]; omega
        have hy:y = ⟨#[]⟩:=by
          obtain ⟨c⟩:=y
          have:c.size = 0:=hz.1
          rw [Array.eq_empty_of_size_eq_zero this]
        subst hy
        refine ⟨hzl,fun q hq=>⟨z,upd_same,?_,?_⟩⟩
        · show z.length + z.length * 0 ≤ _
          omega
        · rw [backs_join]
          exact PostE.val (show PostE mg E G2 H2 n (okR (.str ⟨z.cps.reverse⟩)) Q from p6) (Ext.same s1 (same_gone hq _ _)) rfl rfl
      · exact p6.elim
    | [],_,p=>exact p.elim
    | [.non],_,p=>exact p.elim
    | [.bl _],_,p=>exact p.elim
    | [.int _],_,p=>exact p.elim
    | [.lst _],_,p=>exact p.elim
    | [.tup _],_,p=>exact p.elim
    | [.scr _],_,p=>exact p.elim
    | [.exc _ _ _],_,p=>exact p.elim
    | [.ins _ _],_,p=>exact p.elim
    | [.dct _],_,p=>exact p.elim
    | x :: _ :: _,_,p=>cases x <;> exact p.elim
  | _=>exact p1.elim
end
end L3

namespace Mi
open PySem
noncomputable section
end
end Mi

namespace L3
open PySem PySem.Spec
open L2 hiding Rep RepL
open Mi (Dt Xn R okR bindR optR bindR_ok bindR_none bindR_err optR_some optR_none Rh Sl Ro EM TM AM FM IM SM OM Tg Out bindT setsH setsO full frz frz1 frzAt)
section
variable [Kc] {mg:Str → Option Value} {E:XK} {L n k l:Nat}
end
section
variable [Kc] {mg:Str → Option Value} {E:XK} {L n k l:Nat}
end
end L3

namespace Mi
open PySem
noncomputable section
def lifD (xs ds:List Dt):Option Dt:=match ds with
  | [d]=>if d.dep = 0 ∧ Dt.depL xs = 0 then (xs.findIdx? fun y=>Dt.eq y d).map fun j=>.int (j:Int) else none
  | _=>none
end
end Mi

namespace PySem
open Builtin Builtin.Str PySem.Spec
end PySem
namespace L2
open PySem PySem.Spec PyProof.Rows
section
variable {X:Cx} {pins:List (Addr × Obj)} {σ:List (Option V)} {H:Hp} {s:Shared}
def find2M:V → List V → Hp → VK → Prop:=fun x vs H Q=>match x,vs with
  | .str z,[.str y,.int n]=>∃ k:Nat,n = (k:Int) ∧ Q (.int (match Builtin.Str.occurrences z y k z.length 1 with | i :: _=>(i:Int) | []=>-1)) H
  | _,_=>False
def lifM:V → List V → Hp → VK → Prop:=fun x vs H Q=>match x,vs with
  | .ref l,[y]=>∃ xs j,H l = some (.lst xs) ∧ flatV y = true ∧ xs.all flatV = true ∧ xs.findIdx? (fun z=>eqV z y) = some j ∧ Q (.int (j:Nat)) H
  | _,_=>False
theorem find_eqU {y:V}:∀ {xs:List V} {us:List Value} {j:Nat},Vals xs us → xs.all flatV = true → xs.findIdx? (fun z=>eqV z y) = some j → us.findIdx? (eqU y) = some j
  | _,_,_,.nil,_,h=>by simp at h
  | x :: xs,u :: us,j,.cons r t,f,h=>by
    rw [List.all_cons,Bool.and_eq_true] at f
    rw [List.findIdx?_cons] at h ⊢
    rw [eqU_of r f.1]
    split at h
    · rename_i hc
      rw [if_pos hc]; exact h
    · rename_i hc
      rw [if_neg hc]
      cases e:xs.findIdx? (fun z=>eqV z y) with
      | none=>rw [e] at h; simp at h
      | some i =>
        rw [e] at h
        rw [find_eqU t f.2 e]
        exact h
theorem mt_lifM:MtR X "list.index" lifM:=by
  intro pins s σ H x vs v us Q I rx rv h
  match x,vs,rx,rv,h with
  | .ref l,[y],rx,rv,h =>
    obtain ⟨xs,j,h1,h2,h3,h5,h4⟩:=h
    cases rx
    obtain ⟨u,rfl,ru⟩:=vals1 rv
    obtain ⟨z,its,n,r,hl,e⟩:=I.lstM h1
    have hf:=find_eqU r h3 h5
    obtain ⟨a,b,c⟩:=List.findIdx?_eq_some_iff_getElem.mp hf
    have hlen:=r.length
    rw [sizeLine_eq] at z
    refine call_meets PySem.F.slot_list_index ⟨_,e,rfl⟩ PySem.F.entry_list_index (PySem.F.args_list_index_2 _ _)
      (SeqAt.list_indexAt l its.toArray n none #[] u (eqU y) j (by simpa using a) (by omega) (by simpa using b) (fun m hm hlt=>by simpa using c m hlt)) ⟨e,fun w hw=>mem_eqAt ru h2 r h3 w (by simpa using hw),?_⟩
    exact ⟨.int _,H,I.tok _,⟨_,rfl⟩,h4⟩
end
end L2
namespace L3
open PySem PySem.Spec
open L2 hiding Rep RepL
open Mi (Dt Xn R okR bindR optR bindR_ok bindR_none bindR_err optR_some optR_none Rh Sl Ro EM TM AM FM IM SM OM Tg Out bindT setsH setsO full frz frz1 frzAt)
section
variable [Kc] {mg:Str → Option Value} {E:XK} {L n k l:Nat}
theorem find_of {G:Hp} {d:Dt} {v:V} (h:Rep G d v) (hd:d.dep = 0):∀ {ds:List Dt} {vs:List V},RepL G ds vs → Dt.depL ds = 0 → vs.all flatV = true ∧ (vs.findIdx? fun z=>eqV z v) = ds.findIdx? fun y=>Dt.eq y d
  | [],_,r,_=>by cases r; exact ⟨rfl,rfl⟩
  | e :: q,_,r,hz=>by
    obtain ⟨x,t,rfl,a,b⟩:=r
    rw [Dt.depL] at hz
    obtain ⟨g1,g2⟩:=find_of h hd b (by omega)
    refine ⟨by rw [List.all_cons,flat_of a (by omega),g1]; rfl,?_⟩
    rw [List.findIdx?_cons,List.findIdx?_cons,g2,flatEq_of a h (by omega) hd]
theorem rl_indexF:RMl lifM Mi.lifD n:=by
  intro mg E G H a es ds xs vs Q s ha ra rv p
  match ds,rv,p with
  | [d],rv,p =>
    obtain ⟨x,rfl,hx⟩:=repL1 rv
    have p':PostE mg E G H n (optR (if d.dep = 0 ∧ Dt.depL es = 0 then (es.findIdx? fun y=>Dt.eq y d).map fun j=>Dt.int (j:Int) else none)) Q:=p
    split at p'
    · rename_i hz
      obtain ⟨g1,g2⟩:=find_of hx hz.1 ra hz.2
      cases e:es.findIdx? fun y=>Dt.eq y d with
      | none=>rw [e] at p'; exact p'.elim
      | some j =>
        rw [e] at p'
        refine ⟨xs,j,s _ _ ha,flat_of hx hz.1,g1,by rw [g2]; exact e,?_⟩
        exact PostE.val p' (Ext.refl s) rfl rfl
    · exact p'.elim
  | [],_,p=>exact p.elim
  | x :: _ :: _,_,p=>exact p.elim
end
end L3

namespace PySem
open Sem (wp)
section
variable {prog:Program} {w:World} {A:Around} {K:Type} [DecidableEq K] {knd:KeyKind prog w K}
end
end PySem

namespace Mi
open PySem
noncomputable section
end
end Mi

namespace L2
open PySem PySem.Spec PyProof.Rows
section
variable {X:Cx}
variable {o e:Expr} {es:List Expr} {to:TE} {t:TA} {name:Str} {apos cpos:Pos} {T id:String} {r:V → List V → Hp → VK → Prop}
end
end L2
namespace L3
open PySem PySem.Spec
open L2 hiding Rep RepL
open Mi (Dt Xn R okR bindR optR bindR_ok bindR_none bindR_err optR_some optR_none Rh Sl Ro EM TM AM FM IM SM OM Tg Out bindT setsH setsO full frz frz1 frzAt)
section
variable [Kc] {mg:Str → Option Value} {E:XK} {L n k l:Nat} {te ta tb tx td:TE} {e ea eb ex ed ma:EM} {t:TA} {m:AM}
end
end L3

namespace Mi
open PySem
noncomputable section
end
end Mi

namespace L2
open PySem PySem.Spec PyProof.Rows
section
variable {X:Cx} {pins:List (Addr × Obj)} {σ:List (Option V)} {H:Hp} {s:Shared}
end
section
variable {X:Cx}
end
end L2
namespace L3
open PySem PySem.Spec
open L2 hiding Rep RepL
open Mi (Dt Xn R okR bindR optR bindR_ok bindR_none bindR_err optR_some optR_none Rh Sl Ro EM TM AM FM IM SM OM Tg Out bindT setsH setsO full frz frz1 frzAt)
section
variable [Kc] {mg:Str → Option Value} {E:XK} {L n k l:Nat} {te ta tb:TE} {e ea eb ma:EM} {t:TA} {m:AM}
end
end L3

namespace Mi
open PySem
noncomputable section
end
end Mi

namespace L2
open PySem PySem.Spec PyProof.Rows
section
variable {X:Cx} {e m1:Expr} {te ts:TE} {pos p2:Pos}
end
end L2
namespace L3
open PySem PySem.Spec
open L2 hiding Rep RepL
open Mi (Dt Xn R okR bindR optR bindR_ok bindR_none bindR_err optR_some optR_none Rh Sl Ro EM TM AM FM IM SM OM Tg Out bindT setsH setsO full frz frz1 frzAt)
section
variable [Kc] {mg:Str → Option Value} {E:XK} {L n k l:Nat}
end
end L3

namespace Mi
open PySem
noncomputable section
end
end Mi

namespace L2
open PySem PySem.Spec PyProof.Rows
section
variable {X:Cx}
end
end L2
namespace L3
open PySem PySem.Spec PyProof.Rows
open L2 hiding Rep RepL
open Mi (Dt R Rh EM TM SM AM IM Xn Sl Ro Out okR bindR optR full frz frzAt)
section
variable [Kc] {mg:Str → Option Value} {E:XK} {n L:Nat} {te ta tb:TE} {e:EM} {m m':SM}
end
end L3

namespace Mi
open PySem
noncomputable section
end
end Mi

namespace L2
open PySem PySem.Spec PyProof.Rows
section
variable {X:Cx} {tg:Expr}
end
section
variable {prog:Program} {w:World} {A:Around} {E:Value → Shared → Prop} {s:Shared}
end
section
variable {X:Cx}
end
end L2
namespace L3
open PySem PySem.Spec
open PyProof.Rows (risingS sortedS ltCps_eq)
open L2 hiding Rep RepL
open Mi (Dt Xn R okR bindR optR bindR_ok bindR_none bindR_err optR_some optR_none Rh Sl Ro EM TM AM FM IM SM OM Tg Out bindT setsH setsO full frz frz1 frzAt)
section
variable [Kc] {mg:Str → Option Value} {E:XK} {L n k l:Nat} {t:TA} {m:AM}
end
end L3

namespace Mi
open PySem
noncomputable section
end
end Mi

namespace L3
open PySem PySem.Spec
open L2 hiding Rep RepL
open Mi (Dt Xn R okR bindR optR bindR_ok bindR_none bindR_err optR_some optR_none Rh Sl Ro EM TM AM FM IM SM OM Tg Out bindT setsH setsO full frz frz1 frzAt)
section
variable [Kc] {mg:Str → Option Value} {E:XK} {L n k l:Nat} {te:TE} {e:EM}
section
variable {G0 H0 S0:Hp} {σ:St} {ρ:Ro} {G H:Hp} {As:Nat → Addr → Prop}
end
section
variable {G0 H0 S0:Hp} {σ:St} {ρ:Ro} {G H:Hp} {As:Nat → Addr → Prop}
end
end
end L3

namespace Mi
open PySem
noncomputable section
end
end Mi

namespace L2
open PySem PySem.Spec PyProof.Rows
section
variable {X:Cx}
end
end L2
namespace L3
open PySem PySem.Spec
open L2 hiding Rep RepL
open Mi (Dt Xn R okR bindR optR bindR_ok bindR_none bindR_err optR_some optR_none Rh Sl Ro EM TM AM FM IM SM OM Tg Out bindT setsH setsO full frz frz1 frzAt)
section
variable [Kc] {mg:Str → Option Value} {E:XK} {L n k l:Nat} {te ta tb tx td:TE} {e ea eb ex ed ma:EM} {t:TA} {m:AM}
end
end L3

namespace Mi
open PySem
noncomputable section
end
end Mi

namespace L2
open PySem PySem.Spec PyProof.Rows
section
variable {prog:Program} {w:World} {A:Around} {E:Value → Shared → Prop} {s:Shared}
end
section
variable {X:Cx}
end
end L2
namespace L3
open PySem PySem.Spec
open L2 hiding Rep RepL
open Mi (Dt Xn R okR bindR optR bindR_ok bindR_none bindR_err optR_some optR_none Rh Sl Ro EM TM AM FM IM SM OM Tg Out bindT setsH setsO full frz frz1 frzAt)
section
variable [Kc] {mg:Str → Option Value} {E:XK} {L n k l:Nat}
end
end L3

namespace Mi
open PySem
noncomputable section
end
end Mi

namespace L2
open PySem PySem.Spec PyProof.Rows
section
variable {prog:Program} {w:World} {A:Around} {E:Value → Shared → Prop} {s:Shared}
end
section
variable {X:Cx} {o:Expr} {td:TE} {p apos cpos pos:Pos}
end
end L2
namespace L3
open PySem PySem.Spec
open PyProof.Rows (risingS sortedS ltCps_eq)
open L2 hiding Rep RepL
open Mi (Dt Xn R okR bindR optR bindR_ok bindR_none bindR_err optR_some optR_none Rh Sl Ro EM TM AM FM IM SM OM Tg Out bindT setsH setsO full frz frz1 frzAt)
section
variable [Kc] {mg:Str → Option Value} {E:XK} {L n k l:Nat} {te ta td:TE} {e ea ed:EM}
end
end L3

namespace Mi
open PySem
noncomputable section
end
end Mi

namespace L2
open PySem
end L2

namespace L2
open PySem PySem.Spec PyProof.Rows
section
variable {prog:Program} {w:World} {A:Around} {E:Value → Shared → Prop} {s:Shared}
end
section
variable {prog:Program} {w:World} {A:Around} {R:Result → Shared → Prop} {I:Addr} {fp wr:List Addr} {G:Array GenState → Array GenState → Prop} {n:Nat} {St:Nat → Shared → Prop} {led:Bool} {items:Array Value} {ns:List Int}
end
end L2
namespace PySem
open PyProof.Rows
end PySem

namespace L2
open PySem PySem.Spec PyProof.Rows
section
variable {prog:Program} {w:World} {A:Around} {E:Value → Shared → Prop} {s:Shared}
end
section
variable {X:Cx} {pins:List (Addr × Obj)} {σ:List (Option V)} {H:Hp} {s:Shared}
end
end L2
namespace L3
open PySem PySem.Spec
open L2 hiding Rep RepL
open Mi (Dt Xn R okR bindR optR bindR_ok bindR_none bindR_err optR_some optR_none Rh Sl Ro EM TM AM FM IM SM OM Tg Out bindT setsH setsO full frz frz1 frzAt)
section
variable [Kc] {mg:Str → Option Value} {E:XK} {L n k l:Nat} {te ta tb:TE} {e ea eb ma:EM} {t:TA} {m:AM}
end
end L3

namespace Mi
open PySem
noncomputable section
def iZx (e:AM):IM:=fun ρ=>bindR (e ρ) fun vs=>match vs with
  | [.str a,.str b]=>@ite _ ((a.cps.all (· < 128)) = true ∧ (b.cps.all (· < 128)) = true) (Classical.propDecidable _) (okR (zipD (signsD a) (signsD b))) none
  | _=>none
def dedA {α:Type} [DecidableEq α]:List α → List α
  | []=>[]
  | a :: r=>if a ∈ r then dedA r else a :: dedA r
theorem dedA_mem {α:Type} [DecidableEq α] (x:α):∀ l:List α,x ∈ dedA l ↔ x ∈ l
  | []=>by simp [dedA]
  | a :: r=>by
    unfold dedA
    split
    · rename_i h
      rw [dedA_mem x r,List.mem_cons]
      exact ⟨.inr,fun z=>z.elim (fun e=>e ▸ h) id⟩
    · rw [List.mem_cons,List.mem_cons,dedA_mem x r]
theorem dedA_nd {α:Type} [DecidableEq α]:∀ l:List α,(dedA l).Nodup
  | []=>List.nodup_nil
  | a :: r=>by
    unfold dedA
    split
    · exact dedA_nd r
    · rename_i h
      exact List.nodup_cons.mpr ⟨fun z=>h ((dedA_mem a r).mp z),dedA_nd r⟩
theorem dedA_le {α:Type} [DecidableEq α]:∀ l:List α,(dedA l).length ≤ l.length
  | []=>Nat.le_refl _
  | a :: r=>by
    have:=dedA_le r
    unfold dedA
    split
    · simp; omega
    · simp; omega
def lsetS:List Dt → Option Dt
  | [.lst ds]=>match strsD ds with
    | some zs=>@ite _ (zs.length ≤ 1000) (Classical.propDecidable _) (some (.int (dedA zs).length)) none
    | none=>none
  | _=>none
def lsetT:List Dt → Option Dt
  | [.str z]=>@ite _ (z.length ≤ 1000) (Classical.propDecidable _) (some (.int (dedA z.cps.toList).length)) none
  | _=>none
end
end Mi

namespace L2
open PySem PySem.Spec PyProof.Rows
section
variable {prog:Program} {w:World} {A:Around} {E:Value → Shared → Prop} {s:Shared}
structure ZipX (z TI TO i1 i2:Addr):Prop where
  TIz:TI ≠ z
  TOz:TO ≠ z
  i1z:i1 ≠ z
  i2z:i2 ≠ z
  TITO:TI ≠ TO
  TIi1:TI ≠ i1
  TIi2:TI ≠ i2
  TOi1:TO ≠ i1
  TOi2:TO ≠ i2
  i12:i1 ≠ i2
theorem strIter_at {h h':Heap} {a:Addr} {ty:String} {x:Str} {t:Tok} {i:Nat} (y:h.IsStrIter a ty x t i) (k:∀ o,h.get? a = some o → h'.get? a = some o):h'.IsStrIter a ty x t i :=
  let ⟨o,ho,r⟩:=y; ⟨o,k o ho,r⟩
theorem nextOf_asc_item {it:Addr} {x:Str} {t:Tok} {i c:Nat} {Q:Value → Shared → Prop} (hit:s.heap.IsStrIter it "str_ascii_iterator" x t i) (hx:x.cps[i]? = some c)
    (hQ:∀ h',h'.IsStrIter it "str_ascii_iterator" x t (i + 1) → Heap.SameBut it s.heap h' → Q (.str ⟨#[c]⟩ s.toks) { s with heap:=h',toks:=s.toks + 1 }) :
    wpAny (model prog w) A (Builtin.SmallTypes.nextOf (.ref it)) Q E s:=by
  obtain ⟨o,ho,hc,hd⟩:=id hit
  unfold Builtin.SmallTypes.nextOf
  refine wpAny_bind (wpAny_callSpecial?_slot (name:=Str.ofString "__next__") hit.typeIs PySem.F.slot_str_ascii_iterator_next (wpAny_call_entry PySem.F.slot_str_ascii_iterator_next hit.typeIs PySem.F.entry_str_ascii_iterator_next ?_ (PySem.F.args_str_ascii_iterator_next_1 _)))
  show wpAny _ _ (field (.ref it) 0 >>= _) _ _ s
  refine wpAny_bind (wpAny_field ho hd (x:=.str x t) rfl ?_)
  show wpAny _ _ (field (.ref it) 1 >>= _) _ _ s
  refine wpAny_bind (wpAny_field ho hd (x:=.int i 0) rfl ?_)
  simp only [Int.toNat_natCast,hx]
  refine wpAny_bind (wpAny_setField ho hd (by simp) (wpAny_bind (wpAny_mkStr (wpAny_pure ⟨_,rfl,wpAny_pure (hQ _ ?_ (Heap.SameBut.update ..))⟩) (by show 1 ≤ sizeLine; decide))))
  exact ⟨_,Heap.get?_update_self _ ho (Obj.isFreed_of_fields (Obj.data_mapFields hd _)),(Obj.cls_mapFields ..).trans hc,by rw [Obj.data_mapFields hd]; simp [rawInt]⟩
theorem nextOf_asc_end {it:Addr} {x:Str} {t:Tok} {i:Nat} {Q:Value → Shared → Prop} (hh:A.handled = none) (hit:s.heap.IsStrIter it "str_ascii_iterator" x t i) (hx:x.cps[i]? = none)
    (hE:∀ h' e,Heap.ExtBut it s.heap h' → (∃ o,h'.get? e = some o ∧ o.cls = .type "StopIteration") → E (.ref e) { s with heap:=h' }) :
    wpAny (model prog w) A (Builtin.SmallTypes.nextOf (.ref it)) Q E s:=by
  obtain ⟨o,ho,hc,hd⟩:=id hit
  unfold Builtin.SmallTypes.nextOf
  refine wpAny_bind (wpAny_callSpecial?_slot (name:=Str.ofString "__next__") hit.typeIs PySem.F.slot_str_ascii_iterator_next (wpAny_call_entry PySem.F.slot_str_ascii_iterator_next hit.typeIs PySem.F.entry_str_ascii_iterator_next ?_ (PySem.F.args_str_ascii_iterator_next_1 _)))
  show wpAny _ _ (field (.ref it) 0 >>= _) _ _ s
  refine wpAny_bind (wpAny_field ho hd (x:=.str x t) rfl ?_)
  show wpAny _ _ (field (.ref it) 1 >>= _) _ _ s
  refine wpAny_bind (wpAny_field ho hd (x:=.int i 0) rfl ?_)
  simp only [Int.toNat_natCast,hx]
  refine wpAny_bind (wpAny_rule (wpAny_bind (wpAny_setField ho hd (by simp) (wpAny_bind (wpAny_letGo ?_)))))
  show wpAny _ _ (newExc (.type "StopIteration") [] >>= _) _ _ _
  refine si_stop hh fun x h' _ hk hx=>?_
  exact hE h' x (fun b o' hb e=>hk b o' ((Heap.get?_update_other _ _ (Ne.symm hb)).trans e)) hx
theorem zipx_next_item {z TI TO i1 i2:Addr} {k1 k2 c1 c2:Nat} {x1 x2:Str} {t1 t2:Tok} {a b:Value} {Q:Value → Shared → Prop} (D:ZipX z TI TO i1 i2)
    (hz:IsZip s.heap z TI TO .none) (hTI:IsPair s.heap TI (.ref i1) (.ref i2)) (hTO:IsPair s.heap TO a b)
    (h1:s.heap.IsStrIter i1 "str_ascii_iterator" x1 t1 k1) (h2:s.heap.IsStrIter i2 "str_ascii_iterator" x2 t2 k2) (hx:x1.cps[k1]? = some c1) (hy:x2.cps[k2]? = some c2)
    (hQ:∀ h',IsZip h' z TI TO (rawInt s.heap.objs.size) → IsPair h' TO (.str ⟨#[c1]⟩ s.toks) (.str ⟨#[c2]⟩ (s.toks + 1)) → h'.IsStrIter i1 "str_ascii_iterator" x1 t1 (k1 + 1) → h'.IsStrIter i2 "str_ascii_iterator" x2 t2 (k2 + 1) → IsPair h' s.heap.objs.size (.str ⟨#[c1]⟩ s.toks) (.str ⟨#[c2]⟩ (s.toks + 1)) → h'.objs.size = s.heap.objs.size + 1 →
      (∀ c o,c ≠ z → c ≠ TO → c ≠ i1 → c ≠ i2 → s.heap.get? c = some o → h'.get? c = some o) → Q (.ref s.heap.objs.size) { s with heap:=h',toks:=s.toks + 1 + 1 }) :
    wpAny (model prog w) A (Builtin.«zip.__next__» ⟨[.ref z],[]⟩) (fun fin s'=>∃ v,fin = .done (.ret v) ∧ Q v s') E s:=by
  show wpAny _ _ (field (.ref z) 2 >>= _) _ _ _
  refine wpAny_bind (wpAny_field hz rfl (x:=.bool false) rfl ?_)
  show wpAny _ _ (field (.ref z) 3 >>= _) _ _ _
  refine wpAny_bind (wpAny_field hz rfl (x:=.ref TI) rfl ?_)
  refine wpAny_bind (wpAny_seqItems hTI rfl ?_)
  show wpAny _ _ (Builtin.SmallTypes.ownedTupleIsFree (.ref z) >>= _) _ _ _
  refine wpAny_bind ?_
  unfold Builtin.SmallTypes.ownedTupleIsFree
  refine wpAny_bind (wpAny_field hz rfl (x:=.none) rfl (wpAny_pure ?_))
  simp only [if_true]
  refine wpAny_bind (wpAny_rule ?_)
  refine wpAny_bind (wpAny_field hz rfl (x:=.ref TO) rfl ?_)
  refine wpAny_bind (wpAny_setField_rec hz (by simp) fun h₁ hz₁ hs₁=>?_)
  replace hz₁:IsZip h₁ z TI TO .ellipsis:=hz₁
  refine wpAny_bind ?_
  simp only [List.zipIdx_cons,List.zipIdx_nil,List.forIn_cons,List.forIn_nil]
  refine wpAny_bind (wpAny_bind (wpAny_onRaise ?_))
  show wpAny _ _ (Builtin.SmallTypes.nextOf (.ref i1) >>= _) _ _ _
  refine wpAny_bind (nextOf_asc_item (h1.extBut hs₁.extBut D.i1z) hx fun h₂ h1₂ hs₂=>wpAny_pure ?_)
  have hTO₂:IsPair h₂ TO a b:=hs₂.extBut _ _ D.TOi1 (hs₁.extBut _ _ D.TOz hTO)
  refine wpAny_bind (wpAny_seqItems hTO₂ rfl ?_)
  refine wpAny_bind (wpAny_updateSeq_pair hTO₂ fun h₃ hTO₃ hs₃=>?_)
  replace hTO₃:IsPair h₃ TO (.str ⟨#[c1]⟩ s.toks) b:=hTO₃
  refine wpAny_bind (wpAny_letGo (wpAny_pure ?_))
  refine wpAny_bind (wpAny_bind (wpAny_onRaise ?_))
  show wpAny _ _ (Builtin.SmallTypes.nextOf (.ref i2) >>= _) _ _ _
  refine wpAny_bind (nextOf_asc_item (((h2.extBut hs₁.extBut D.i2z).extBut hs₂.extBut D.i12.symm).extBut hs₃.extBut D.TOi2.symm) hy fun h₄ h2₄ hs₄=>wpAny_pure ?_)
  have hTO₄:IsPair h₄ TO (.str ⟨#[c1]⟩ s.toks) b:=hs₄.extBut _ _ D.TOi2 hTO₃
  refine wpAny_bind (wpAny_seqItems hTO₄ rfl ?_)
  refine wpAny_bind (wpAny_updateSeq_pair hTO₄ fun h₅ hTO₅ hs₅=>?_)
  replace hTO₅:IsPair h₅ TO (.str ⟨#[c1]⟩ s.toks) (.str ⟨#[c2]⟩ (s.toks + 1)):=hTO₅
  refine wpAny_bind (wpAny_letGo (wpAny_pure (wpAny_pure ?_)))
  refine wpAny_bind (wpAny_seqItems hTO₅ rfl ?_)
  refine wpAny_bind (wpAny_newTuple ?_)
  have hsz:h₅.objs.size = s.heap.objs.size:=by rw [hs₅.1,hs₄.1,hs₃.1,hs₂.1,hs₁.1]
  have hz₅:IsZip h₅ z TI TO .ellipsis:=hs₅.extBut _ _ D.TOz.symm (hs₄.extBut _ _ D.i2z.symm (hs₃.extBut _ _ D.TOz.symm (hs₂.extBut _ _ D.i1z.symm hz₁)))
  have hk₅:∀ c o,c ≠ z → c ≠ TO → c ≠ i1 → c ≠ i2 → s.heap.get? c = some o → h₅.get? c = some o:=fun c o c1 c2 c3 c4 e =>
    hs₅.extBut _ _ c2 (hs₄.extBut _ _ c4 (hs₃.extBut _ _ c2 (hs₂.extBut _ _ c3 (hs₁.extBut _ _ c1 e))))
  have h1₅:h₅.IsStrIter i1 "str_ascii_iterator" x1 t1 (k1 + 1):=((h1₂.extBut hs₃.extBut D.TOi1.symm).extBut hs₄.extBut D.i12).extBut hs₅.extBut D.TOi1.symm
  have h2₅:h₅.IsStrIter i2 "str_ascii_iterator" x2 t2 (k2 + 1):=h2₄.extBut hs₅.extBut D.TOi2.symm
  have hzlt:z < h₅.objs.size:=Heap.lt_size hz₅
  have hTOlt:TO < h₅.objs.size:=Heap.lt_size hTO₅
  have hi1lt:i1 < h₅.objs.size:=by obtain ⟨_,e,_⟩:=h1₅; exact Heap.lt_size e
  have hi2lt:i2 < h₅.objs.size:=by obtain ⟨_,e,_⟩:=h2₅; exact Heap.lt_size e
  show wpAny _ _ (Builtin.SmallTypes.ownedTupleHandOut (.ref z) (.ref h₅.objs.size) >>= _) _ _ _
  refine wpAny_bind ?_
  unfold Builtin.SmallTypes.ownedTupleHandOut
  have hz₆:IsZip (h₅.push { cls:=.type "tuple",data:=.seq #[.str ⟨#[c1]⟩ s.toks,.str ⟨#[c2]⟩ (s.toks + 1)] }) z TI TO .ellipsis:=Heap.get?_push_of_some _ hz₅
  refine wpAny_bind (wpAny_setField_rec hz₆ (by simp) fun h₇ hz₇ hs₇=>?_)
  replace hz₇:IsZip h₇ z TI TO (rawInt h₅.objs.size):=hz₇
  refine wpAny_setField_rec hz₇ (by simp) fun h₈ hz₈ hs₈=>?_
  replace hz₈:IsZip h₈ z TI TO (rawInt h₅.objs.size):=hz₈
  have up:∀ c o,c ≠ z → h₅.get? c = some o → h₈.get? c = some o:=fun c o c1 e=>hs₈.extBut _ _ c1 (hs₇.extBut _ _ c1 (Heap.get?_push_of_some _ e))
  have hT₈:IsPair h₈ h₅.objs.size (.str ⟨#[c1]⟩ s.toks) (.str ⟨#[c2]⟩ (s.toks + 1)):=hs₈.extBut _ _ (Nat.ne_of_gt hzlt) (hs₇.extBut _ _ (Nat.ne_of_gt hzlt) (Heap.get?_push_size _ rfl))
  have hz8:h₈.objs.size = h₅.objs.size + 1:=by rw [hs₈.1,hs₇.1,Heap.size_push]
  rw [hsz] at hz₈ hT₈ hz8
  refine wpAny_pure ⟨_,rfl,?_⟩
  show Q (.ref h₅.objs.size) _
  rw [hsz]
  exact hQ h₈ hz₈ (up _ _ D.TOz hTO₅) (strIter_at h1₅ fun o e=>up _ o D.i1z e) (strIter_at h2₅ fun o e=>up _ o D.i2z e) hT₈ hz8 fun c o c1 c2 c3 c4 e=>up c o c1 (hk₅ c o c1 c2 c3 c4 e)
theorem zipx_next_end {z TI TO i1 i2:Addr} {k1 k2:Nat} {x1 x2:Str} {t1 t2:Tok} {a b:Value} {Q:Fin → Shared → Prop} (hh:A.handled = none) (D:ZipX z TI TO i1 i2)
    (hz:IsZip s.heap z TI TO .none) (hTI:IsPair s.heap TI (.ref i1) (.ref i2)) (hTO:IsPair s.heap TO a b)
    (h1:s.heap.IsStrIter i1 "str_ascii_iterator" x1 t1 k1) (h2:s.heap.IsStrIter i2 "str_ascii_iterator" x2 t2 k2) (hend:x1.cps[k1]? = none ∨ x2.cps[k2]? = none)
    (hE:∀ h' e,(∀ c o,c ≠ z → c ≠ TO → c ≠ i1 → c ≠ i2 → s.heap.get? c = some o → h'.get? c = some o) → (∃ o,h'.get? e = some o ∧ o.cls = .type "StopIteration") → ∀ tk,E (.ref e) { s with heap:=h',toks:=tk }) :
    wpAny (model prog w) A (Builtin.«zip.__next__» ⟨[.ref z],[]⟩) Q E s:=by
  show wpAny _ _ (field (.ref z) 2 >>= _) _ _ _
  refine wpAny_bind (wpAny_field hz rfl (x:=.bool false) rfl ?_)
  show wpAny _ _ (field (.ref z) 3 >>= _) _ _ _
  refine wpAny_bind (wpAny_field hz rfl (x:=.ref TI) rfl ?_)
  refine wpAny_bind (wpAny_seqItems hTI rfl ?_)
  show wpAny _ _ (Builtin.SmallTypes.ownedTupleIsFree (.ref z) >>= _) _ _ _
  refine wpAny_bind ?_
  unfold Builtin.SmallTypes.ownedTupleIsFree
  refine wpAny_bind (wpAny_field hz rfl (x:=.none) rfl (wpAny_pure ?_))
  simp only [if_true]
  refine wpAny_bind (wpAny_rule ?_)
  refine wpAny_bind (wpAny_field hz rfl (x:=.ref TO) rfl ?_)
  refine wpAny_bind (wpAny_setField_rec hz (by simp) fun h₁ hz₁ hs₁=>?_)
  replace hz₁:IsZip h₁ z TI TO .ellipsis:=hz₁
  refine wpAny_bind ?_
  simp only [List.zipIdx_cons,List.zipIdx_nil,List.forIn_cons,List.forIn_nil]
  refine wpAny_bind (wpAny_bind (wpAny_onRaise ?_))
  show wpAny _ _ (Builtin.SmallTypes.nextOf (.ref i1) >>= _) _ _ _
  cases hx:x1.cps[k1]? with
  | none =>
    refine wpAny_bind (nextOf_asc_end hh (h1.extBut hs₁.extBut D.i1z) hx fun h₂ e hs₂ he=>?_)
    obtain ⟨oe,hoe,hce⟩:=he
    have hz₂:IsZip h₂ z TI TO .ellipsis:=hs₂ _ _ D.i1z.symm hz₁
    have hez:e ≠ z:=fun x=>by subst x; rw [hz₂] at hoe; cases hoe; simp at hce
    refine wpAny_setField_rec hz₂ (by simp) fun h₃ _ hs₃=>hE h₃ e (fun c o c1 _ c3 _ x=>hs₃.extBut _ _ c1 (hs₂ _ _ c3 (hs₁.extBut _ _ c1 x))) ⟨oe,hs₃.extBut _ _ hez hoe,hce⟩ _
  | some x =>
    have hy:x2.cps[k2]? = none:=by rcases hend with h | h; rw [hx] at h; cases h; exact h
    refine wpAny_bind (nextOf_asc_item (h1.extBut hs₁.extBut D.i1z) hx fun h₂ h1₂ hs₂=>wpAny_pure ?_)
    have hTO₂:IsPair h₂ TO a b:=hs₂.extBut _ _ D.TOi1 (hs₁.extBut _ _ D.TOz hTO)
    refine wpAny_bind (wpAny_seqItems hTO₂ rfl ?_)
    refine wpAny_bind (wpAny_updateSeq_pair hTO₂ fun h₃ hTO₃ hs₃=>?_)
    refine wpAny_bind (wpAny_letGo (wpAny_pure ?_))
    refine wpAny_bind (wpAny_bind (wpAny_onRaise ?_))
    show wpAny _ _ (Builtin.SmallTypes.nextOf (.ref i2) >>= _) _ _ _
    refine wpAny_bind (nextOf_asc_end hh (((h2.extBut hs₁.extBut D.i2z).extBut hs₂.extBut D.i12.symm).extBut hs₃.extBut D.TOi2.symm) hy fun h₄ e hs₄ he=>?_)
    obtain ⟨oe,hoe,hce⟩:=he
    have hz₄:IsZip h₄ z TI TO .ellipsis:=hs₄ _ _ D.i2z.symm (hs₃.extBut _ _ D.TOz.symm (hs₂.extBut _ _ D.i1z.symm hz₁))
    have hez:e ≠ z:=fun x=>by subst x; rw [hz₄] at hoe; cases hoe; simp at hce
    refine wpAny_setField_rec hz₄ (by simp) fun h₅ _ hs₅=>hE h₅ e (fun c o c1 c2 c3 c4 x=>hs₅.extBut _ _ c1 (hs₄ _ _ c4 (hs₃.extBut _ _ c2 (hs₂.extBut _ _ c3 (hs₁.extBut _ _ c1 x))))) ⟨oe,hs₅.extBut _ _ hez hoe,hce⟩ _
theorem zipx_item {z TI TO i1 i2:Addr} {k1 k2 c1 c2:Nat} {x1 x2:Str} {t1 t2:Tok} {a b:Value} {Q:Option Value → Shared → Prop} (D:ZipX z TI TO i1 i2)
    (hz:IsZip s.heap z TI TO .none) (hTI:IsPair s.heap TI (.ref i1) (.ref i2)) (hTO:IsPair s.heap TO a b)
    (h1:s.heap.IsStrIter i1 "str_ascii_iterator" x1 t1 k1) (h2:s.heap.IsStrIter i2 "str_ascii_iterator" x2 t2 k2) (hx:x1.cps[k1]? = some c1) (hy:x2.cps[k2]? = some c2)
    (hQ:∀ h',IsZip h' z TI TO (rawInt s.heap.objs.size) → IsPair h' TO (.str ⟨#[c1]⟩ s.toks) (.str ⟨#[c2]⟩ (s.toks + 1)) → h'.IsStrIter i1 "str_ascii_iterator" x1 t1 (k1 + 1) → h'.IsStrIter i2 "str_ascii_iterator" x2 t2 (k2 + 1) → IsPair h' s.heap.objs.size (.str ⟨#[c1]⟩ s.toks) (.str ⟨#[c2]⟩ (s.toks + 1)) → h'.objs.size = s.heap.objs.size + 1 →
      (∀ c o,c ≠ z → c ≠ TO → c ≠ i1 → c ≠ i2 → s.heap.get? c = some o → h'.get? c = some o) → Q (some (.ref s.heap.objs.size)) { s with heap:=h',toks:=s.toks + 1 + 1 }) :
    wpAny (model prog w) A (pyNext (.ref z)) Q E s:=by
  have hT:s.TypeIs (.ref z) "zip":=⟨_,hz,rfl⟩
  unfold pyNext
  exact wpAny_bind (wpAny_attempt (wpAny_callSpecial?_slot (name:=Str.ofString "__next__") hT F.slot_zip_next
    (wpAny_call_entry F.slot_zip_next hT F.entry_zip_next
      (zipx_next_item D hz hTI hTO h1 h2 hx hy fun h' a1 a2 a3 a4 a5 a6 a7=>wpAny_pure (hQ h' a1 a2 a3 a4 a5 a6 a7)) (F.args_zip_next_1 _))))
theorem zipx_end {z TI TO i1 i2:Addr} {k1 k2:Nat} {x1 x2:Str} {t1 t2:Tok} {a b:Value} {Q:Option Value → Shared → Prop} (hh:A.handled = none) (D:ZipX z TI TO i1 i2)
    (hz:IsZip s.heap z TI TO .none) (hTI:IsPair s.heap TI (.ref i1) (.ref i2)) (hTO:IsPair s.heap TO a b)
    (h1:s.heap.IsStrIter i1 "str_ascii_iterator" x1 t1 k1) (h2:s.heap.IsStrIter i2 "str_ascii_iterator" x2 t2 k2) (hend:x1.cps[k1]? = none ∨ x2.cps[k2]? = none)
    (hQ:∀ h',(∀ c o,c ≠ z → c ≠ TO → c ≠ i1 → c ≠ i2 → s.heap.get? c = some o → h'.get? c = some o) → ∀ tk,Q none { s with heap:=h',toks:=tk }):wpAny (model prog w) A (pyNext (.ref z)) Q E s:=by
  have hT:s.TypeIs (.ref z) "zip":=⟨_,hz,rfl⟩
  unfold pyNext
  refine wpAny_bind (wpAny_attempt (wpAny_callSpecial?_slot (name:=Str.ofString "__next__") hT F.slot_zip_next
    (wpAny_call_entry F.slot_zip_next hT F.entry_zip_next (zipx_next_end hh D hz hTI hTO h1 h2 hend fun h' e hk he tk=>?_) (F.args_zip_next_1 _))))
  obtain ⟨o,ho,hc⟩:=he
  refine wpAny_bind (wpAny_isInstance (T:="StopIteration") (b:=true) ⟨o,ho,hc⟩ isSubtype_stop ?_)
  exact wpAny_pure (hQ _ hk tk)
end
abbrev zxH1 (h:Heap) (a:Str) (t:Tok):Heap:=h.push { cls:=.type "str_ascii_iterator",data:=.fields #[.str a t,.int 0 0] }
abbrev zxH2 (h:Heap) (a b:Str) (t u:Tok):Heap:=(zxH1 h a t).push { cls:=.type "str_ascii_iterator",data:=.fields #[.str b u,.int 0 0] }
abbrev zxH3 (h:Heap) (a b:Str) (t u:Tok):Heap:=(zxH2 h a b t u).push { cls:=.type "tuple",data:=.seq #[.ref h.objs.size,.ref (zxH1 h a t).objs.size] }
abbrev zxH4 (h:Heap) (a b:Str) (t u:Tok):Heap:=(zxH3 h a b t u).push { cls:=.type "tuple",data:=.seq #[.none,.none] }
abbrev zxH5 (h:Heap) (a b:Str) (t u:Tok):Heap:=(zxH4 h a b t u).push { cls:=.type "zip",data:=.fields #[.none,.bool false,.bool false,.ref (zxH2 h a b t u).objs.size,.ref (zxH3 h a b t u).objs.size] }
set_option maxHeartbeats 3200000 in
theorem meets_zipx_new (a b:Str) (t u:Tok) (ha:a.cps.all (· < 128) = true) (hb:b.cps.all (· < 128) = true) :
    Meets (Builtin.«zip.__new__» ⟨[.type "zip",.str a t,.str b u],[]⟩) (fun _ R s=>R (.ok (.ret (.ref (zxH4 s.heap a b t u).objs.size))) { s with heap:=zxH5 s.heap a b t u }) :=
  .of_wp fun prog w A R s h=>by
    obtain ⟨hp,g,d,tk,os⟩:=s
    have hsub:=sub_zip
    wp_walk using wpAny_pyIter_ascii ha,wpAny_pyIter_ascii hb
    exact ⟨_,rfl,h⟩
section
variable {prog:Program} {w:World} {A:Around} {E:Value → Shared → Prop} {s:Shared}
theorem call_zipx {a b:Str} {t u:Tok} {Q:Value → Shared → Prop} (ha:a.cps.all (· < 128) = true) (hb:b.cps.all (· < 128) = true)
    (h:∀ h',IsZip h' (s.heap.objs.size + 4) (s.heap.objs.size + 2) (s.heap.objs.size + 3) .none → IsPair h' (s.heap.objs.size + 2) (.ref s.heap.objs.size) (.ref (s.heap.objs.size + 1)) →
      IsPair h' (s.heap.objs.size + 3) .none .none → h'.IsStrIter s.heap.objs.size "str_ascii_iterator" a t 0 → h'.IsStrIter (s.heap.objs.size + 1) "str_ascii_iterator" b u 0 →
      (∀ c o,s.heap.get? c = some o → h'.get? c = some o) → Q (.ref (s.heap.objs.size + 4)) { s with heap:=h' }) :
    wpAny (model prog w) A (call (.type "zip") [.str a t,.str b u]) Q E s:=by
  refine callType_new F.called_zip (by decide) (F.typeCall_zip_2 _ _) (F.newCall_zip_2 _ _) (fun obj=>F.args_object_init_3 obj _ _) F.entry_zip_new (meets_zipx_new a b t u ha hb) ?_
  have z1:(zxH1 s.heap a t).objs.size = s.heap.objs.size + 1:=Heap.size_push ..
  have z2:(zxH2 s.heap a b t u).objs.size = s.heap.objs.size + 2:=by rw [Heap.size_push,z1]
  have z3:(zxH3 s.heap a b t u).objs.size = s.heap.objs.size + 3:=by rw [Heap.size_push,z2]
  have z4:(zxH4 s.heap a b t u).objs.size = s.heap.objs.size + 4:=by rw [Heap.size_push,z3]
  have g5:(zxH5 s.heap a b t u).get? (zxH4 s.heap a b t u).objs.size = some _:=Heap.get?_push_size _ rfl
  have g4:(zxH5 s.heap a b t u).get? (zxH3 s.heap a b t u).objs.size = some _:=Heap.get?_push_of_some _ (Heap.get?_push_size _ rfl)
  have g3:(zxH5 s.heap a b t u).get? (zxH2 s.heap a b t u).objs.size = some _:=Heap.get?_push_of_some _ (Heap.get?_push_of_some _ (Heap.get?_push_size _ rfl))
  have g2:(zxH5 s.heap a b t u).get? (zxH1 s.heap a t).objs.size = some _:=Heap.get?_push_of_some _ (Heap.get?_push_of_some _ (Heap.get?_push_of_some _ (Heap.get?_push_size _ rfl)))
  have g1:(zxH5 s.heap a b t u).get? s.heap.objs.size = some _:=Heap.get?_push_of_some _ (Heap.get?_push_of_some _ (Heap.get?_push_of_some _ (Heap.get?_push_of_some _ (Heap.get?_push_size _ rfl))))
  show _ ∧ _
  rw [z2,z3,z4] at g5
  rw [z1,z2] at g3
  rw [z3] at g4
  rw [z1] at g2
  rw [z4]
  exact ⟨⟨_,g5,rfl⟩,h _ g5 g3 g4 ⟨_,g1,rfl,rfl⟩ ⟨_,g2,rfl,rfl⟩ fun c o x=>Heap.get?_push_of_some _ (Heap.get?_push_of_some _ (Heap.get?_push_of_some _ (Heap.get?_push_of_some _ (Heap.get?_push_of_some _ x))))⟩
end
def Itx (a b:Str):It :=
  ⟨fun i _=>i < a.cps.size ∧ i < b.cps.size,fun i H v H'=>∃ T c d,v = .ref T ∧ H T = none ∧ H' = upd H T (.tup [.str ⟨#[c]⟩,.str ⟨#[d]⟩]) ∧ a.cps[i]? = some c ∧ b.cps[i]? = some d,fun i _=>a.cps.size ≤ i ∨ b.cps.size ≤ i⟩
theorem turn_zipX {P:Program} {w:World} {K:PySem.W.Frag} {ts:List Expr} {kk:Nat} {tp:Pos} {a b:Str} {t u:Tok} {z TI TO i1 i2:Addr} (D:ZipX z TI TO i1 i2) :
    Turn P w K (.Tuple ts kk tp) (Itx a b) [z,TI,TO,i1,i2] z (fun i h=>IsZip h z TI TO .none ∧ IsPair h TI (.ref i1) (.ref i2) ∧ (∃ x y,IsPair h TO x y) ∧ h.IsStrIter i1 "str_ascii_iterator" a t i ∧ h.IsStrIter i2 "str_ascii_iterator" b u i) where
  mem:=by simp
  obj:=fun i h st c hc=>by
    obtain ⟨hz,hTI,⟨x,y,hTO⟩,h1,h2⟩:=st
    have five:c = z ∨ c = TI ∨ c = TO ∨ c = i1 ∨ c = i2:=by simpa using hc
    rcases five with e | e | e | e | e <;> subst e
    · exact ⟨_,hz,fun v q=>by cases q⟩
    · exact ⟨_,hTI,fun v q=>by cases q⟩
    · exact ⟨_,hTO,fun v q=>by cases q⟩
    · obtain ⟨o,e,_,d⟩:=h1; exact ⟨o,e,fun v q=>by rw [d] at q; cases q⟩
    · obtain ⟨o,e,_,d⟩:=h2; exact ⟨o,e,fun v q=>by rw [d] at q; cases q⟩
  keep:=fun i h h' st k=>by
    obtain ⟨hz,hTI,⟨x,y,hTO⟩,h1,h2⟩:=st
    exact ⟨k z (by simp) _ hz,k TI (by simp) _ hTI,⟨x,y,k TO (by simp) _ hTO⟩,strIter_at h1 fun o e=>k i1 (by simp) o e,strIter_at h2 fun o e=>k i2 (by simp) o e⟩
  item:=by
    intro X hP hw hK hc i pins s σ H E I hf st hg
    subst hP hw hK
    obtain ⟨hz,hTI,⟨a0,b0,hTO⟩,h1,h2⟩:=st
    have hg:i < a.cps.size ∧ i < b.cps.size:=hg
    have hx:a.cps[i]? = some (a.cps[i]'hg.1):=Array.getElem?_eq_getElem hg.1
    have hy:b.cps[i]? = some (b.cps[i]'hg.2):=Array.getElem?_eq_getElem hg.2
    refine zipx_item D hz hTI hTO h1 h2 hx hy fun h' g1 g2 g3 g4 g5 g6 g7=>?_
    refine ⟨_,rfl,wpAny_letOwnedTupleGo_zip g1 fun h'' hz'' hs''=>?_⟩
    have lt:∀ {c:Addr} {o:Obj},s.heap.get? c = some o → c < s.heap.objs.size:=fun e=>Heap.lt_size e
    have hzs:=lt hz
    have hTz:s.heap.objs.size ≠ z:=Nat.ne_of_gt hzs
    have kk':∀ c u,c ∉ [z,TI,TO,i1,i2] → s.heap.get? c = some u → h''.get? c = some u:=fun c u hc q=>by
      have c1:c ≠ z:=fun e=>hc (by simp [e])
      exact (hs''.2 c c1).trans (g7 c u c1 (fun e=>hc (by simp [e])) (fun e=>hc (by simp [e])) (fun e=>hc (by simp [e])) q)
    have hT'':=(hs''.2 _ hTz).trans g5
    refine ⟨.ref s.heap.objs.size,_,I.turnedNew (t':=s.toks + 1 + 1) (o:=.tup [.str ⟨#[a.cps[i]'hg.1]⟩,.str ⟨#[b.cps[i]'hg.2]⟩]) hf kk' (Nat.le_refl _) ⟨by show 2 ≤ sizeLine; decide,[_,_],.cons ⟨_,rfl⟩ (.cons ⟨_,rfl⟩ .nil),⟨_,hT'',rfl,_,rfl⟩⟩,rfl,
      ⟨_,_,_,rfl,I.fresh,rfl,hx,hy⟩,
      ⟨hz'',(hs''.2 _ D.TIz).trans (g7 TI _ D.TIz D.TITO D.TIi1 D.TIi2 hTI),⟨_,_,(hs''.2 _ D.TOz).trans g2⟩,strIter_at g3 fun o e=>(hs''.2 _ D.i1z).trans e,strIter_at g4 fun o e=>(hs''.2 _ D.i2z).trans e⟩,fun c hc=>?_⟩
    have hcs:c < s.heap.objs.size:=by
      have five:c = z ∨ c = TI ∨ c = TO ∨ c = i1 ∨ c = i2:=by simpa using hc
      rcases five with e | e | e | e | e <;> subst e
      · exact hzs
      · exact lt hTI
      · exact lt hTO
      · obtain ⟨o,e,_⟩:=h1; exact lt e
      · obtain ⟨o,e,_⟩:=h2; exact lt e
    rw [upd_ne (Nat.ne_of_lt hcs)]
    exact (hf c hc).1
  done:=by
    intro X hP hw hK hc i pins s σ H E I hf st hg
    subst hP hw hK
    obtain ⟨hz,hTI,⟨a0,b0,hTO⟩,h1,h2⟩:=st
    refine zipx_end (I.ok.hd hc) D hz hTI hTO h1 h2 ?_ fun h' hk tk=>⟨rfl,I.turnedL (t':=tk) hf fun c u hc q=>hk c u (fun e=>hc (by simp [e])) (fun e=>hc (by simp [e])) (fun e=>hc (by simp [e])) (fun e=>hc (by simp [e])) q⟩
    have hg:a.cps.size ≤ i ∨ b.cps.size ≤ i:=hg
    rcases hg with q | q
    · exact .inl (by simp; omega)
    · exact .inr (by simp; omega)
  self:=fun _ _ _ _ _ st h=>wpAny_pyIter_zip st.1 h
section
variable {X:Cx} {K:PySem.W.Frag}
def iZipX (tl:TA):TI:=fun σ H R=>tl σ H fun vs H1=>match vs with
  | [.str a,.str b]=>(a.cps.all (· < 128) = true ∧ b.cps.all (· < 128) = true) ∧ R (Itx a b) H1
  | _=>False
theorem pi_zipX {ts:List Expr} {kk:Nat} {tp p pos:Pos} {a b:Expr} {ta:TA} (hg:Gl X "zip") (hm:X.mg "zip" = none) (ha:PA X [a,b] ta) (hs:starEach [a,b] X.env = (false,eval a X.env) :: starEach [b] X.env:=by rfl) (hpl:(backTo pos (starEach [b] X.env)).any (·.1) = false:=by rfl) (hK:X.K = K:=by rfl) :
    PI X (.Tuple ts kk tp) (.Call (.Name "zip" p) [a,b] [] pos) (iZipX ta):=by
  subst hK
  intro pins s σ H R I h
  refine Call_ (ld_blt I hg hm boot_zip (PyProof.Rows.callWith_type1 (thn (ha pos pins s σ H _ I h) fun us s1 ⟨vs,H1,I1,r1,q1⟩=>?_) hs hpl))
  match vs,r1,q1 with
  | [.str x1,.str x2],r1,q1 =>
    obtain ⟨⟨a1,a2⟩,q⟩:=q1
    obtain ⟨u1,u2,rfl,rx,ry⟩:=vals2 r1
    obtain ⟨t1,rfl⟩:=rx
    obtain ⟨t2,rfl⟩:=ry
    refine call_zipx a1 a2 fun h' hz hTI hTO h1 h2 hk=>?_
    refine wpAny_pyIter_zip hz ?_
    have D:ZipX (s1.heap.objs.size + 4) (s1.heap.objs.size + 2) (s1.heap.objs.size + 3) s1.heap.objs.size (s1.heap.objs.size + 1):=by
      generalize s1.heap.objs.size = n
      constructor <;> intro e <;> have e':(_:Nat) = _:=e <;> omega
    refine ⟨s1.heap.objs.size + 4,[s1.heap.objs.size + 4,s1.heap.objs.size + 2,s1.heap.objs.size + 3,s1.heap.objs.size,s1.heap.objs.size + 1],_,_,H1,rfl,I1.kept (t':=s1.toks) hk,turn_zipX D,⟨hz,hTI,⟨_,_,hTO⟩,h1,h2⟩,fun c hc=>?_,q⟩
    have hc':s1.heap.objs.size ≤ c:=by
      have five:c = s1.heap.objs.size + 4 ∨ c = s1.heap.objs.size + 2 ∨ c = s1.heap.objs.size + 3 ∨ c = s1.heap.objs.size ∨ c = s1.heap.objs.size + 1:=by simpa using hc
      rcases five with e | e | e | e | e <;> rw [e] <;> first | exact Nat.le_refl _ | exact Nat.le_add_right _ _
    exact I1.fpOk hc' (I1.hok.fresh hc')
end
section
variable {X:Cx} {e m1:Expr} {te ts:TE} {pos p2:Pos}
end
end L2

namespace L2
open PySem PySem.Spec PyProof.Rows
section
variable {prog:Program} {w:World} {A:Around} {R:Result → Shared → Prop} {I:Addr} {fp wr:List Addr} {G:Array GenState → Array GenState → Prop} {n:Nat} {St:Nat → Shared → Prop} {led:Bool} {items:Array Value} {zs:List Str}
theorem loopS (W:WalksS prog w A.in1 I fp wr G items.size (fun i v=>items[i]? = some v) St) (S:Addr) (hSf:S ∉ fp) (hb:items.size + 1 < scanBound) (hval:∀ (i:Nat) (v:Value),items[i]? = some v → ∃ t,v = .str (zs.getD i ⟨#[]⟩) t) :
    ∀ (k i:Nat) (s:Shared) (ks:List Str),items.size - i = k → i ≤ items.size → St i s → SetZ prog w s.heap S led ks → ks.length ≤ i → (∀ c,c ∈ ks ↔ ∃ j,j < i ∧ c = zs.getD j ⟨#[]⟩) →
      (∀ s' ks',Moved (S :: wr) G s s' → SetZ prog w s'.heap S led ks' → (∀ c,c ∈ ks' ↔ ∃ j,j < items.size ∧ c = zs.getD j ⟨#[]⟩) → R (.ok (.ret .none)) s') →
      codeAny (model prog w) A (.builtin "set.update.loop" ⟨[.ref S,.ref I],[]⟩) R s:=by
  have hSw:S ∉ wr:=fun h=>hSf (W.sub _ h)
  have hsub:∀ b ∈ wr,b ∈ S :: wr:=fun b hb=>List.mem_cons_of_mem _ hb
  intro k
  induction k with
  | zero =>
    intro i s ks hk hi hst hS hkl hks hR
    have hin:i = items.size:=by omega
    subst hin
    refine codeAny_builtin PyProof.Rows.F.entry_set_update_loop ?_
    rw [Around.under_plainId PyProof.Rows.F.plain_set_update_loop _]
    show wpAny _ A.in1 (pyNext (.ref I) >>= _) _ _ s
    refine wpAny_bind (W.done s _ _ hst fun s' hm=>?_)
    show wpAny _ A.in1 (ret Value.none) _ _ s'
    exact wpAny_pure (hR s' ks (hm.mono hsub) (hS.at fun o ho=>hm.heap S o hSw ho) hks)
  | succ k ih =>
    intro i s ks hk hi hst hS hkl hks hR
    have hlt:i < items.size:=by omega
    refine codeAny_builtin PyProof.Rows.F.entry_set_update_loop ?_
    rw [Around.under_plainId PyProof.Rows.F.plain_set_update_loop _]
    show wpAny _ A.in1 (pyNext (.ref I) >>= _) _ _ s
    refine wpAny_bind (W.item i s _ _ hlt hst fun v s' hP hst' hm=>?_)
    obtain ⟨u,rfl⟩:=hval i v hP
    have hS':SetZ prog w s'.heap S led ks:=hS.at fun o ho=>hm.heap S o hSw ho
    show wpAny _ A.in1 (holding [Value.str (zs.getD i ⟨#[]⟩) u] (setAdd S (.str (zs.getD i ⟨#[]⟩) u)) >>= _) _ _ s'
    refine wpAny_bind (wpAny_holding ?_)
    unfold setAdd
    refine wpAny_holding ?_
    refine wpAny_bind ((strKind prog w).pyHash (k:=zs.getD i ⟨#[]⟩) (strKind_is prog w _ _) ?_)
    refine setAdd_Z (s:={ s' with toks:=s'.toks + 1 }) hS' (by omega) fun h' ks' b hsb hS2 hin hout=>?_
    have hmem:∀ x,x ∈ ks' ↔ ∃ j,j < i + 1 ∧ x = zs.getD j ⟨#[]⟩:=by
      intro x
      have step:x ∈ ks' ↔ x ∈ ks ∨ x = zs.getD i ⟨#[]⟩:=by
        by_cases h:zs.getD i ⟨#[]⟩ ∈ ks
        · rw [hin h]
          exact ⟨.inl,fun z=>z.elim id fun e=>e ▸ h⟩
        · rw [(hout h).mem_iff,List.mem_append,List.mem_singleton]
      rw [step,hks]
      constructor
      · rintro (⟨j,hj,e2⟩ | rfl)
        · exact ⟨j,by omega,e2⟩
        · exact ⟨i,by omega,rfl⟩
      · rintro ⟨j,hj,e2⟩
        by_cases hji:j = i
        · subst hji
          exact .inr e2
        · exact .inl ⟨j,by omega,e2⟩
    have hlen:ks'.length ≤ i + 1:=by
      by_cases h:zs.getD i ⟨#[]⟩ ∈ ks
      · rw [hin h]; omega
      · rw [(hout h).length_eq,List.length_append]; simp; omega
    refine wpAny_pure ⟨plainId_quiet PyProof.Rows.F.plain_set_update_loop _,ih (i + 1) _ ks' (by omega) hlt (W.frame _ s' _ _ hst' (Nat.le_succ _) fun b hb o e=>?_) hS2 hlen hmem fun s'' ks'' hm'' hS'' hk''=>?_⟩
    · rw [hsb.2 b (fun h:b = S=>hSf (by rw [← h]; exact hb))]; exact e
    · refine hR s'' ks'' (Moved.trans W.gtrans ((hm.mono hsub).then_heap (Nat.le_succ _) fun b o hb e=>?_) hm'') hS'' hk''
      rw [hsb.2 b (fun h:b = S=>hb (by rw [h]; exact List.mem_cons_self))]; exact e
end
end L2
namespace PySem
open PyProof.Rows
set_option maxHeartbeats 3200000 in
theorem setZ_call_list {prog:Program} {w:World} {A:Around} {E:Value → Shared → Prop} {s:Shared} {l:Addr} {items:Array Value} {zs:List Str} {Q:Value → Shared → Prop}
    (hh:A.handled = none) (hl:s.heap.IsList l items) (hi:StrsAre items.toList zs) (hb:items.size + 1 < scanBound)
    (h:∀ (h':Heap) (tk:Nat) (ks:List Str),L2.SetZ prog w h' s.heap.objs.size (!w.params.followText "set-order") ks → (∀ c,c ∈ ks ↔ ∃ j,j < items.size ∧ c = zs.getD j ⟨#[]⟩) →
      (∀ b o,b < s.heap.objs.size → s.heap.get? b = some o → h'.get? b = some o) → Q (.ref s.heap.objs.size) { s with heap:=h',toks:=tk }) :
    wpAny (model prog w) A (call (.type "set") [.ref l]) Q E s:=by
  obtain ⟨c,tl,hmro⟩:=F.called_set.mro
  have hmade:=F.called_set.made
  have hsub:=F.called_set.sub
  refine wpAny_call (codeAny_of_tree ?_)
  show wpAny _ _ (callAny (.type "set") _) _ _ _
  refine wpAny_pure ⟨Code.quiet_builtin _ (by decide +kernel),codeAny_builtin F.entry_type_call ?_⟩
  rw [Around.under_plain (weight_type_call_type "set" [.ref l] []) rfl]
  have h1:=F.called_set.notType
  have h2:=F.called_set.canCreate
  have hct:=F.typeCall_set_1 (.ref l)
  repeat (any_goals (first | assumption | wp_step))
  refine codeAny_mono (setZ_code_new (.ref l) (E:=E) (Q₁:=fun obj s₁=>obj = .ref s.heap.objs.size ∧ s₁ = { s with heap:=s.heap.push { cls:=.type "set",dict:=none,data:=.set #[] 0 (.fresh 0 0 (!w.params.followText "set-order")) } }) ⟨rfl,rfl⟩) fun r s₁ hr=>?_
  generalize (!w.params.followText "set-order") = led at hr h
  cases r with
  | error e=>exact hr
  | ok fl =>
    cases fl with
    | ret obj =>
      obtain ⟨rfl,rfl⟩:=hr
      have hS:(s.heap.push { cls:=.type "set",dict:=none,data:=.set #[] 0 (.fresh 0 0 led) }).get? s.heap.objs.size = some { cls:=.type "set",dict:=none,data:=.set #[] 0 (.fresh 0 0 led) }:=Heap.get?_push_size _ rfl
      have hT:Shared.TypeIs { s with heap:=s.heap.push { cls:=.type "set",dict:=none,data:=.set #[] 0 (.fresh 0 0 led) } } (.ref s.heap.objs.size) "set":=⟨_,hS,rfl⟩
      have hli:=F.called_set.init.lookup
      have hbi:=F.called_set.init.bind (.ref s.heap.objs.size)
      repeat (any_goals (first | assumption | wp_step))
      refine codeAny_mono (codeAny_call_builtin (R:=wants (fun r s₂=>r = .none ∧ ∃ h' tk ks,s₂ = { s with heap:=h',toks:=tk } ∧ L2.SetZ prog w h' s.heap.objs.size led ks ∧ (∀ c,c ∈ ks ↔ ∃ j,j < items.size ∧ c = zs.getD j ⟨#[]⟩) ∧
          (∀ b o,b < s.heap.objs.size → s.heap.get? b = some o → h'.get? b = some o)) E) F.called_set.init.plain F.entry_set_init (check_set_init_1 hT ?_)) fun r₂ s₂ hr₂=>?_
      · obtain ⟨ol,hol,hcl,nl,hdl⟩:=hl
        obtain ⟨ocls,odict,odata,oslots⟩:=ol
        simp only at hcl hdl
        subst hcl; subst hdl
        have hol':(s.heap.push { cls:=.type "set",dict:=none,data:=.set #[] 0 (.fresh 0 0 led) }).get? l = some { cls:=.type "list",dict:=odict,data:=.seq items nl,slots:=oslots }:=Heap.get?_push_of_some _ hol
        have hsls:=F.sub_list_set
        have hslf:=F.sub_list_frozenset
        have hne:(Value.type "list" == Value.type "dict") = false:=by decide
        have hl1:(s.heap.push { cls:=.type "set",dict:=none,data:=.set #[] 0 (.fresh 0 0 led) }).IsList l items:=⟨_,hol',rfl,nl,rfl⟩
        unfold Builtin.«set.__init__» noKeywords Builtin.Frozenset.updateFrom
        generalize hPI:pyIter = PI
        wp_walk
        subst hPI
        refine wpAny_pyIter_list hl1 ?_
        refine wpAny_bind (wpAny_runValue ?_)
        have hlS:l < s.heap.objs.size:=Heap.lt_size hol
        have hh3:A.in1.in1.in1.handled = none:=by simp [hh]
        have hneI:l ≠ (s.heap.push { cls:=.type "set",dict:=none,data:=.set #[] 0 (.fresh 0 0 led) }).objs.size:=by
          rw [Heap.size_push]; exact Nat.ne_of_lt (Nat.lt_succ_of_lt hlS)
        have hSf:s.heap.objs.size ∉ [(s.heap.push { cls:=.type "set",dict:=none,data:=.set #[] 0 (.fresh 0 0 led) }).objs.size,l]:=by
          rw [Heap.size_push]; simp only [List.mem_cons,List.mem_singleton,List.not_mem_nil,or_false,not_or]
          exact ⟨Nat.ne_of_lt (Nat.lt_succ_self _),Nat.ne_of_gt hlS⟩
        have hval:∀ (i:Nat) (v:Value),items[i]? = some v → ∃ t,v = .str (zs.getD i ⟨#[]⟩) t:=fun i v hv =>
          L2.strs_at hi i v (by rw [Array.getElem?_toList]; exact hv)
        refine L2.loopS (led:=led) (zs:=zs) ((Walks.list hh3 _ l hneI items).toS) s.heap.objs.size hSf hb hval (items.size - 0) 0 _ [] (by omega) (Nat.zero_le _) ⟨⟨_,Heap.get?_push_size _ rfl,rfl,rfl⟩,(hl1.push _)⟩ ?hS0 (Nat.le_refl _) (fun c=>⟨fun z=>by simp at z,fun ⟨j,hj,_⟩=>by omega⟩) ?hR
        case hS0 =>
          exact ⟨_,#[],0,_,Heap.get?_push_of_some _ hS,⟨rfl,rfl,rfl⟩,rfl,fun e he=>by simp at he,rfl,.nil,by decide,rfl,rfl,fun z=>by simp at z⟩
        case hR =>
          intro s' ks hm hS' hk
          obtain ⟨h',g',d',tk',os'⟩:=s'
          have eg:g' = s.gens:=hm.gens
          have ed:d' = s.drawn:=hm.drawn
          have eo:os' = s.os:=hm.os
          subst eg; subst ed; subst eo
          show wpAny _ _ _ _ _ _
          refine wpAny_pure ?_
          show wpAny _ _ (ret Value.none) _ _ _
          refine wpAny_pure ⟨rfl,h',tk',ks,rfl,hS',hk,fun b o hb e=>?_⟩
          have hb1:b ≠ s.heap.objs.size:=Nat.ne_of_lt hb
          have hb2:b ≠ (s.heap.push { cls:=.type "set",dict:=none,data:=.set #[] 0 (.fresh 0 0 led) }).objs.size:=by
            rw [Heap.size_push]; exact Nat.ne_of_lt (Nat.lt_succ_of_lt hb)
          exact hm.heap b o (by simp only [List.mem_cons,List.mem_singleton,List.not_mem_nil,or_false,not_or]; exact ⟨hb1,hb2⟩) (Heap.get?_push_of_some _ (Heap.get?_push_of_some _ e))
      · cases r₂ with
        | error e=>exact hr₂
        | ok fl₂ =>
          cases fl₂ with
          | ret r =>
            obtain ⟨rfl,h',tk,ks,rfl,hS',hk,hk'⟩:=hr₂
            repeat (any_goals (first | assumption | wp_step))
            exact h _ _ _ hS' hk hk'
          | _=>exact hr₂.elim
    | _=>exact hr.elim
end PySem
namespace L2
open PySem PySem.Spec PyProof.Rows
section
variable {X:Cx} {pins:List (Addr × Obj)} {σ:List (Option V)} {H:Hp} {s:Shared}
def rSetS (P:Program) (w:World):List V → Hp → VK → Prop:=fun vs H Q=>match vs with
  | [.ref l]=>∃ zs:List Str,H l = some (.lst (zs.map V.str)) ∧ zs.length ≤ 1000 ∧ ∀ a ks,H a = none → ks.Nodup → (∀ c,c ∈ ks ↔ c ∈ zs) → Q (.ref a) (upd H a (setHO P w a ks))
  | _=>False
theorem k_setS (hc:X.calm = true):CallR X (.type "set") (rSetS X.prog X.w):=by
  intro pins s σ H vs us Q I r h
  match vs,r,h with
  | [.ref l],r,h =>
    obtain ⟨zs,ha,hz,q⟩:=h
    obtain ⟨u,rfl,rx⟩:=vals1 r
    cases rx
    obtain ⟨its,rv,hl⟩:=hok_list I.hok ha
    have hi:StrsAre its zs:=strs_vals rv
    have hsz:its.length = zs.length:=by have:=rv.length; simp at this; omega
    refine setZ_call_list (items:=its.toArray) (zs:=zs) (I.ok.hd hc) hl (by simpa using hi) (by unfold scanBound; simp; omega) fun h' tk ks hS hks hk=>?_
    have hS':=hS
    obtain ⟨o,es,ep,tb,ho,hex,hd,hel,hkse,hnd,_⟩:=hS
    refine ⟨.ref _,_,I.laid (t':=tk) (o:=setHO X.prog X.w s.heap.objs.size ks) (fun b u e=>hk b u (Heap.lt_size e) e) (Nat.le_refl _) ⟨hS',⟨o,ho⟩,fun h1 h2 z f=>z.at f⟩,rfl,q _ ks (I.hok.fresh (Nat.le_refl _)) hnd fun c=>?_⟩
    rw [hks c]
    constructor
    · rintro ⟨j,hj,e1⟩
      have hj':j < zs.length:=by simpa [hsz] using hj
      rw [e1,List.getD_eq_getElem?_getD,List.getElem?_eq_getElem hj']
      exact List.getElem_mem hj'
    · intro hc'
      obtain ⟨j,hj,e1⟩:=List.getElem_of_mem hc'
      exact ⟨j,by simpa [hsz] using hj,by rw [List.getD_eq_getElem?_getD,List.getElem?_eq_getElem hj]; exact e1.symm⟩
def rLenZ (P:Program) (w:World):List V → Hp → VK → Prop:=fun vs H Q=>match vs with
  | [.ref a]=>∃ ks,H a = some (setHO P w a ks) ∧ ks.length ≤ 1000 ∧ Q (.int (ks.length:Int)) H
  | _=>False
theorem k_lenZ:CallR X (.builtin "len") (rLenZ X.prog X.w):=by
  intro pins s σ H vs us Q I r h
  match vs,r,h with
  | [.ref a],r,h =>
    obtain ⟨ks,ha,hn,q⟩:=h
    obtain ⟨u,rfl,rx⟩:=vals1 r
    cases rx
    have hok:ObjOk X.prog X.w H s.heap a (setHO X.prog X.w a ks):=I.hok a _ ha
    obtain ⟨o,es,ep,t,ho,hex,hd,hel,hks,hnd,hb,hf,_⟩:=(show SetZ X.prog X.w s.heap a (!X.w.params.followText "set-order") ks from hok.1)
    have hsz:es.size = ks.length:=by rw [← hks,List.length_map,Array.length_toList]
    refine call_len_set ho hex hd hf (by omega) ?_
    rw [hsz]
    exact ⟨.int _,H,I.kept (t':=s.toks + 1 + 1) (fun _ _ e=>e),⟨_,rfl⟩,q⟩
end
end L2
namespace L3
open PySem PySem.Spec
open L2 hiding Rep RepL
open Mi (Dt Xn R okR bindR optR bindR_ok bindR_none bindR_err optR_some optR_none Rh Sl Ro EM TM AM FM IM SM OM Tg Out bindT setsH setsO full frz frz1 frzAt)
section
variable [Kc] {mg:Str → Option Value} {E:XK} {L n k l:Nat} {te ta tb:TE} {e ea eb ma:EM} {t:TA} {m:AM}
theorem ext_new {G1 H1:Hp} {b:Addr} {o:HO} (s:Same G1 H1) (hb:H1 b = none):Ext G1 H1 G1 (upd H1 b o):=⟨Same.refl _,fun c o e=>by
    by_cases z:c = b
    · rw [z,hb] at e; cases e
    · rw [upd_ne z]; exact e,fun c o e=>by
    have e2:=s _ _ e
    by_cases z:c = b
    · rw [z,hb] at e2; cases e2
    · rw [upd_ne z]; exact e2,fun _ _=>rfl⟩
theorem one_arg {f:List Dt → Option Dt} {ρ:Rh}:(Mi.eBi f (Mi.aCons e Mi.aNil)) ρ = bindR (e ρ) fun d=>optR (f [d]):=by
  show bindR (bindR (e ρ) fun x=>bindR (okR []) fun xs=>okR (x :: xs)) (fun xs=>optR (f xs)) = _
  cases e ρ with
  | none=>rfl
  | some r=>cases r <;> rfl
theorem de_lsetS {P:Program} {w:World} (A:DE mg E te e k):DE mg E (tCB (rLenZ P w) (tCons (tCB (rSetS P w) (tCons te tNil)) tNil)) (Mi.eBi Mi.lsetS (Mi.aCons e Mi.aNil)) n:=by
  intro G H σ ρ Q s w' p
  rw [one_arg] at p
  refine (de_frz A).step errE s w' p fun d v G1 H1 S _ fr o p1=>?_
  cases d with
  | lst ds =>
    obtain ⟨a,xs,rfl,ha,hr⟩:=(show ∃ a xs,v = .ref a ∧ G1 a = some (.lst xs) ∧ RepL G1 ds xs from o)
    have p2:PostE mg E G H n (optR (match Mi.strsD ds with
      | some zs=>@ite _ (zs.length ≤ 1000) (Classical.propDecidable _) (some (.int (Mi.dedA zs).length)) none
      | none=>none)) Q:=p1
    cases hi:Mi.strsD ds with
    | none=>rw [hi] at p2; exact p2.elim
    | some zs =>
      rw [hi] at p2
      have hx:=strs_rep hi hr
      subst hx
      dsimp only at p2
      split at p2
      · rename_i hz
        refine ⟨zs,fr.ext.in' _ _ ha,hz,fun b ks hb hnd hks=>?_⟩
        have hl:ks.length = (Mi.dedA zs).length:=((List.perm_ext_iff_of_nodup hnd (Mi.dedA_nd zs)).mpr fun c=>by rw [hks c,Mi.dedA_mem]).length_eq
        refine ⟨ks,upd_same,?_,?_⟩
        · have:=Mi.dedA_le zs
          omega
        · rw [hl]
          exact PostE.val p2 (fr.ext.trans (ext_new fr.ext.in' hb)) rfl rfl
      · exact p2.elim
  | _=>exact p1.elim
theorem de_lsetT {P:Program} {w:World} (A:DE mg E te e k):DE mg E (tCB (rLenZ P w) (tCons (tCB (rSetZ P w) (tCons te tNil)) tNil)) (Mi.eBi Mi.lsetT (Mi.aCons e Mi.aNil)) n:=by
  intro G H σ ρ Q s w' p
  rw [one_arg] at p
  refine (de_frz A).step errE s w' p fun d v G1 H1 S _ fr o p1=>?_
  cases d with
  | str z =>
    cases (show v = .str z from o)
    have p2:PostE mg E G H n (optR (@ite _ (z.length ≤ 1000) (Classical.propDecidable _) (some (Dt.int (Mi.dedA z.cps.toList).length)) none)) Q:=p1
    split at p2
    · rename_i hz
      have hzl:z.length = z.cps.size:=rfl
      refine ⟨by omega,fun b ks hb hnd hks=>?_⟩
      have hl:ks.length = (Mi.dedA z.cps.toList).length:=by
        have hp:ks.Perm ((Mi.dedA z.cps.toList).map fun c=>(⟨#[c]⟩:Str)):=(List.perm_ext_iff_of_nodup hnd (sgn_inj (Mi.dedA_nd _))).mpr fun c=>by
          rw [hks c,List.mem_map]
          constructor
          · rintro ⟨d,hd,rfl⟩; exact ⟨d,(Mi.dedA_mem d _).mpr hd,rfl⟩
          · rintro ⟨d,hd,rfl⟩; exact ⟨d,(Mi.dedA_mem d _).mp hd,rfl⟩
        rw [hp.length_eq,List.length_map]
      refine ⟨ks,upd_same,?_,?_⟩
      · have:=Mi.dedA_le z.cps.toList
        simp at this
        omega
      · rw [hl]
        exact PostE.val p2 (fr.ext.trans (ext_new fr.ext.in' hb)) rfl rfl
    · exact p2.elim
  | _=>exact p1.elim
theorem itx_ok {G:Hp} (a b:Str):ItOk (Itx a b) G (Mi.zipD (Mi.signsD a) (Mi.signsD b)):=by
  intro i G1 H1 s1 s2
  rw [zipD_len]
  have l1:(Mi.signsD a).length = a.cps.size:=by simp [Mi.signsD]
  have l2:(Mi.signsD b).length = b.cps.size:=by simp [Mi.signsD]
  rw [l1,l2]
  refine ⟨fun hi=>⟨by omega,by omega⟩,fun hi=>by show _ ∨ _; omega,fun x H2 d hd hy=>?_⟩
  obtain ⟨T,c,c',rfl,hT,rfl,h1,h2⟩:=hy
  obtain ⟨p,q,g1,g2,rfl⟩:=zipD_get _ _ i d hd
  have x1:=Ext.new s2 hT (.tup [.str ⟨#[c]⟩,.str ⟨#[c']⟩])
  have e1:p = .str ⟨#[c]⟩:=by
    unfold Mi.signsD at g1
    rw [List.getElem?_map,Array.getElem?_toList,h1] at g1
    cases g1
    rfl
  have e2:q = .str ⟨#[c']⟩:=by
    unfold Mi.signsD at g2
    rw [List.getElem?_map,Array.getElem?_toList,h2] at g2
    cases g2
    rfl
  subst e1 e2
  exact ⟨_,x1,T,_,rfl,upd_same,_,_,rfl,rfl,_,_,rfl,rfl,rfl⟩
theorem di_zipX (A:DA mg E t m 0):DI mg E (iZipX t) (Mi.iZx m) false:=by
  intro G H σ ρ Q s w p
  refine A.step errI s w p fun ds vs G1 H1 S T _ fr o p1=>?_
  have r:=o.repL
  by_cases hd:∃ a b,ds = [.str a,.str b]
  · obtain ⟨a,b,rfl⟩:=hd
    obtain ⟨x,y,rfl,hx,hy⟩:=repL2 r
    cases (show x = .str a from hx)
    cases (show y = .str b from hy)
    have p2:PostI mg E G H false (@ite _ ((a.cps.all (· < 128)) = true ∧ (b.cps.all (· < 128)) = true) (Classical.propDecidable _) (okR (Mi.zipD (Mi.signsD a) (Mi.signsD b))) none) Q:=p1
    split at p2
    · rename_i hz
      exact ⟨hz,p2 _ G1 H1 fr.ext (itx_ok a b)⟩
    · exact p2.elim
  · exfalso
    match ds,p1,hd with
    | [.str xs,.str ys],_,hd=>exact hd ⟨xs,ys,rfl⟩
    | [],p,_=>exact p
    | [x],p,_=>cases x <;> exact p
    | x :: y :: z :: q,p,_=>cases x <;> cases y <;> exact p
    | [x,y],p,hd=>cases x <;> cases y <;> first | exact p | exact hd ⟨_,_,rfl⟩
end
end L3

namespace L2
open PySem
theorem uw1 {P:List Value → Prop} (h:∀ a,P [a]):∀ us:List Value,us.length = 1 → P us
  | [a],_=>h a
theorem uw2 {P:List Value → Prop} (h:∀ a b,P [a,b]):∀ us:List Value,us.length = 2 → P us
  | a :: us,hl=>uw1 (P:=fun us=>P (a :: us)) (h a) us (Nat.succ.inj hl)
theorem uw3 {P:List Value → Prop} (h:∀ a b c,P [a,b,c]):∀ us:List Value,us.length = 3 → P us
  | a :: us,hl=>uw2 (P:=fun us=>P (a :: us)) (h a) us (Nat.succ.inj hl)
theorem uw4 {P:List Value → Prop} (h:∀ a b c d,P [a,b,c,d]):∀ us:List Value,us.length = 4 → P us
  | a :: us,hl=>uw3 (P:=fun us=>P (a :: us)) (h a) us (Nat.succ.inj hl)
end L2

namespace Mp
noncomputable section
open Mi PySem
def b__law_cell:SM:=(sSeq (sSet 2 0 [] (eC (.int 0)))
  (sSeq (sIf (tB (eB (cmpD fun i j=>decide (i < j)) (eV 1) (eBi lenD (aCons (eV 0) aNil)))) (sSet 2 0 [0,1] (eB ixD (eV 0) (eV 1))) sNil)
  (sSeq (sSet 3 0 [2,1] (eB modD (eB mulD (eB addD (eB addD (eB modD (eV 2) (eC (.int 2147483647))) (eB mulD (eC (.int 7919)) (eV 1))) (eC (.int 1))) (eC (.int 48271))) (eC (.int 2147483647))))
  (sRet 0 0 [1,3] (eB modD (eB addD (eB mulD (eV 3) (eC (.int 69621))) (eV 1)) (eC (.int 2147483647)))))))
def m__law_cell:FM:=runF 2 4 b__law_cell
def b__law_whole:SM:=(sRet 0 0 [0] (eAnd (eIsi "int" (eV 0)) (eNot (eIsi "bool" (eV 0)))))
def m__law_whole:FM:=runF 1 1 b__law_whole
def b__law_shuffled:SM:=(sSeq (sSet 2 1 [0] (eBi listD (aCons (eV 0) aNil)))
  (sSeq (sSet 3 9 [] (eLst aNil))
  (sSeq (sWhile (tB (eB neD (eV 2) (eLst aNil))) (sSeq (sSet 1 0 [1] (eB modD (eB addD (eB mulD (eV 1) (eC (.int 48271))) (eC (.int 7919))) (eC (.int 2147483647))))
  (sAppPop 3 2 (eB modD (eB divD (eV 1) (eC (.int 64))) (eBi lenD (aCons (eV 2) aNil))))))
  (sRetV 9 3))))
def m__law_shuffled:FM:=runF 2 4 b__law_shuffled
def b__law_word:SM:=(sSeq (sSet 4 0 [] (eC (.str "abcdefghijklmnopqrstuvwxyz")))
  (sSeq (sSet 5 0 [0,1] (eCall m__law_cell (aCons (eV 0) (aCons (eV 1) aNil))))
  (sSeq (sSet 6 1 [2,5,3] (eB addD (eV 2) (eB modD (eV 5) (eB addD (eB subD (eV 3) (eV 2)) (eC (.int 1))))))
  (sSeq (sSet 7 1 [6,4,0,1] (eSl (eCall m__law_shuffled (aCons (eBi listXD (aCons (eV 4) aNil)) (aCons (eCall m__law_cell (aCons (eV 0) (aCons (eB addD (eV 1) (eC (.int 1))) aNil))) aNil))) oNo (oE (eV 6))))
  (sSeq (sIf (tB (eB eqD (eB modD (eB divD (eV 5) (eC (.int 64))) (eC (.int 3))) (eC (.int 0)))) (sSet 7 1 [4,6] (eBi listXD (aCons (eSl (eV 4) oNo (oE (eV 6))) aNil))) sNil)
  (sRet 0 0 [7,0,1] (eMt joinD (eC (.str "")) (aCons (eCall m__law_shuffled (aCons (eB addD (eV 7) (eV 7)) (aCons (eCall m__law_cell (aCons (eV 0) (aCons (eB addD (eV 1) (eC (.int 2))) aNil))) aNil))) aNil))))))))
def m__law_word:FM:=runF 4 8 b__law_word
def b_place_order:SM:=(sRet 0 0 [0] (eMt joinD (eC (.str "")) (aCons (eComp (iEnX (aCons (eV 0) aNil)) 2 (.tup [1,2]) (tB (eB eqD (eMt findD (eV 0) (aCons (eV 2) aNil)) (eV 1))) (eV 2)) aNil)))
def m_place_order:FM:=runF 1 1 b_place_order
def b_shifted:SM:=(sSeq (sSet 2 0 [1,0] (eB modD (eV 1) (eBi lenD (aCons (eV 0) aNil))))
  (sRet 1 1 [0,2] (eB addD (eSl (eV 0) (oE (eV 2)) oNo) (eSl (eV 0) oNo (oE (eV 2))))))
def m_shifted:FM:=runF 2 3 b_shifted
def b_form_of:SM:=(sSeq (sSet 3 1 [0,1] (eCall m_shifted (aCons (eV 0) (aCons (eV 1) aNil))))
  (sRet 0 0 [2,3] (eIf (tM (eV 2)) (eB revD (eV 3) (eU negD (eC (.int 1)))) (eV 3))))
def m_form_of:FM:=runF 3 4 b_form_of
def b_written:SM:=(sSeq (sSet 1 0 [0] (eCall m_place_order (aCons (eV 0) aNil)))
  (sRet 0 0 [0,1] (eMt joinD (eC (.str "")) (aCons (eComp (iSq (eV 0)) 1 (.one 2) Mi.tYes (eB ixD (eC (.str "abcdefghijklmnopqrstuvwxyz")) (eMt findD (eV 1) (aCons (eV 2) aNil)))) aNil))))
def m_written:FM:=runF 1 2 b_written
def b_least_writing:SM:=(sSeq (sSet 1 1 [0] (eComp (iR1 (aCons (eBi lenD (aCons (eV 0) aNil)) aNil)) 1 (.one 3) Mi.tYes (eCall m_written (aCons (eCall m_form_of (aCons (eV 0) (aCons (eV 3) (aCons (eC (.bl false)) aNil)))) aNil))))
  (sSeq (sSet 2 1 [0] (eComp (iR1 (aCons (eBi lenD (aCons (eV 0) aNil)) aNil)) 1 (.one 3) Mi.tYes (eCall m_written (aCons (eCall m_form_of (aCons (eV 0) (aCons (eV 3) (aCons (eC (.bl true)) aNil)))) aNil))))
  (sRet 0 0 [1,2] (eBi minSD (aCons (eB addD (eV 1) (eV 2)) aNil)))))
def m_least_writing:FM:=runF 1 3 b_least_writing
def b_letters_of:SM:=(sRet 0 0 [0] (eMt joinD (eC (.str "")) (aCons (eBi sosD (aCons (eV 0) aNil)) aNil)))
def m_letters_of:FM:=runF 1 1 b_letters_of
def b_letters_changed:SM:=(sRet 0 0 [2,0,1] (eMt joinD (eC (.str "")) (aCons (eComp (iSq (eCall m_letters_of (aCons (eV 0) aNil))) 1 (.one 3) Mi.tYes (eB ixD (eV 2) (eMt findD (eV 1) (aCons (eV 3) aNil)))) aNil)))
def m_letters_changed:FM:=runF 3 3 b_letters_changed
def b_compared:SM:=(sSeq (sForR (iR1 (aCons (eBi lenD (aCons (eV 0) aNil)) aNil)) 2 (sFor [] (iSq (eTup (aCons (eC (.bl false)) (aCons (eC (.bl true)) aNil)))) (.one 3) (sSeq (sSet 4 0 [0,2,3] (eCall m_form_of (aCons (eV 0) (aCons (eV 2) (aCons (eV 3) aNil)))))
  (sIf (tB (eB eqD (eCall m_written (aCons (eV 4) aNil)) (eCall m_written (aCons (eV 1) aNil)))) (sRet 1 1 [2,3,0,4,1] (eTup (aCons (eC (.str "same")) (aCons (eV 2) (aCons (eV 3) (aCons (eCall m_letters_changed (aCons (eV 0) (aCons (eV 4) (aCons (eV 1) aNil)))) aNil)))))) sNil))))
  (sRet 1 1 [0,1] (eTup (aCons (eC (.str "unlike")) (aCons (eCall m_least_writing (aCons (eV 0) aNil)) (aCons (eCall m_least_writing (aCons (eV 1) aNil)) aNil))))))
def m_compared:FM:=runF 2 5 b_compared
def b__law_moved:SM:=(sSeq (sSet 3 0 [1,0] (eB modD (eV 1) (eBi lenD (aCons (eV 0) aNil))))
  (sSeq (sSet 4 1 [0,3] (eB addD (eSl (eV 0) (oE (eV 3)) oNo) (eSl (eV 0) oNo (oE (eV 3)))))
  (sSeq (sIf (tB (eB eqD (eB modD (eB divD (eV 1) (eC (.int 32))) (eC (.int 2))) (eC (.int 1)))) (sSet 4 0 [4] (eMt joinRD (eC (.str "")) (aCons (eV 4) aNil))) sNil)
  (sSeq (sIf (tB (eB eqD (eB modD (eB divD (eV 1) (eC (.int 64))) (eC (.int 4))) (eC (.int 0)))) (sRetV 1 4) sNil)
  (sSeq (sSet 5 1 [0] (eBi sosD (aCons (eV 0) aNil)))
  (sSeq (sSet 6 9 [2] (eCall m__law_shuffled (aCons (eBi listXD (aCons (eC (.str "abcdefghijklmnopqrstuvwxyz")) aNil)) (aCons (eV 2) aNil))))
  (sSeq (sIf (tB (eB eqD (eB modD (eB divD (eV 1) (eC (.int 64))) (eC (.int 4))) (eC (.int 1)))) (sSet 6 9 [5,2] (eCall m__law_shuffled (aCons (eV 5) (aCons (eV 2) aNil)))) sNil)
  (sRet 1 1 [6,4,5] (eMt joinD (eC (.str "")) (aCons (eComp (iSq (eV 4)) 1 (.one 7) Mi.tYes (eB ixD (eV 6) (eMl lifD (eV 5) (aCons (eV 7) aNil)))) aNil))))))))))
def m__law_moved:FM:=runF 3 7 b__law_moved
def b__law_raw:SM:=(sSeq (sSet 2 0 [] (eC (.int 0)))
  (sSeq (sIf (tB (eB (cmpD fun i j=>decide (j < i)) (eBi lenD (aCons (eV 0) aNil)) (eC (.int 0)))) (sSet 2 0 [0,1] (eB ixD (eV 0) (eB modD (eV 1) (eBi lenD (aCons (eV 0) aNil))))) sNil)
  (sRet 0 0 [2] (eB modD (eV 2) (eB powD (eC (.int 10)) (eC (.int 60)))))))
def m__law_raw:FM:=runF 2 3 b__law_raw
def b__law_led:SM:=(sSeq (sIf (Mi.tOr (tNo (tM (eIsi "tuple" (eV 1)))) (Mi.tOr (tB (eB neD (eBi lenD (aCons (eV 1) aNil)) (eC (.int 4)))) (Mi.tOr (tB (eB neD (eB ixD (eV 1) (eC (.int 0))) (eC (.str "same")))) (tNo (tM (eIsi "bool" (eB ixD (eV 1) (eC (.int 2))))))))) (sRet 0 0 [] (eC .non)) sNil)
  (sSeq (sSet 2 1 [0] (eBi sosD (aCons (eV 0) aNil)))
  (sSeq (sIf (Mi.tOr (tNo (tM (eCall m__law_whole (aCons (eB ixD (eV 1) (eC (.int 1))) aNil)))) (Mi.tOr (tNo (tB (eChain (cmpD fun i j=>decide (i ≤ j)) (cmpD fun i j=>decide (i < j)) (eC (.int 0)) (eB ixD (eV 1) (eC (.int 1))) (eBi lenD (aCons (eV 0) aNil))))) (tNo (tM (eIsi "str" (eB ixD (eV 1) (eC (.int 3)))))))) (sRet 0 0 [] (eC .non)) sNil)
  (sSeq (sIf (tB (eB neD (eBi lenD (aCons (eB ixD (eV 1) (eC (.int 3))) aNil)) (eBi lenD (aCons (eV 2) aNil)))) (sRet 0 0 [] (eC .non)) sNil)
  (sSeq (sSet 3 1 [0,1] (eB addD (eSl (eV 0) (oE (eB ixD (eV 1) (eC (.int 1)))) oNo) (eSl (eV 0) oNo (oE (eB ixD (eV 1) (eC (.int 1)))))))
  (sSeq (sIf (tM (eB ixD (eV 1) (eC (.int 2)))) (sSet 3 0 [3] (eMt joinRD (eC (.str "")) (aCons (eV 3) aNil))) sNil)
  (sRet 0 0 [3,1,2] (eMt joinD (eC (.str "")) (aCons (eComp (iSq (eV 3)) 1 (.one 4) Mi.tYes (eB ixD (eB ixD (eV 1) (eC (.int 3))) (eMl lifD (eV 2) (aCons (eV 4) aNil)))) aNil)))))))))
def m__law_led:FM:=runF 2 4 b__law_led
def b__law_one_for_one:SM:=(sSeq (sForR (iR1 (aCons (eBi lenD (aCons (eV 0) aNil)) aNil)) 2 (sSeq (sSet 3 1 [0,2] (eB addD (eSl (eV 0) (oE (eV 2)) oNo) (eSl (eV 0) oNo (oE (eV 2)))))
  (sFor [3] (iSq (eTup (aCons (eV 3) (aCons (eMt joinRD (eC (.str "")) (aCons (eV 3) aNil)) aNil)))) (.one 4) (sSeq (sSet 5 0 [4,1] (eBi lsetS (aCons (eComp (iZx (aCons (eV 4) (aCons (eV 1) aNil))) 2 (.tup [6,7]) Mi.tYes (eB addD (eV 6) (eV 7))) aNil)))
  (sIf (tAn (tB (eB eqD (eBi lenD (aCons (eV 4) aNil)) (eBi lenD (aCons (eV 1) aNil)))) (tAn (tB (eB eqD (eV 5) (eBi lsetT (aCons (eV 0) aNil)))) (tB (eB eqD (eV 5) (eBi lsetT (aCons (eV 1) aNil)))))) (sRet 0 0 [] (eC (.bl true))) sNil)))))
  (sRet 0 0 [] (eC (.bl false))))
def m__law_one_for_one:FM:=runF 2 6 b__law_one_for_one
def b__law_moved_by:SM:=(sSeq (sSet 2 0 [1,0] (eB modD (eV 1) (eBi lenD (aCons (eV 0) aNil))))
  (sSeq (sSet 1 0 [1,0] (eB divD (eV 1) (eBi lenD (aCons (eV 0) aNil))))
  (sSeq (sSet 3 1 [0,2] (eB addD (eSl (eV 0) (oE (eV 2)) oNo) (eSl (eV 0) oNo (oE (eV 2)))))
  (sSeq (sIf (tB (eB eqD (eB modD (eV 1) (eC (.int 2))) (eC (.int 1)))) (sSet 3 0 [3] (eMt joinRD (eC (.str "")) (aCons (eV 3) aNil))) sNil)
  (sSeq (sSet 1 0 [1] (eB divD (eV 1) (eC (.int 2))))
  (sSeq (sSet 4 1 [0] (eBi sosD (aCons (eV 0) aNil)))
  (sSeq (sSet 5 1 [] (eBi listXD (aCons (eC (.str "abcdefghijklmnopqrstuvwxyz")) aNil)))
  (sSeq (sSet 6 9 [] (eLst aNil))
  (sSeq (sFor [4] (iSq (eV 4)) (.one 7) (sSeq (sAppPop 6 5 (eB modD (eV 1) (eBi lenD (aCons (eV 5) aNil))))
  (sSet 1 0 [1,5] (eB divD (eV 1) (eB addD (eBi lenD (aCons (eV 5) aNil)) (eC (.int 1)))))))
  (sRet 0 0 [6,7,3,4] (eMt joinD (eC (.str "")) (aCons (eComp (iSq (eV 3)) 1 (.one 8) Mi.tYes (eB ixD (eV 6) (eMl lifD (eV 4) (aCons (eV 8) aNil)))) aNil))))))))))))
def m__law_moved_by:FM:=runF 2 8 b__law_moved_by
def b__law_ordered_v2:SM:=(sSeq (sSet 2 1 [0] (eBi listD (aCons (eV 0) aNil)))
  (sSeq (sSet 3 9 [] (eLst aNil))
  (sSeq (sWhile (tB (eB neD (eV 2) (eLst aNil))) (sSeq (sAppPop 3 2 (eB modD (eV 1) (eBi lenD (aCons (eV 2) aNil))))
  (sSet 1 0 [1,2] (eB divD (eV 1) (eB addD (eBi lenD (aCons (eV 2) aNil)) (eC (.int 1)))))))
  (sRetV 9 3))))
def m__law_ordered_v2:FM:=runF 2 4 b__law_ordered_v2
def b__law_word_of:SM:=(sSeq (sSet 2 1 [0,1] (eB addD (eC (.int 1)) (eB modD (eV 0) (eV 1))))
  (sSeq (sSet 0 0 [0,1] (eB divD (eV 0) (eV 1)))
  (sSeq (sSet 3 1 [] (eBi listXD (aCons (eC (.str "abcdefghijklmnopqrstuvwxyz")) aNil)))
  (sSeq (sSet 4 9 [] (eLst aNil))
  (sSeq (sForR (iR1 (aCons (eV 2) aNil)) 5 (sSeq (sAppPop 4 3 (eB modD (eV 0) (eBi lenD (aCons (eV 3) aNil))))
  (sSet 0 0 [0,3] (eB divD (eV 0) (eB addD (eBi lenD (aCons (eV 3) aNil)) (eC (.int 1)))))))
  (sRet 0 0 [0,4] (eMt joinD (eC (.str "")) (aCons (eCall m__law_ordered_v2 (aCons (eB addD (eV 4) (eV 4)) (aCons (eV 0) aNil))) aNil))))))))
def m__law_word_of:FM:=runF 2 6 b__law_word_of
def b__law_words:SM:=(sSeq (sIf (tB (eB eqD (eB modD (eCall m__law_raw (aCons (eV 0) (aCons (eC (.int 0)) aNil))) (eC (.int 2))) (eC (.int 1)))) (sSeq (sSet 1 0 [0] (eCall m__law_word_of (aCons (eCall m__law_raw (aCons (eV 0) (aCons (eC (.int 1)) aNil))) (aCons (eC (.int 10)) aNil))))
  (sRet 1 1 [1,0] (eLst (aCons (eV 1) (aCons (eCall m__law_moved_by (aCons (eV 1) (aCons (eCall m__law_raw (aCons (eV 0) (aCons (eC (.int 2)) aNil))) aNil))) (aCons (eCall m__law_moved_by (aCons (eV 1) (aCons (eCall m__law_raw (aCons (eV 0) (aCons (eC (.int 3)) aNil))) aNil))) aNil)))))) sNil)
  (sSeq (sSet 1 0 [0] (eCall m__law_word (aCons (eV 0) (aCons (eC (.int 0)) (aCons (eC (.int 1)) (aCons (eC (.int 10)) aNil))))))
  (sSeq (sSet 2 1 [1] (eLst (aCons (eV 1) aNil)))
  (sSeq (sForR (iR1 (aCons (eC (.int 2)) aNil)) 3 (sApp 2 1 (eCall m__law_moved (aCons (eV 1) (aCons (eCall m__law_cell (aCons (eV 0) (aCons (eB addD (eC (.int 3)) (eB mulD (eC (.int 2)) (eV 3))) aNil))) (aCons (eCall m__law_cell (aCons (eV 0) (aCons (eB addD (eC (.int 4)) (eB mulD (eC (.int 2)) (eV 3))) aNil))) aNil))))))
  (sRetV 1 2)))))
def m__law_words:FM:=runF 1 4 b__law_words
def b_law_Q82:SM:=(sSeq (sSet 1 1 [0] (eCall m__law_words (aCons (eV 0) aNil)))
  (sSeq (sSet 2 0 [1] (eCall m_least_writing (aCons (eB ixD (eV 1) (eC (.int 0))) aNil)))
  (sSeq (sIf (Mi.tOr (tNo (tM (eIsi "str" (eV 2)))) (tNo (tM (eCall m__law_one_for_one (aCons (eB ixD (eV 1) (eC (.int 0))) (aCons (eV 2) aNil)))))) (sRet 0 0 [] (eC (.bl false))) sNil)
  (sSeq (sFor [1] (iSq (eV 1)) (.one 3) (sSeq (sIf (tB (eB neD (eCall m_least_writing (aCons (eV 3) aNil)) (eV 2))) (sRet 0 0 [] (eC (.bl false))) sNil)
  (sFor [1] (iSq (eV 1)) (.one 4) (sIf (tB (eB neD (eCall m__law_led (aCons (eV 3) (aCons (eCall m_compared (aCons (eV 3) (aCons (eV 4) aNil))) aNil))) (eV 4))) (sRet 0 0 [] (eC (.bl false))) sNil))))
  (sRet 0 0 [] (eC (.bl true)))))))
def m_law_Q82:FM:=runF 1 5 b_law_Q82
end
end Mp

namespace Mp
open Mi PySem
theorem is_whole_int (i:Int):m__law_whole [.int i] = okR (.bl true):=by
  unfold m__law_whole b__law_whole
  simp [isiD,tyD]
end Mp

namespace Mp
open Mi PySem
theorem cell_int (ns:List Int) (k:Int) (h0:0 ≤ k) (h1:k < 1000):∃ c:Int,0 ≤ c ∧ c < 2147483647 ∧ m__law_cell [.scr ns,.int k] = okR (.int c):=by
  unfold m__law_cell b__law_cell
  by_cases hk:k < ns.length
  · simp [hk,itA_int h0 hk]
    refine ⟨_,?_,?_,rfl⟩
    · exact Int.emod_nonneg _ (by decide)
    · exact Int.emod_lt_of_pos _ (by decide)
  · simp [hk]
    refine ⟨_,?_,?_,rfl⟩
    · exact Int.emod_nonneg _ (by decide)
    · exact Int.emod_lt_of_pos _ (by decide)
end Mp

namespace Mi
open PySem
section
variable (ρ:Rh) (r:Ro) (a:EM) (am:AM)
@[simp] theorem x_tL:tL a ρ = bindR (a ρ) fun x=>match x with | .bl k=>okR k | .int i=>okR (i != 0) | .non=>okR false | .lst xs=>okR (!xs.isEmpty) | .tup xs=>okR (!xs.isEmpty) | _=>none:=rfl
@[simp] theorem x_eMl (f:List Dt → List Dt → Option Dt):eMl f a am ρ = bindR (a ρ) fun x=>match x with | .lst xs=>bindR (am ρ) fun ds=>optR (f xs ds) | _=>none:=rfl
@[simp] theorem x_iRv:iRv am ρ = bindR (am ρ) fun vs=>match vs with | [.lst xs]=>okR xs.reverse | _=>none:=rfl
@[simp] theorem v_xor (i j:Int):xorD (.int i) (.int j) = some (.int (Builtin.bitXor i j)):=rfl
@[simp] theorem v_rep (xs:List Dt) (k:Int):repD (.lst xs) (.int k) = @ite _ ((-4611686018427387904 ≤ k ∧ k < 4611686018427387904) ∧ xs.length * k.toNat ≤ 100000) (Classical.propDecidable _) (some (.lst (List.replicate k.toNat xs).flatten)) none:=rfl
end
end Mi

namespace Mi
open PySem
@[simp] theorem okR_inj {α:Type} {a b:α}:okR a = okR b ↔ a = b:=⟨fun h=>by cases h; rfl,fun h=>by rw [h]⟩
@[simp] theorem x_sFor (vs:List Nat) (it:IM) (tg:Tg) (b:SM) (r:Ro):sFor vs it tg b r = bindR (it (frz (frzAt vs r))) fun ds=>forGo tg b ds (frzAt vs r):=rfl
@[simp] theorem x_sForR (it:IM) (i:Nat) (b:SM) (r:Ro):sForR it i b r = bindR (it (full r)) fun ds=>forGo (.one i) b ds r:=rfl
@[simp] theorem x_iSq (e:EM) (ρ:Rh):iSq e ρ = bindR (e ρ) fun d=>match d with | .lst xs=>okR xs | .tup xs=>okR xs | .scr ns=>okR (ns.map .int) | .str z=>okR (signsD z) | _=>none:=rfl
@[simp] theorem x_iEn (e:AM) (ρ:Rh):iEn e ρ = bindR (e ρ) fun vs=>match vs with | [.lst xs]=>okR (enumD 0 xs) | _=>none:=rfl
@[simp] theorem x_iZi (e:AM) (ρ:Rh):iZi e ρ = bindR (e ρ) fun vs=>match vs with | [.lst xs,.lst ys]=>okR (zipD xs ys) | _=>none:=rfl
theorem x_iR1 {e:AM} {ρ:Rh} {n:Nat} (h:e ρ = okR [.int n]) (hn:n ≤ 100000):iR1 e ρ = okR (nums 0 n):=by
  unfold iR1
  rw [h,bindR_ok]
  dsimp only
  rw [if_pos (by omega)]
  simp
theorem nums_nat (n:Nat):nums 0 n = (List.range n).map fun i:Nat=>Dt.int (i:Int):=by
  unfold nums
  exact List.map_congr_left fun i _=>by simp
def nxR (x:R Out) (P:Ro → Prop):Prop:=match x with
  | some (.ok (.nx r))=>P r
  | _=>False
@[simp] theorem x_nxR (r:Ro) (P:Ro → Prop):nxR (okR (.nx r)) P = P r:=rfl
theorem nxR_iff {x:R Out} {P:Ro → Prop} (h:nxR x P):∃ r',x = okR (.nx r') ∧ P r':=by
  unfold nxR at h
  split at h
  · exact ⟨_,rfl,h⟩
  · exact h.elim
theorem nxR_of {x:R Out} {P:Ro → Prop} {r:Ro} (h:x = okR (.nx r)) (hp:P r):nxR x P:=by rw [h]; exact hp
theorem x_app {i n:Nat} {e:EM} {r:Ro} {ds:List Dt} {k:Nat} {d:Dt} (h:r[i]? = some (some (.lst ds,k + 1))) (he:e (full r) = okR d) (h1:ds.length ≤ 100000) (h2:d.dep ≤ n) (h3:d.dep ≤ k):sApp i n e r = okR (.nx (r.set i (some (.lst (ds ++ [d]),k + 1)))):=by
  unfold sApp
  rw [h]
  dsimp only
  rw [he,bindR_ok,if_pos ⟨h1,h2,h3⟩]
theorem comp_range {ρ:Rh} {c:TM} {e:EM} {i:Nat} (g:Nat → Dt) (n:Nat) (hc:c = tYes) (hi:i = ρ.length) (h:∀ k,k < n → e (ρ ++ [some (.int (k:Nat))]) = okR (g k)) (it:IM) (hit:it ρ = okR (nums 0 n)) (hn:n ≤ 100000):eComp it 1 (.one i) c e ρ = okR (.lst ((List.range n).map g)):=by
  subst hc hi
  unfold eComp
  rw [hit,bindR_ok,if_pos ⟨by simpa [nums] using hn,by simp [Tg.idx]⟩]
  rw [comp_map (fun d=>match d with | .int k=>g k.toNat | _=>.non) _ [] fun d hd=>?_]
  · rw [bindR_ok,nums_nat,List.map_map]
    simp only [List.nil_append]
    congr 2
  · rw [nums_nat] at hd
    obtain ⟨k,hk,rfl⟩:=List.mem_map.mp hd
    refine ⟨_,rfl,rfl,?_⟩
    have:setsH (ρ ++ List.replicate 1 none) [(ρ.length,Dt.int (k:Int))] = ρ ++ [some (.int (k:Nat))]:=by
      simp [setsH]
    rw [this]
    simpa using h k (by simpa using hk)
theorem comp_items {ρ:Rh} {c:TM} {e:EM} {i:Nat} {β:Type} (en:β → Dt) (g:β → Dt) (ns:List β) (hc:c = tYes) (hi:i = ρ.length) (h:∀ k,k ∈ ns → e (ρ ++ [some (en k)]) = okR (g k)) (it:IM) (hit:it ρ = okR (ns.map en)) (hn:ns.length ≤ 100000):eComp it 1 (.one i) c e ρ = okR (.lst (ns.map g)):=by
  subst hc hi
  unfold eComp
  rw [hit,bindR_ok,if_pos ⟨by simpa using hn,by simp [Tg.idx]⟩]
  have:∀ (ns:List β) (acc:List Dt),(∀ k,k ∈ ns → e (ρ ++ [some (en k)]) = okR (g k)) → compGo ρ 1 (.one ρ.length) tYes e (ns.map en) acc = okR (acc ++ ns.map g):=by
    intro ns
    induction ns with
    | nil=>intro acc _; simp [compGo]
    | cons d r ih =>
      intro acc h
      rw [List.map_cons,compGo]
      have e1:setsH (ρ ++ List.replicate 1 none) [(ρ.length,en d)] = ρ ++ [some (en d)]:=by simp [setsH]
      show bindR (tYes _) _ = _
      simp only [x_tYes,bindR_ok,if_true]
      show bindR (e (setsH (ρ ++ List.replicate 1 none) [(ρ.length,en d)])) _ = _
      rw [e1,h d (by simp),bindR_ok,ih _ fun k hk=>h k (by simp [hk])]
      simp
  rw [this ns [] h,bindR_ok]
  simp
end Mi
namespace Mi
open PySem
theorem seq_go {a b:SM} {r:Ro} {X:R Out} (h:∀ bb:SM,bb = b → nxR (a r) fun r1=>bb r1 = X):sSeq a b r = X:=by
  obtain ⟨r1,h1,h2⟩:=nxR_iff (h b rfl)
  unfold sSeq
  rw [h1,bindR_ok]
  exact h2
theorem seq_nx {a b:SM} {r:Ro} {P:Ro → Prop} (h:∀ bb:SM,bb = b → nxR (a r) fun r1=>nxR (bb r1) P):nxR (sSeq a b r) P:=by
  obtain ⟨r1,h1,h2⟩:=nxR_iff (h b rfl)
  unfold sSeq
  rw [h1,bindR_ok]
  exact h2
theorem seq_rt {a b:SM} {r:Ro} {d:Dt} (h:a r = okR (.rt d)):sSeq a b r = okR (.rt d):=by
  unfold sSeq
  rw [h,bindR_ok]
theorem run_rt {P n:Nat} {b:SM} {ds:List Dt} {d:Dt} (h:ds.length = P) (hb:b (startO n ds) = okR (.rt d)):runF P n b ds = okR d:=by
  unfold runF
  rw [if_pos h,hb]; rfl
theorem nx_up {j n:Nat} {b:SM} {r:Ro} {X:Ro → Prop} (Pv:Nat → Ro → Prop) (h:Pv 0 r) (hs:∀ k,k < n → ∀ r,Pv k r → nxR (b (r.set j (some (.int (k:Nat),0)))) (Pv (k + 1))) (hK:∀ r',Pv n r' → X r'):nxR (forGo (.one j) b (nums 0 n) r) X:=by
  obtain ⟨r',h1,h2⟩:∃ r',forGo (.one j) b (nums 0 n) r = okR (.nx r') ∧ Pv n r':=by
    obtain ⟨r',h1,h2⟩:=for_all (tg:=.one j) (b:=b) Pv (nums 0 n) 0 r h fun k d r hd hp=>by
      rw [nums_nat,List.getElem?_map] at hd
      cases e:(List.range n)[k]? with
      | none=>rw [e] at hd; cases hd
      | some q =>
        rw [e] at hd
        cases hd
        obtain ⟨h1,h2⟩:=List.getElem?_eq_some_iff.mp e
        rw [List.getElem_range] at h2
        subst h2
        rw [Nat.zero_add] at hp
        obtain ⟨r',g1,g2⟩:=nxR_iff (hs k (by simpa using h1) r hp)
        exact ⟨_,r',rfl,g1,by rw [Nat.zero_add]; exact g2⟩
    exact ⟨r',h1,by simpa [nums] using h2⟩
  rw [h1]
  exact hK r' h2
theorem nx_each {γ:Type} {j:Nat} {b:SM} {r:Ro} {X:Ro → Prop} (en:γ → Dt) (ns:List γ) (Pv:Nat → Ro → Prop) (h:Pv 0 r) (hs:∀ k x,ns[k]? = some x → ∀ r,Pv k r → nxR (b (r.set j (some (en x,0)))) (Pv (k + 1))) (hK:∀ r',Pv ns.length r' → X r'):nxR (forGo (.one j) b (ns.map en) r) X:=by
  obtain ⟨r',h1,h2⟩:=for_all (tg:=.one j) (b:=b) Pv (ns.map en) 0 r h fun k d r hd hp=>by
    rw [List.getElem?_map] at hd
    cases e:ns[k]? with
    | none=>rw [e] at hd; cases hd
    | some q =>
      rw [e] at hd
      cases hd
      rw [Nat.zero_add] at hp
      obtain ⟨r',g1,g2⟩:=nxR_iff (hs k q e r hp)
      exact ⟨_,r',rfl,g1,by rw [Nat.zero_add]; exact g2⟩
  rw [h1]
  exact hK r' (by simpa using h2)
theorem nx_while {c:TM} {b:SM} {r:Ro} {X:Ro → Prop} (Pv:Ro → Prop) (μ:Ro → Nat) (Rv:Ro → Prop) (h0:Pv r) (hm:μ r < 1000000) (hc:∀ r,Pv r → (c (full r) = okR false ∧ Rv r) ∨ (c (full r) = okR true ∧ nxR (b r) fun r'=>Pv r' ∧ μ r' < μ r)) (hK:∀ r',Rv r' → X r'):nxR (sWhile c b r) X:=by
  obtain ⟨r',h1,h2⟩:=sWhile_all Pv μ Rv h0 hm fun r hr=>(hc r hr).imp (fun z=>z) fun z=>⟨z.1,nxR_iff z.2⟩
  rw [h1]
  exact hK r' h2
end Mi
namespace Mi
open PySem
theorem map_inj_c:∀ (a b:List Char),a.map Char.toNat = b.map Char.toNat → a = b
  | [],[],_=>rfl
  | [],_ :: _,h=>by simp at h
  | _ :: _,[],h=>by simp at h
  | x :: r,y :: q,h=>by
    simp only [List.map_cons,List.cons.injEq] at h
    rw [map_inj_c r q h.2]
    have:x = y:=Char.toNat_inj.mp h.1
    rw [this]
@[simp] theorem str_inj (a b:String):(Str.ofString a = Str.ofString b) ↔ a = b:=by
  constructor
  · intro h
    rw [Str.ofString_eq_toList,Str.ofString_eq_toList] at h
    simp only [Str.mk.injEq,List.toArray_inj] at h
    have:=map_inj_c _ _ (by simpa using h)
    exact String.toList_inj.mp this
  · intro h; rw [h]
end Mi
namespace Mi
open PySem
theorem enum_len:∀ (ds:List Dt) (n:Nat),(enumD n ds).length = ds.length
  | [],_=>rfl
  | _ :: r,n=>by rw [enumD,List.length_cons,List.length_cons,enum_len r]
theorem str_len (s:String):(Str.ofString s).length = s.length:=by
  rw [Str.ofString_eq_toList]
  simp [Str.length]
  rfl
end Mi

namespace Mi
open PySem
section
variable (ρ:Rh) (a:EM) (am:AM) (lo hi:OM)
@[simp] theorem x_eSl:eSl a lo hi ρ = bindR (a ρ) fun x=>bindR (lo ρ) fun l=>bindR (hi ρ) fun h=>optR (slD x l h):=rfl
@[simp] theorem x_oNo:oNo ρ = okR none:=rfl
@[simp] theorem x_oE:oE a ρ = bindR (a ρ) fun d=>match d with | .int i=>okR (some i) | _=>none:=rfl
@[simp] theorem x_eMt (f:Dt → List Dt → Option Dt):eMt f a am ρ = bindR (a ρ) fun x=>if isStrD x = true then bindR (am ρ) fun xs=>optR (f x xs) else none:=rfl
@[simp] theorem v_isStr (z:Str):isStrD (.str z) = true:=rfl
end
@[simp] theorem v_slL (xs:List Dt) (l h:Option Int):slD (.lst xs) l h = some (.lst (cutA xs l h)):=rfl
@[simp] theorem v_slS (z:Str) (l h:Option Int):slD (.str z) l h = @ite _ (z.length ≤ 100000) (Classical.propDecidable _) (some (.str ⟨(cutA z.cps.toList l h).toArray⟩)) none:=rfl
@[simp] theorem v_ixSt (z:Str) (i:Int):ixD (.str z) (.int i) = @ite _ (z.length ≤ 100000) (Classical.propDecidable _) ((itA z.cps.toList i).map fun c=>.str ⟨#[c]⟩) none:=rfl
@[simp] theorem v_lenSt (z:Str):lenD [.str z] = @ite _ (z.length ≤ 100000) (Classical.propDecidable _) (some (.int z.length)) none:=rfl
@[simp] theorem v_count1 (z:Str) (c:Nat):countD (.str z) [.str ⟨#[c]⟩] = some (.int (z.cps.toList.count c:Nat)):=rfl
@[simp] theorem v_in1 (ng:Bool) (z:Str) (c:Nat):inD ng (.str ⟨#[c]⟩) (.str z) = some (.bl (if ng = true then !decide (c ∈ z.cps.toList) else decide (c ∈ z.cps.toList))):=rfl
@[simp] theorem v_find1 (z:Str) (c:Nat):findD (.str z) [.str ⟨#[c]⟩] = some (.int (match posC c z.cps.toList with | some i=>(i:Int) | none=>-1)):=rfl
theorem cut_to {α:Type} (xs:List α) (k:Nat):cutA xs none (some (k:Int)) = xs.take k:=by
  unfold cutA cutIx
  simp only [List.drop_zero,Nat.sub_zero]
  rw [if_neg (by omega)]
  by_cases h:k ≤ xs.length
  · rw [show min (k:Int).toNat xs.length = k by omega]
  · rw [show min (k:Int).toNat xs.length = xs.length by omega,List.take_length,List.take_of_length_le (by omega)]
theorem cut_from {α:Type} (xs:List α) (k:Nat):cutA xs (some (k:Int)) none = xs.drop k:=by
  unfold cutA cutIx
  dsimp only
  rw [if_neg (by omega)]
  by_cases h:k ≤ xs.length
  · rw [show min (k:Int).toNat xs.length = k by omega]
    exact List.take_of_length_le (by simp)
  · rw [show min (k:Int).toNat xs.length = xs.length by omega]
    simp
    omega
theorem str_app (a b:Str):(a ++ b).cps.toList = a.cps.toList ++ b.cps.toList:=by
  show (Str.mk (a.cps ++ b.cps)).cps.toList = _
  simp
theorem len_cps (z:Str):z.length = z.cps.toList.length:=by
  unfold Str.length
  simp
theorem len_mk (l:List Nat):(Str.mk l.toArray).length = l.length:=by rw [len_cps]
def firstBad (bad:Nat → Option Dt):Nat → Nat → Option Dt
  | _,0=>none
  | k,m + 1=>match bad k with
    | some x=>some x
    | none=>firstBad bad (k + 1) m
theorem for_find {tg:Tg} {b:SM} (Pv:Ro → Prop) (bad:Nat → Option Dt):∀ (ds:List Dt) (i:Nat) (r:Ro),Pv r →
    (∀ j d,ds[j]? = some d → ∀ r,Pv r → ∃ bs,bindT tg d = some bs ∧ ((∃ x,bad (i + j) = some x ∧ b (setsO r bs) = okR (.rt x)) ∨ (bad (i + j) = none ∧ nxR (b (setsO r bs)) Pv))) →
    (∃ x,firstBad bad i ds.length = some x ∧ forGo tg b ds r = okR (.rt x)) ∨ (firstBad bad i ds.length = none ∧ ∃ r',forGo tg b ds r = okR (.nx r') ∧ Pv r')
  | [],i,r,h,_=>.inr ⟨rfl,r,by simp [forGo],h⟩
  | d :: ds,i,r,h,hs=>by
    obtain ⟨bs,h1,⟨x,h2,h3⟩ | ⟨h2,h3⟩⟩:=hs 0 d (by simp) r h
    · rw [Nat.add_zero] at h2
      exact .inl ⟨x,by rw [List.length_cons,firstBad,h2],by rw [forGo]; simp [h1,h3]⟩
    · rw [Nat.add_zero] at h2
      obtain ⟨r',h3,h4⟩:=nxR_iff h3
      rcases for_find Pv bad ds (i + 1) r' h4 (fun j e he r hr=>by
        have:=hs (j + 1) e (by simpa using he) r hr
        rw [show i + 1 + j = i + (j + 1) by omega]; exact this) with ⟨x,h5,h6⟩ | ⟨h5,r2,h6,h7⟩
      · exact .inl ⟨x,by rw [List.length_cons,firstBad,h2]; exact h5,by rw [forGo]; simp [h1,h3,h6]⟩
      · exact .inr ⟨by rw [List.length_cons,firstBad,h2]; exact h5,r2,by rw [forGo]; simp [h1,h3,h6],h7⟩
def outR (o:Option Dt) (x:R Out) (P:Ro → Prop):Prop:=match o with
  | some d=>x = okR (.rt d)
  | none=>nxR x P
theorem for_out {tg:Tg} {b:SM} (Pv:Ro → Prop) (bad:Nat → Option Dt) (ds:List Dt) (r:Ro) (h:Pv r)
    (hs:∀ j d,ds[j]? = some d → ∀ r,Pv r → ∃ bs,bindT tg d = some bs ∧ outR (bad j) (b (setsO r bs)) Pv):outR (firstBad bad 0 ds.length) (forGo tg b ds r) Pv:=by
  rcases for_find (tg:=tg) (b:=b) Pv bad ds 0 r h (fun j d hd r hr=>by
    obtain ⟨bs,h1,h2⟩:=hs j d hd r hr
    refine ⟨bs,h1,?_⟩
    rw [Nat.zero_add]
    cases e:bad j with
    | none=>rw [e] at h2; exact .inr ⟨rfl,h2⟩
    | some x=>rw [e] at h2; exact .inl ⟨x,rfl,h2⟩) with ⟨x,h1,h2⟩ | ⟨h1,r',h2,h3⟩
  · rw [h1]; exact h2
  · rw [h1]; exact nxR_of h2 h3
end Mi
namespace Mi
open PySem
theorem out_up {j n:Nat} {s:SM} (Pv:Ro → Prop) (bad:Nat → Option Dt) {r:Ro} (h:Pv r) (hs:∀ k,k < n → ∀ r,Pv r → outR (bad k) (s (r.set j (some (.int (k:Nat),0)))) Pv):outR (firstBad bad 0 n) (forGo (.one j) s (nums 0 n) r) Pv:=by
  have:=for_out (tg:=.one j) (b:=s) Pv bad (nums 0 n) r h fun k d hd r hr=>by
    rw [nums_nat,List.getElem?_map] at hd
    cases e:(List.range n)[k]? with
    | none=>rw [e] at hd; cases hd
    | some q =>
      rw [e] at hd
      cases hd
      obtain ⟨h1,h2⟩:=List.getElem?_eq_some_iff.mp e
      rw [List.getElem_range] at h2
      subst h2
      exact ⟨_,rfl,hs k (by simpa using h1) r hr⟩
  simpa [nums] using this
end Mi

namespace Mp
open Mi PySem
def rowD (r:List Int):Dt:=.lst (r.map .int)
def mat (A:List (List Int)):Dt:=.lst (A.map rowD)
@[simp] theorem dep_row (r:List Int):(rowD r).dep = 1:=by simp [rowD]
@[simp] theorem lenR (r:List Int):lenD [rowD r] = some (.int r.length):=by
  show some (Dt.int ((r.map Dt.int).length:Int)) = _
  rw [List.length_map]
@[simp] theorem listR (r:List Int):listD [rowD r] = some (rowD r):=rfl
@[simp] theorem lenM (A:List (List Int)):lenD [mat A] = some (.int A.length):=by
  show some (Dt.int ((A.map rowD).length:Int)) = _
  rw [List.length_map]
end Mp

namespace Mp
open Mi PySem
end Mp

namespace Mp
open Mi PySem
def Bit (x:Int):Prop:=x = 0 ∨ x = 1
def RowN (n:Nat) (r:List Int):Prop:=r.length = n ∧ ∀ x ∈ r,Bit x
end Mp

namespace Mp
open Mi PySem
theorem flatL {ds:List Dt} (h:∀ d ∈ ds,d.dep = 0):Dt.depL ds = 0:=by
  induction ds with
  | nil=>simp
  | cons a r ih=>rw [v_dcons,h a (by simp),ih fun d hd=>h d (by simp [hd])]; rfl
theorem appPop_go {r:Ro} {j i k l:Nat} {e:EM} {z:Int} {ds es:List Dt} {c:Dt} (hi:r[i]? = some (some (.lst ds,k + 1))) (hj:r[j]? = some (some (.lst es,l + 1))) (he:e (full r) = okR (.int z)) (h0:0 ≤ z) (h1:z < ds.length) (hc:ds[z.toNat]? = some c) (hf:c.dep = 0) (hij:i ≠ j) (hz:ds.length ≤ 1000) (hz2:es.length ≤ 1000) (hk:k < 1000) :
    sAppPop j i e r = okR (.nx ((r.set i (some (.lst (ds.eraseIdx z.toNat),k + 1))).set j (some (.lst (es ++ [c]),l + 1)))):=by
  unfold sAppPop
  rw [hj,hi]
  dsimp only
  rw [he,bindR_ok]
  dsimp only
  rw [ixA_of h0 h1]
  dsimp only
  rw [hc]
  dsimp only
  rw [if_pos ⟨hij,by omega,by omega,.inr ⟨by omega,by omega,hk⟩⟩]
def lenAt (i:Nat) (r:Ro):Nat:=match r[i]? with
  | some (some (Dt.lst lf,_))=>lf.length
  | _=>0
end Mp

namespace Mp
open Mi PySem
def sub (ks:List Nat) (f:Nat → Nat → Int):Nat → Nat → Int:=fun a b=>f (ks.getD a 0) (ks.getD b 0)
end Mp

namespace Mp
open Mi PySem
def sgn (c:Nat):Dt:=.str ⟨#[c]⟩
theorem signsD_sgn (z:Str):signsD z = z.cps.toList.map sgn:=rfl
theorem sgns_of {cs:List Nat}:∀ {es:List Dt},(∀ e ∈ es,e ∈ cs.map sgn) → ∃ ds:List Nat,es = ds.map sgn ∧ ∀ c ∈ ds,c ∈ cs
  | [],_=>⟨[],rfl,fun c h=>by simp at h⟩
  | e :: r,h=>by
    obtain ⟨ds,h1,h2⟩:=sgns_of (es:=r) fun e he=>h e (by simp [he])
    obtain ⟨c,hc,he⟩:=List.mem_map.mp (h e (by simp))
    refine ⟨c :: ds,by rw [List.map_cons,← h1,he],fun d hd=>?_⟩
    rcases List.mem_cons.mp hd with rfl | hd
    · exact hc
    · exact h2 d hd
theorem flat_sgn (cs:List Nat):∀ d ∈ cs.map sgn,d.dep = 0:=by
  intro d hd
  obtain ⟨c,_,rfl⟩:=List.mem_map.mp hd
  rfl
@[simp] theorem depL_sgn (cs:List Nat):Dt.depL (cs.map sgn) = 0:=flatL (flat_sgn cs)
theorem strs_sgn:∀ cs:List Nat,strsD (cs.map sgn) = some (cs.map fun c=>⟨#[c]⟩)
  | []=>rfl
  | c :: r=>by
    show (strsD (r.map sgn)).map _ = _
    rw [strs_sgn r]
    rfl
theorem cps_empty:(Str.ofString "").cps.toList = []:=by
  rw [Str.ofString_eq_toList]
  rfl
theorem join_cps:∀ zs:List Str,(Str.join (Str.ofString "") zs).cps.toList = (zs.map (·.cps.toList)).flatten
  | []=>rfl
  | [x]=>by simp [Str.join]
  | x :: y :: r=>by
    rw [Str.join,str_app,str_app,cps_empty,join_cps (y :: r)]
    · simp
    · simp
theorem sum_ones (cs:List Nat):((cs.map fun c=>(⟨#[c]⟩:Str)).map (·.length)).sum = cs.length:=by
  induction cs with
  | nil=>rfl
  | cons c r ih=>simp only [List.map_cons,List.sum_cons,ih,List.length_cons]; show 1 + r.length = _; omega
theorem len_empty:(Str.ofString "").length = 0:=by rw [len_cps,cps_empty]; rfl
theorem join_sgn (cs:List Nat) (hz:cs.length ≤ 100000):joinD (.str (Str.ofString "")) [.lst (cs.map sgn)] = some (.str ⟨cs.toArray⟩):=by
  show (match strsD (cs.map sgn) with | some zs=>_ | none=>none) = _
  rw [strs_sgn]
  dsimp only
  rw [if_pos (by rw [sum_ones,len_empty]; omega)]
  congr 2
  have h:=join_cps (cs.map fun c=>(⟨#[c]⟩:Str))
  have e:(List.map (·.cps.toList) (cs.map fun c=>(⟨#[c]⟩:Str))).flatten = cs:=by
    rw [List.map_map]
    clear h hz
    induction cs with
    | nil=>rfl
    | cons c r ih=>simpa using ih
  rw [e] at h
  generalize Str.join (Str.ofString "") (cs.map fun c=>(⟨#[c]⟩:Str)) = z at h ⊢
  obtain ⟨a⟩:=z
  simp at h
  rw [← h]
theorem abc_len:(Str.ofString "abcdefghijklmnopqrstuvwxyz").length = 26:=by rw [str_len]; decide
theorem cut_sgn (cs:List Nat) (l h:Option Int):cutA (cs.map sgn) l h = (cutA cs l h).map sgn:=by
  unfold cutA
  simp
end Mp

namespace Mp
def ords (row:List Nat):List Nat:=row.foldl (fun o p=>if p ∈ o then o else o ++ [p]) []
theorem ords_app (row:List Nat) (p:Nat):ords (row ++ [p]) = if p ∈ ords row then ords row else ords row ++ [p]:=by
  unfold ords
  rw [List.foldl_append]
  rfl
theorem rev_ind {α:Type} {P:List α → Prop} (h0:P []) (h1:∀ l a,P l → P (l ++ [a])):∀ l,P l:=by
  intro l
  have:∀ m:List α,P m.reverse:=by
    intro m
    induction m with
    | nil=>exact h0
    | cons a r ih=>rw [List.reverse_cons]; exact h1 _ _ ih
  have h:=this l.reverse
  rwa [List.reverse_reverse] at h
theorem ords_mem:∀ (row:List Nat) (x:Nat),x ∈ ords row ↔ x ∈ row:=by
  refine rev_ind (fun x=>by simp [ords]) fun l a ih x=>?_
  rw [ords_app]
  split
  · rename_i h
    rw [ih x,List.mem_append,List.mem_singleton]
    constructor
    · exact .inl
    · rintro (h' | rfl)
      · exact h'
      · exact (ih x).mp h
  · rw [List.mem_append,List.mem_append,ih x]
theorem ords_nodup:∀ row:List Nat,(ords row).Nodup:=by
  refine rev_ind (by simp [ords]) fun l a ih=>?_
  rw [ords_app]
  split
  · exact ih
  · rename_i h
    rw [List.nodup_append]
    exact ⟨ih,by simp,fun x hx y hy z=>h (by rw [List.mem_singleton] at hy; rw [← hy,← z]; exact hx)⟩
theorem ords_first:∀ row:List Nat,ords row = ((List.range row.length).filter fun k=>decide (row.idxOf (row.getD k 0) = k)).map fun k=>row.getD k 0:=by
  refine rev_ind (by simp [ords]) fun l a ih=>?_
  rw [ords_app,ih,List.length_append,List.length_singleton,List.range_succ,List.filter_append,List.map_append]
  have e1:∀ k,k < l.length → (l ++ [a]).getD k 0 = l.getD k 0:=fun k hk=>by
    rw [List.getD_eq_getElem?_getD,List.getD_eq_getElem?_getD,List.getElem?_append_left hk]
  have e2:(l ++ [a]).getD l.length 0 = a:=by
    rw [List.getD_eq_getElem?_getD,List.getElem?_append_right (Nat.le_refl _)]; simp
  have e3:((List.range l.length).filter fun k=>decide ((l ++ [a]).idxOf ((l ++ [a]).getD k 0) = k)) = (List.range l.length).filter fun k=>decide (l.idxOf (l.getD k 0) = k):=by
    refine List.filter_congr fun k hk=>?_
    have hk':k < l.length:=by simpa using hk
    have hm:l.getD k 0 ∈ l:=by rw [List.getD_eq_getElem?_getD,List.getElem?_eq_getElem hk']; simp
    rw [e1 k hk',List.idxOf_append,if_pos hm]
  have e4:(((List.range l.length).filter fun k=>decide (l.idxOf (l.getD k 0) = k)).map fun k=>(l ++ [a]).getD k 0) = ((List.range l.length).filter fun k=>decide (l.idxOf (l.getD k 0) = k)).map fun k=>l.getD k 0:=by
    refine List.map_congr_left fun k hk=>?_
    have:=(List.mem_filter.mp hk).1
    exact e1 k (by simpa using this)
  rw [e3,e4,← ih]
  by_cases h:a ∈ ords l
  · have ha:=(ords_mem l a).mp h
    rw [if_pos h,List.filter_cons_of_neg]
    · simp
    · rw [e2,List.idxOf_append,if_pos ha]
      have:=List.idxOf_lt_length_of_mem ha
      simp
      omega
  · have ha:¬ a ∈ l:=fun z=>h ((ords_mem l a).mpr z)
    rw [if_neg h,List.filter_cons_of_pos]
    · simp [e2]
    · rw [e2,List.idxOf_append,if_neg ha]
      simp
end Mp

namespace Mp
end Mp

namespace Mp
open Mi PySem
end Mp

namespace Mp
open Mi PySem
theorem comp_enumFB {ρ:Rh} {e:EM} {c:TM} {i j:Nat} (xs:List Dt) (g:Nat → Dt) (f:Nat → Bool) (hi:i = ρ.length) (hj:j = ρ.length + 1) (it:IM) (hit:it ρ = okR (enumD 0 xs)) (hn:xs.length ≤ 100000) (hc:∀ k x,xs[k]? = some x → c (ρ ++ [some (.int (k:Nat)),some x]) = okR (f k)) (h:∀ k x,xs[k]? = some x → e (ρ ++ [some (.int (k:Nat)),some x]) = okR (g k)):eComp it 2 (.tup [i,j]) c e ρ = okR (.lst (((List.range xs.length).filter f).map g)):=by
  subst hi hj
  unfold eComp
  rw [hit,bindR_ok,if_pos ⟨by rw [enum_len]; exact hn,by simp [Tg.idx]⟩]
  have go:∀ (m k:Nat) (acc:List Dt),k + m = xs.length → compGo ρ 2 (.tup [ρ.length,ρ.length + 1]) c e (enumD k (xs.drop k)) acc = okR (acc ++ ((List.range' k m).filter f).map g):=by
    intro m
    induction m with
    | zero =>
      intro k acc hk
      rw [List.drop_of_length_le (by omega)]
      simp [enumD,compGo]
    | succ m ih =>
      intro k acc hk
      have hx:xs[k]? = some xs[k]:=List.getElem?_eq_getElem (by omega)
      rw [List.drop_eq_getElem_cons (by omega),enumD,compGo]
      have es:setsH (ρ ++ List.replicate 2 none) [(ρ.length,.int (k:Nat)),(ρ.length + 1,xs[k])] = ρ ++ [some (.int (k:Nat)),some xs[k]]:=by
        simp [setsH]
      show bindR (c (setsH (ρ ++ List.replicate 2 none) [(ρ.length,.int (k:Nat)),(ρ.length + 1,xs[k])])) _ = _
      rw [es,hc k _ hx,bindR_ok,List.range'_succ]
      cases hf:f k with
      | true =>
        rw [if_pos rfl]
        show bindR (e (setsH (ρ ++ List.replicate 2 none) [(ρ.length,.int (k:Nat)),(ρ.length + 1,xs[k])])) _ = _
        rw [es,h k _ hx,bindR_ok,ih (k + 1) _ (by omega),List.filter_cons_of_pos hf]
        simp
      | false =>
        rw [if_neg (by simp),ih (k + 1) _ (by omega),List.filter_cons_of_neg (by simp [hf])]
  have:=go xs.length 0 [] (by omega)
  rw [List.drop_zero] at this
  rw [this,bindR_ok,List.range_eq_range']
  simp
theorem posC_idx {c:Nat}:∀ {l:List Nat},c ∈ l → posC c l = some (l.idxOf c)
  | a :: r,h=>by
    show (if a = c then some 0 else (posC c r).map (· + 1)) = _
    by_cases z:a = c
    · subst z; simp
    · have:=posC_idx (l:=r) ((List.mem_cons.mp h).elim (fun y=>absurd y.symm z) fun y=>y)
      rw [if_neg z,this,List.idxOf_cons,show (a == c) = false by simpa using z]
      rfl
theorem find_sgn {c:Nat} {cs:List Nat} (h:c ∈ cs):findD (.str ⟨cs.toArray⟩) [sgn c] = some (.int (cs.idxOf c:Nat)):=by
  show some (Dt.int (match posC c cs with | some i=>(i:Int) | none=>-1)) = _
  rw [posC_idx h]
theorem ix_sgn {cs:List Nat} {k:Nat} (h:k < cs.length) (hz:cs.length ≤ 1000):ixD (.str ⟨cs.toArray⟩) (.int (k:Int)) = some (sgn (cs.getD k 0)):=by
  show (@ite _ ((Str.mk cs.toArray).length ≤ 100000) (Classical.propDecidable _) ((itA cs (k:Int)).map fun c=>Dt.str ⟨#[c]⟩) none) = _
  rw [if_pos (by rw [len_mk]; omega),itA_of (j:=k) (v:=cs.getD k 0) rfl (by rw [List.getD_eq_getElem?_getD,List.getElem?_eq_getElem h]; rfl)]
  rfl
def fsts (cs:List Nat):List Nat:=(List.range cs.length).filter fun k=>decide (cs.idxOf (cs.getD k 0) = k)
theorem order_prog (cs:List Nat) (hz:cs.length ≤ 1000):m_place_order [.str ⟨cs.toArray⟩] = okR (.str ⟨((fsts cs).map fun k=>cs.getD k 0).toArray⟩):=by
  have hc:eComp (iEnX (aCons (eV 0) aNil)) 2 (.tup [1,2]) (tB (eB eqD (eMt findD (eV 0) (aCons (eV 2) aNil)) (eV 1))) (eV 2) [some (.str ⟨cs.toArray⟩)] = okR (.lst (((fsts cs).map fun k=>cs.getD k 0).map sgn)):=by
    have:=comp_enumFB (ρ:=[some (.str ⟨cs.toArray⟩)]) (c:=tB (eB eqD (eMt findD (eV 0) (aCons (eV 2) aNil)) (eV 1))) (e:=eV 2) (i:=1) (j:=2) (cs.map sgn) (fun k=>sgn (cs.getD k 0)) (fun k=>decide (cs.idxOf (cs.getD k 0) = k)) rfl rfl (iEnX (aCons (eV 0) aNil)) (by simp [iEnX]; rfl) (by simp; omega) (fun k x hx=>by
      have hk:k < cs.length:=by have:=(List.getElem?_eq_some_iff.mp hx).1; simpa using this
      have hx':x = sgn (cs.getD k 0):=by
        rw [List.getElem?_map,List.getElem?_eq_getElem hk] at hx
        cases hx
        simp [List.getD_eq_getElem?_getD,List.getElem?_eq_getElem hk]
      subst hx'
      have hf:=find_sgn (c:=cs.getD k 0) (cs:=cs) (by rw [List.getD_eq_getElem?_getD,List.getElem?_eq_getElem hk]; simp)
      have hdd:decide (((cs.idxOf (cs.getD k 0):Nat):Int) = (k:Int)) = decide (cs.idxOf (cs.getD k 0) = k):=by
        by_cases h:cs.idxOf (cs.getD k 0) = k
        · rw [h]; simp
        · rw [decide_eq_false h,decide_eq_false (by omega)]
      have hf':eMt findD (eV 0) (aCons (eV 2) aNil) [some (.str ⟨cs.toArray⟩),some (.int (k:Nat)),some (sgn (cs.getD k 0))] = okR (.int (cs.idxOf (cs.getD k 0):Nat)):=by
        simp only [x_eMt,x_eV,x_aCons,x_aNil,List.getElem?_cons_succ,List.getElem?_cons_zero,bindR_ok,hf,optR_some]
        rfl
      generalize cs.idxOf (cs.getD k 0) = w at *
      show tB (eB eqD (eMt findD (eV 0) (aCons (eV 2) aNil)) (eV 1)) [some (.str ⟨cs.toArray⟩),some (.int (k:Nat)),some (sgn (cs.getD k 0))] = _
      simp only [x_tB,x_eB,hf',bindR_ok,x_eV,List.getElem?_cons_succ,List.getElem?_cons_zero]
      simp [← hdd]) (fun k x hx=>by
      have hk:k < cs.length:=by have:=(List.getElem?_eq_some_iff.mp hx).1; simpa using this
      have hx':x = sgn (cs.getD k 0):=by
        rw [List.getElem?_map,List.getElem?_eq_getElem hk] at hx
        cases hx
        simp [List.getD_eq_getElem?_getD,List.getElem?_eq_getElem hk]
      subst hx'
      simp [-List.getD_eq_getElem?_getD])
    rw [this,List.length_map,List.map_map]
    rfl
  have hfl:(fsts cs).length ≤ cs.length:=Nat.le_trans (List.length_filter_le _ _) (by simp)
  have hj:=join_sgn ((fsts cs).map fun k=>cs.getD k 0) (by simp; omega)
  unfold m_place_order b_place_order
  generalize ((fsts cs).map fun k=>cs.getD k 0) = out at *
  refine run_rt rfl ?_
  simp [startO,hc,hj]
end Mp

namespace Mp
open Mi PySem
end Mp

namespace Mp
open Mi PySem
theorem len_str1 {cs:List Nat} (h:cs.length ≤ 1000):lenD [.str ⟨cs.toArray⟩] = some (.int (cs.length:Int)):=by
  have:=len_mk cs
  simp [lenD,this]
  try omega
end Mp

namespace Mp
open Mi PySem
structure Twice (n:Nat) (row:List Nat):Prop where
  len:row.length = 2 * n
  cnt:∀ v,row.count v = if v < n then 2 else 0
section
variable {n:Nat} {row:List Nat} (t:Twice n row)
include t
end
end Mp

namespace Mp
open Mi PySem
def addB:List Int → List Int → List Int
  | a :: r,b :: s=>(a + b) % 2 :: addB r s
  | _,_=>[]
def dot:List Int → List Int → Int
  | a :: r,b :: x=>a * b + dot r x
  | _,_=>0
def Ker (A:List (List Int)) (x:List Int):Prop:=∀ r ∈ A,dot r x % 2 = 0
def ent (A:List (List Int)) (i k:Nat):Int:=(A.getD i []).getD k 0
def oth (A:List (List Int)) (c:Nat) (lead:List Int):List (List Int):=A.map fun r=>if r.getD c 0 = 1 then addB r lead else r
section
variable {A:List (List Int)} {c t m:Nat} (hm:∀ r ∈ A,RowN m r) (ht:t < A.length) (hc:c ≤ t) (hl:ent A t c = 1) (hcm:c < m)
include hm ht in
include hm ht hc in
include ht hc in
include hm ht hc in
end
def UnitC (A:List (List Int)) (c:Nat):Prop:=∀ i k,i < A.length → k < c → ent A i k = if i = k then 1 else 0
structure Rk (n:Nat) (T A:List (List Int)) (p q:Nat):Prop where
  rows:∀ r ∈ A,RowN n r
  zero:∀ r ∈ A,∀ k,k < p → r.getD k 0 = 0
  le:q ≤ p
  all:q = p → ∀ x,RowN n x → Ker T x → Ker A x ∧ ((∀ j,p ≤ j → x.getD j 0 = 0) → ∀ j,x.getD j 0 = 0)
  some:q < p → ∃ x,RowN n x ∧ Ker T x ∧ ∃ j,j < n ∧ x.getD j 0 = 1
  lift:∀ x,RowN n x → Ker A x → ∃ y,RowN n y ∧ Ker T y ∧ ∀ j,p ≤ j → y.getD j 0 = x.getD j 0
end Mp

namespace Mp
open Mi PySem
end Mp

namespace Mp
open Mi PySem
def unitR (n i:Nat):List Int:=(List.range n).map fun j=>if j = i then 1 else 0
def aug (n:Nat) (T:List (List Int)):List (List Int):=(List.range n).map fun i=>T.getD i [] ++ unitR n i
structure Un (n:Nat) (T A:List (List Int)) (c:Nat):Prop where
  len:A.length = n
  rows:∀ r ∈ A,RowN (n + n) r
  unit:UnitC A c
  ker:∀ x,(∀ y ∈ x,Bit y) → (Ker A x ↔ Ker (aug n T) x)
end Mp

namespace Mp
open Mi PySem
def eiR (x:R Out) (P:Ro → Prop) (Q:Dt → Prop):Prop:=(∃ r,x = okR (.nx r) ∧ P r) ∨ ∃ d,x = okR (.rt d) ∧ Q d
theorem ei_nx {x:R Out} {P:Ro → Prop} {Q:Dt → Prop} (h:nxR x P):eiR x P Q:=.inl (nxR_iff h)
theorem seq_ei {a b:SM} {r:Ro} {P P':Ro → Prop} {Q:Dt → Prop} (h:eiR (a r) P Q) (hb:∀ r',P r' → eiR (b r') P' Q):eiR (sSeq a b r) P' Q:=by
  unfold sSeq
  rcases h with ⟨r',e,h'⟩ | ⟨d,e,hq⟩
  · rw [e,bindR_ok]; exact hb r' h'
  · rw [e,bindR_ok]; exact .inr ⟨d,rfl,hq⟩
end Mp

namespace Mp
open Mi PySem
end Mp

namespace Mp
open Mi PySem
theorem str_eq {z:Str} {l:List Nat} (h:z.cps.toList = l):z = ⟨l.toArray⟩:=by
  cases z with
  | mk a=>subst h; simp
theorem add_str {a b:List Nat} (h:a.length + b.length ≤ 1000):addD (.str ⟨a.toArray⟩) (.str ⟨b.toArray⟩) = some (.str ⟨(a ++ b).toArray⟩):=by
  rw [v_addS,if_pos (by rw [len_mk,len_mk]; omega)]
  congr 2
  exact str_eq (by rw [str_app])
theorem sl_str {a:List Nat} (l h:Option Int) (hz:a.length ≤ 1000):slD (.str ⟨a.toArray⟩) l h = some (.str ⟨(cutA a l h).toArray⟩):=by
  show (@ite _ ((Str.mk a.toArray).length ≤ 100000) (Classical.propDecidable _) (some (Dt.str ⟨(cutA a l h).toArray⟩)) none) = _
  rw [if_pos (by rw [len_mk]; omega)]
end Mp

namespace Mp
open Mi PySem
theorem pick_perm {α:Type}:∀ (l:List α) {i:Nat} (h:i < l.length),l.Perm (l[i] :: l.eraseIdx i)
  | a :: r,0,h=>by simp
  | a :: r,i + 1,h=>by
    have:=pick_perm r (i:=i) (by simpa using h)
    simp only [List.getElem_cons_succ,List.eraseIdx_cons_succ]
    exact (this.cons a).trans (List.Perm.swap _ _ _)
theorem shuffled_perm (ds:List Dt) (n:Int) (hf:∀ d ∈ ds,d.dep = 0) (hz:ds.length ≤ 500):∃ es:List Dt,m__law_shuffled [.lst ds,.int n] = okR (.lst es) ∧ es.Perm ds:=by
  have key:∃ es:List Dt,b__law_shuffled [some (.lst ds,0),some (.int n,0),none,none] = okR (.rt (.lst es)) ∧ es.Perm ds:=by
    unfold b__law_shuffled
    obtain ⟨r',h1,num,es,h2,h3⟩:=sWhile_all (c:=tB (eB neD (eV 2) (eLst aNil))) (b:=sSeq (sSet 1 0 [1] (eB modD (eB addD (eB mulD (eV 1) (eC (.int 48271))) (eC (.int 7919))) (eC (.int 2147483647)))) (sAppPop 3 2 (eB modD (eB divD (eV 1) (eC (.int 64))) (eBi lenD (aCons (eV 2) aNil)))))
      (fun r=>∃ num lf es,r = [some (.lst ds,0),some (.int num,0),some (.lst lf,1),some (.lst es,9)] ∧ (lf ++ es).Perm ds)
      (lenAt 2) (fun r=>∃ num es,r = [some (.lst ds,0),some (.int num,0),some (.lst [],1),some (.lst es,9)] ∧ es.Perm ds)
      (r:=[some (.lst ds,0),some (.int n,0),some (.lst ds,1),some (.lst [],9)]) ⟨n,ds,[],rfl,by simp⟩ (by simp [lenAt]; omega) (fun r hr=>by
        obtain ⟨num,lf,es,rfl,q1⟩:=hr
        have hlen:=q1.length_eq
        have q2:∀ e ∈ lf,e ∈ ds:=fun e he=>q1.mem_iff.mp (by simp [he])
        cases lf with
        | nil=>exact .inl ⟨by simp [Dt.eqL],num,es,rfl,by simpa using q1⟩
        | cons a lf =>
          have hd:Dt.depL (a :: lf) = 0:=flatL fun d hd=>hf d (q2 d hd)
          refine .inr ⟨?_,?_⟩
          · rw [v_dcons] at hd
            have d1:a.dep = 0:=by omega
            have d2:Dt.depL lf = 0:=by omega
            simp [Dt.eqL,d1,d2]
          · generalize hm:(num * 48271 + 7919) % 2147483647 = num'
            have hn0:0 ≤ num':=by omega
            generalize hq:num' / 64 % ((lf.length:Int) + 1) = q
            have q0:0 ≤ q:=by rw [← hq]; exact Int.emod_nonneg _ (by omega)
            have q4:q < (lf.length:Int) + 1:=by rw [← hq]; exact Int.emod_lt_of_pos _ (by omega)
            have hqn:q.toNat < (a :: lf).length:=by simp only [List.length_cons]; omega
            have hc:(a :: lf)[q.toNat]? = some ((a :: lf)[q.toNat]'hqn):=List.getElem?_eq_getElem hqn
            have hmem:(a :: lf)[q.toNat]'hqn ∈ a :: lf:=List.getElem_mem _
            have st:=appPop_go (r:=[some (.lst ds,0),some (.int num',0),some (.lst (a :: lf),1),some (.lst es,9)]) (j:=3) (i:=2) (k:=0) (l:=8) (e:=eB modD (eB divD (eV 1) (eC (.int 64))) (eBi lenD (aCons (eV 2) aNil))) (z:=q) (ds:=a :: lf) (es:=es) rfl rfl (by simp [hq,show (0:Int) < (lf.length:Int) + 1 by omega]) q0 (by simpa using q4) hc (hf _ (q2 _ hmem)) (by decide) (by simp at hlen ⊢; omega) (by simp at hlen; omega) (by omega)
            have hp:=pick_perm (a :: lf) hqn
            refine ⟨_,?_,⟨num',(a :: lf).eraseIdx q.toNat,es ++ [(a :: lf)[q.toNat]'hqn],rfl,?_⟩,?_⟩
            · simp only [x_sSeq,x_sSet,x_eB,x_eV,x_eC]
              simp [hm]
              exact st
            · rw [← List.append_assoc]
              refine (List.perm_append_singleton _ _).trans ?_
              rw [← List.cons_append]
              exact (hp.symm.append_right es).trans q1
            · show (((a :: lf).eraseIdx q.toNat)).length < (a :: lf).length
              rw [List.length_eraseIdx_of_lt hqn]; simp)
    refine ⟨es,?_,h3⟩
    subst h2
    have hdl:Dt.depL ds = 0:=flatL hf
    refine seq_go fun bb hb=>?_
    simp [hdl]
    subst hb
    refine seq_go fun bb hb=>?_
    simp
    subst hb
    refine seq_go fun bb hb=>?_
    refine nxR_of h1 ?_
    subst hb
    simp
  obtain ⟨es,h1,h2⟩:=key
  exact ⟨es,run_rt rfl h1,h2⟩
def unsgn:Dt → Nat
  | .str z=>z.cps.toList.headD 0
  | _=>0
theorem shuffled_permS (cs:List Nat) (n:Int) (hz:cs.length ≤ 500):∃ ds:List Nat,m__law_shuffled [.lst (cs.map sgn),.int n] = okR (.lst (ds.map sgn)) ∧ ds.Perm cs:=by
  obtain ⟨es,h1,h2⟩:=shuffled_perm (cs.map sgn) n (flat_sgn cs) (by simpa using hz)
  obtain ⟨ds,rfl,h4⟩:=sgns_of (cs:=cs) (es:=es) fun e he=>h2.mem_iff.mp he
  refine ⟨ds,h1,?_⟩
  have:=h2.map unsgn
  rw [List.map_map,List.map_map,show (unsgn ∘ sgn) = id from funext fun c=>rfl,List.map_id,List.map_id] at this
  exact this
theorem abc_cps:(Str.ofString "abcdefghijklmnopqrstuvwxyz").cps.toList = (List.range 26).map (97 + ·):=by
  rw [Str.ofString_eq_toList]
  decide
theorem abc_nodup:((List.range 26).map (97 + ·)).Nodup:=by decide
theorem word_perm (ns:List Int) (k:Int) (h0:0 ≤ k) (h1:k < 100) (M:Int) (hM1:1 ≤ M) (hM2:M ≤ 20):∃ cs ls:List Nat,m__law_word [.scr ns,.int k,.int 1,.int M] = okR (.str ⟨cs.toArray⟩) ∧ cs.Perm (ls ++ ls) ∧ ls.Nodup ∧ 1 ≤ ls.length ∧ (ls.length:Int) ≤ M ∧ ∀ c ∈ ls,97 ≤ c ∧ c < 123:=by
  obtain ⟨c1,a1,b1,e1⟩:=cell_int ns k h0 (by omega)
  obtain ⟨c2,a2,b2,e2⟩:=cell_int ns (k + 1) (by omega) (by omega)
  obtain ⟨c3,a3,b3,e3⟩:=cell_int ns (k + 2) (by omega) (by omega)
  generalize hm:1 + c1 % (M - 1 + 1) = m
  have hmM:c1 % (M - 1 + 1) = m - 1:=by omega
  have hm0:=Int.emod_nonneg c1 (show M - 1 + 1 ≠ 0 by omega)
  have hm9:=Int.emod_lt_of_pos c1 (show 0 < M - 1 + 1 by omega)
  have hm1:1 ≤ m:=by omega
  have hm2:m ≤ M:=by omega
  obtain ⟨ds,s1,s2⟩:=shuffled_permS (Str.ofString "abcdefghijklmnopqrstuvwxyz").cps.toList c2 (by rw [← len_cps,abc_len]; omega)
  have s1':=s1
  have s26:ds.length = 26:=by rw [s2.length_eq,← len_cps,abc_len]
  have good:∀ l:List Nat,l.Nodup → (∀ c ∈ l,97 ≤ c ∧ c < 123) → l.length = 26 → (cutA l none (some m)).Nodup ∧ (1 ≤ (cutA l none (some m)).length ∧ ((cutA l none (some m)).length:Int) ≤ M) ∧ ∀ c ∈ cutA l none (some m),97 ≤ c ∧ c < 123:=by
    intro l hn ha hl
    obtain ⟨q,rfl⟩:∃ q:Nat,m = (q:Int):=⟨m.toNat,by omega⟩
    rw [cut_to]
    exact ⟨hn.sublist (List.take_sublist _ _),by simp; omega,fun c hc=>ha c (List.mem_of_mem_take hc)⟩
  have habc:∀ c ∈ (Str.ofString "abcdefghijklmnopqrstuvwxyz").cps.toList,97 ≤ c ∧ c < 123:=by
    rw [abc_cps]
    intro c hc
    obtain ⟨i,hi,rfl⟩:=List.mem_map.mp hc
    have:=List.mem_range.mp hi
    omega
  have hnabc:(Str.ofString "abcdefghijklmnopqrstuvwxyz").cps.toList.Nodup:=by rw [abc_cps]; exact abc_nodup
  have g1:=good _ hnabc habc (by rw [← len_cps,abc_len])
  have g2:=good ds (s2.nodup_iff.mpr hnabc) (fun c hc=>habc c (s2.mem_iff.mp hc)) s26
  have key:∃ cs ls:List Nat,b__law_word [some (.scr ns,0),some (.int k,0),some (.int 1,0),some (.int M,0),none,none,none,none] = okR (.rt (.str ⟨cs.toArray⟩)) ∧ cs.Perm (ls ++ ls) ∧ ls.Nodup ∧ 1 ≤ ls.length ∧ (ls.length:Int) ≤ M ∧ ∀ c ∈ ls,97 ≤ c ∧ c < 123:=by
    have fin:∀ (ls:List Nat),ls.length ≤ 20 → ∃ cs:List Nat,(sRet 0 0 [7,0,1] (eMt joinD (eC (.str "")) (aCons (eCall m__law_shuffled (aCons (eB addD (eV 7) (eV 7)) (aCons (eCall m__law_cell (aCons (eV 0) (aCons (eB addD (eV 1) (eC (.int 2))) aNil))) aNil))) aNil))) [some (.scr ns,0),some (.int k,0),some (.int 1,0),some (.int M,0),some (.str "abcdefghijklmnopqrstuvwxyz",0),some (.int c1,0),some (.int m,1),some (.lst (ls.map sgn),1)] = okR (.rt (.str ⟨cs.toArray⟩)) ∧ cs.Perm (ls ++ ls):=by
      intro ls hl
      obtain ⟨cs,t1,t2⟩:=shuffled_permS (ls ++ ls) c3 (by simp; omega)
      have tl:=t2.length_eq
      refine ⟨cs,?_,t2⟩
      have j:=join_sgn cs (by simp at tl; omega)
      rw [List.map_append] at t1
      simp [e3,t1,j,show ls.length + ls.length ≤ 100000 by omega]
    have st3:sSet 6 1 [2,5,3] (eB addD (eV 2) (eB modD (eV 5) (eB addD (eB subD (eV 3) (eV 2)) (eC (.int 1))))) [some (.scr ns,0),some (.int k,0),some (.int 1,0),some (.int M,0),some (.str "abcdefghijklmnopqrstuvwxyz",0),some (.int c1,0),none,none] = okR (.nx [some (.scr ns,0),some (.int k,0),some (.int 1,0),some (.int M,0),some (.str "abcdefghijklmnopqrstuvwxyz",0),some (.int c1,0),some (.int m,1),none]):=by
      have d1:modD (.int c1) (.int (M - 1 + 1)) = some (.int (m - 1)):=by
        rw [← hmM]
        simp
        omega
      simp only [x_sSet,x_full_cons,x_full_nil,Option.map_some,Option.map_none,x_eB,x_eV,x_eC,List.getElem?_cons_succ,List.getElem?_cons_zero,bindR_ok,optR_some,v_sub,v_add,d1]
      rw [show 1 + (m - 1) = m by omega]
      rfl
    by_cases h:c1 / 64 % 3 = 0
    · obtain ⟨cs,f1,f2⟩:=fin (cutA (Str.ofString "abcdefghijklmnopqrstuvwxyz").cps.toList none (some m)) (by have:=g1.2.1.2; omega)
      refine ⟨cs,_,?_,f2,g1.1,g1.2.1.1,g1.2.1.2,g1.2.2⟩
      unfold b__law_word
      refine seq_go fun bb hb=>?_
      simp
      subst hb
      refine seq_go fun bb hb=>?_
      simp [e1]
      subst hb
      refine seq_go fun bb hb=>?_
      rw [st3]
      simp
      subst hb
      refine seq_go fun bb hb=>?_
      simp [e2,listXD,abc_len,signsD_sgn,s1,cut_sgn]
      subst hb
      refine seq_go fun bb hb=>?_
      simp [h,listXD,abc_len,signsD_sgn,len_mk]
      rw [if_pos (by have:=g1.2.1.2; omega)]
      simp
      subst hb
      exact f1
    · obtain ⟨cs,f1,f2⟩:=fin (cutA ds none (some m)) (by have:=g2.2.1.2; omega)
      refine ⟨cs,_,?_,f2,g2.1,g2.2.1.1,g2.2.1.2,g2.2.2⟩
      unfold b__law_word
      refine seq_go fun bb hb=>?_
      simp
      subst hb
      refine seq_go fun bb hb=>?_
      simp [e1]
      subst hb
      refine seq_go fun bb hb=>?_
      rw [st3]
      simp
      subst hb
      refine seq_go fun bb hb=>?_
      simp [e2,listXD,abc_len,signsD_sgn,s1,cut_sgn]
      subst hb
      refine seq_go fun bb hb=>?_
      simp [h]
      subst hb
      exact f1
  obtain ⟨cs,ls,k1,k2⟩:=key
  exact ⟨cs,ls,run_rt rfl k1,k2⟩
end Mp

namespace Mp
def sh (s:Nat) (cs:List Nat):List Nat:=cs.drop s ++ cs.take s
theorem sh_len (s:Nat) (cs:List Nat):(sh s cs).length = cs.length:=by
  unfold sh
  simp
  omega
theorem ext_getD {a b:List Nat} (hl:a.length = b.length) (h:∀ i,i < a.length → a.getD i 0 = b.getD i 0):a = b:=by
  refine List.ext_getElem hl fun i h1 h2=>?_
  have:=h i h1
  rwa [List.getD_eq_getElem?_getD,List.getD_eq_getElem?_getD,List.getElem?_eq_getElem h1,List.getElem?_eq_getElem h2] at this
theorem sh_get {s i:Nat} {cs:List Nat} (hs:s ≤ cs.length) (hi:i < cs.length):(sh s cs).getD i 0 = cs.getD ((i + s) % cs.length) 0:=by
  unfold sh
  rw [List.getD_eq_getElem?_getD,List.getD_eq_getElem?_getD]
  congr 1
  by_cases h:i < cs.length - s
  · rw [List.getElem?_append_left (by simpa using h),List.getElem?_drop,Nat.mod_eq_of_lt (by omega),Nat.add_comm]
  · rw [List.getElem?_append_right (by simpa using h),List.length_drop,List.getElem?_take_of_lt (by omega)]
    congr 1
    rw [show i + s = (i - (cs.length - s)) + cs.length by omega,Nat.add_mod_right,Nat.mod_eq_of_lt (by omega)]
theorem sh_zero (cs:List Nat):sh 0 cs = cs:=by simp [sh]
theorem sh_sh {s t:Nat} {cs:List Nat} (hs:s ≤ cs.length) (ht:t ≤ cs.length):sh t (sh s cs) = sh ((s + t) % cs.length) cs:=by
  refine ext_getD (by rw [sh_len,sh_len,sh_len]) fun i hi=>?_
  rw [sh_len,sh_len] at hi
  have hp:0 < cs.length:=by omega
  have hm:∀ x,x % cs.length < cs.length:=fun x=>Nat.mod_lt _ hp
  rw [sh_get (by rw [sh_len]; exact ht) (by rw [sh_len]; exact hi),sh_len,sh_get hs (hm _),sh_get (Nat.le_of_lt (hm _)) hi]
  congr 1
  rw [Nat.mod_add_mod,Nat.add_mod_mod]
  congr 1
  omega
theorem rev_sh {s:Nat} {cs:List Nat} (hs:s ≤ cs.length):(sh s cs).reverse = sh (cs.length - s) cs.reverse:=by
  unfold sh
  rw [List.reverse_append,List.drop_reverse,List.take_reverse]
  congr 2
  · congr 1; omega
  · congr 1; omega
theorem sh_mem {s:Nat} {cs:List Nat} (x:Nat):x ∈ sh s cs ↔ x ∈ cs:=by
  unfold sh
  rw [List.mem_append]
  conv=>rhs; rw [← List.take_append_drop s cs]
  rw [List.mem_append]
  exact Or.comm
theorem sh_map (f:Nat → Nat) (s:Nat) (cs:List Nat):sh s (cs.map f) = (sh s cs).map f:=by
  unfold sh
  simp
def forms (cs:List Nat):List (List Nat):=(List.range cs.length).map (fun s=>sh s cs) ++ (List.range cs.length).map fun s=>(sh s cs).reverse
theorem forms_mem {cs v:List Nat}:v ∈ forms cs ↔ ∃ s,s < cs.length ∧ (v = sh s cs ∨ v = (sh s cs).reverse):=by
  unfold forms
  rw [List.mem_append,List.mem_map,List.mem_map]
  constructor
  · rintro (⟨s,h,rfl⟩ | ⟨s,h,rfl⟩)
    · exact ⟨s,List.mem_range.mp h,.inl rfl⟩
    · exact ⟨s,List.mem_range.mp h,.inr rfl⟩
  · rintro ⟨s,h,rfl | rfl⟩
    · exact .inl ⟨s,List.mem_range.mpr h,rfl⟩
    · exact .inr ⟨s,List.mem_range.mpr h,rfl⟩
theorem forms_len {cs v:List Nat} (h:v ∈ forms cs):v.length = cs.length:=by
  obtain ⟨s,_,rfl | rfl⟩:=forms_mem.mp h
  · exact sh_len s cs
  · rw [List.length_reverse,sh_len]
theorem forms_in {cs v:List Nat} (h:v ∈ forms cs) (x:Nat):x ∈ v ↔ x ∈ cs:=by
  obtain ⟨s,_,rfl | rfl⟩:=forms_mem.mp h
  · exact sh_mem x
  · rw [List.mem_reverse,sh_mem]
theorem forms_trans {cs u v:List Nat} (hu:u ∈ forms cs) (hv:v ∈ forms u):v ∈ forms cs:=by
  have hl:=forms_len hu
  obtain ⟨s,hs,hu⟩:=forms_mem.mp hu
  obtain ⟨t,ht,hv⟩:=forms_mem.mp hv
  have hp:0 < cs.length:=by omega
  have e1:sh t (sh s cs) = sh ((s + t) % cs.length) cs:=sh_sh (Nat.le_of_lt hs) (by omega)
  have e2:sh t (sh s cs).reverse = (sh ((s + (cs.length - t)) % cs.length) cs).reverse:=by
    rw [← sh_sh (Nat.le_of_lt hs) (by omega),rev_sh (s:=cs.length - t) (by rw [sh_len]; omega),sh_len]
    congr 1
    omega
  rcases hu with rfl | rfl
  · rcases hv with rfl | rfl
    · exact forms_mem.mpr ⟨_,Nat.mod_lt _ hp,.inl e1⟩
    · exact forms_mem.mpr ⟨_,Nat.mod_lt _ hp,.inr (by rw [e1])⟩
  · rcases hv with rfl | rfl
    · exact forms_mem.mpr ⟨_,Nat.mod_lt _ hp,.inr e2⟩
    · exact forms_mem.mpr ⟨_,Nat.mod_lt _ hp,.inl (by rw [e2,List.reverse_reverse])⟩
def wr (cs:List Nat):List Nat:=cs.map fun c=>97 + (ords cs).idxOf c
theorem ords_mapA (f:Nat → Nat):∀ cs:List Nat,(∀ x ∈ cs,∀ y ∈ cs,f x = f y → x = y) → ords (cs.map f) = (ords cs).map f:=by
  refine rev_ind (fun _=>by simp [ords]) fun l a ih h=>?_
  have ih':=ih fun x hx y hy e=>h x (by simp [hx]) y (by simp [hy]) e
  rw [List.map_append,List.map_cons,List.map_nil,ords_app,ords_app,ih']
  have hm:f a ∈ (ords l).map f ↔ a ∈ ords l:=by
    rw [List.mem_map]
    constructor
    · rintro ⟨y,hy,e⟩
      have:y = a:=h y (by simp [(ords_mem l y).mp hy]) a (by simp) e
      rw [← this]; exact hy
    · exact fun z=>⟨a,z,rfl⟩
  by_cases z:a ∈ ords l
  · rw [if_pos z,if_pos (hm.mpr z)]
  · rw [if_neg z,if_neg fun w=>z (hm.mp w)]
    simp
theorem ords_map {f:Nat → Nat} {cs:List Nat} (h:∀ x ∈ cs,∀ y ∈ cs,f x = f y → x = y):ords (cs.map f) = (ords cs).map f:=ords_mapA f cs h
theorem idx_mapW {f:Nat → Nat} {x:Nat}:∀ {l:List Nat},(∀ y ∈ l,f y = f x → y = x) → (l.map f).idxOf (f x) = l.idxOf x
  | [],_=>rfl
  | a :: r,h=>by
    rw [List.map_cons,List.idxOf_cons,List.idxOf_cons,idx_mapW (l:=r) fun y hy=>h y (by simp [hy])]
    by_cases z:a = x
    · subst z; simp
    · have hne:¬ f a = f x:=fun w=>z (h a (by simp) w)
      rw [show (f a == f x) = false by simpa using hne,show (a == x) = false by simpa using z]
theorem wr_map {f:Nat → Nat} {cs:List Nat} (h:∀ x ∈ cs,∀ y ∈ cs,f x = f y → x = y):wr (cs.map f) = wr cs:=by
  unfold wr
  rw [ords_map h,List.map_map]
  refine List.map_congr_left fun x hx=>?_
  show 97 + ((ords cs).map f).idxOf (f x) = _
  rw [idx_mapW fun y hy e=>h y ((ords_mem cs y).mp hy) x hx e]
theorem idx_injW {l:List Nat} {x y:Nat} (hx:x ∈ l) (hy:y ∈ l) (e:l.idxOf x = l.idxOf y):x = y:=by
  have h1:=List.idxOf_lt_length_of_mem hx
  have h2:=List.idxOf_lt_length_of_mem hy
  have e1:l[l.idxOf x]'h1 = x:=List.getElem_idxOf h1
  have e2:l[l.idxOf y]'h2 = y:=List.getElem_idxOf h2
  rw [← e1,← e2]
  congr 1
theorem wr_apart {cs:List Nat}:∀ x ∈ cs,∀ y ∈ cs,97 + (ords cs).idxOf x = 97 + (ords cs).idxOf y → x = y:=fun x hx y hy e =>
  idx_injW ((ords_mem cs x).mpr hx) ((ords_mem cs y).mpr hy) (by omega)
theorem wr_len (cs:List Nat):(wr cs).length = cs.length:=by simp [wr]
theorem wr_wr (cs:List Nat):wr (wr cs) = wr cs:=wr_map wr_apart
theorem wr_forms {u v:List Nat} (h:v ∈ forms (wr u)):∃ v' ∈ forms u,wr v = wr v':=by
  obtain ⟨s,hs,hv⟩:=forms_mem.mp h
  rw [wr_len] at hs
  have e1:sh s (wr u) = (sh s u).map fun c=>97 + (ords u).idxOf c:=sh_map _ _ _
  have ha:∀ v':List Nat,(∀ x,x ∈ v' ↔ x ∈ u) → ∀ x ∈ v',∀ y ∈ v',97 + (ords u).idxOf x = 97 + (ords u).idxOf y → x = y:=fun v' hv' x hx y hy e=>wr_apart x ((hv' x).mp hx) y ((hv' y).mp hy) e
  rcases hv with rfl | rfl
  · refine ⟨sh s u,forms_mem.mpr ⟨s,hs,.inl rfl⟩,?_⟩
    rw [e1]
    exact wr_map (ha _ fun x=>sh_mem x)
  · refine ⟨(sh s u).reverse,forms_mem.mpr ⟨s,hs,.inr rfl⟩,?_⟩
    rw [e1,← List.map_reverse]
    exact wr_map (ha _ fun x=>by rw [List.mem_reverse,sh_mem])
theorem nodup_le:∀ {a b:List Nat},a.Nodup → (∀ x ∈ a,x ∈ b) → a.length ≤ b.length
  | [],b,_,_=>Nat.zero_le _
  | x :: r,b,hn,h=>by
    have hx:=h x (by simp)
    have:=nodup_le (a:=r) (b:=b.erase x) (List.nodup_cons.mp hn).2 fun y hy=>by
      refine (List.mem_erase_of_ne ?_).mpr (h y (by simp [hy]))
      rintro rfl
      exact (List.nodup_cons.mp hn).1 hy
    rw [List.length_erase_of_mem hx] at this
    have hb:0 < b.length:=List.length_pos_of_mem hx
    simp only [List.length_cons]
    omega
theorem ords_le {cs l:List Nat} (h:∀ x ∈ cs,x ∈ l):(ords cs).length ≤ l.length:=nodup_le (ords_nodup cs) fun x hx=>h x ((ords_mem cs x).mp hx)
theorem ords_forms {cs v:List Nat} (h:v ∈ forms cs):(ords v).length ≤ (ords cs).length:=ords_le fun x hx=>(ords_mem cs x).mpr ((forms_in h x).mp hx)
end Mp

namespace Mp
open Mi PySem
theorem order_ords (cs:List Nat) (hz:cs.length ≤ 1000):m_place_order [.str ⟨cs.toArray⟩] = okR (.str ⟨(ords cs).toArray⟩):=by
  rw [order_prog cs hz,ords_first cs]
  rfl
theorem abc_str:(Str.ofString "abcdefghijklmnopqrstuvwxyz") = ⟨((List.range 26).map (97 + ·)).toArray⟩:=str_eq abc_cps
theorem get_abc {n k:Nat} (h:k < n):((List.range n).map (97 + ·)).getD k 0 = 97 + k:=by
  rw [List.getD_eq_getElem?_getD,List.getElem?_map,List.getElem?_range h]
  rfl
theorem letter26 {k:Nat} (h:k < 26):ixD (.str "abcdefghijklmnopqrstuvwxyz") (.int (k:Int)) = some (sgn (97 + k)):=by
  rw [abc_str,ix_sgn (by simpa using h) (by simp),get_abc h]
theorem written_prog (cs:List Nat) (hz:cs.length ≤ 1000) (ho:(ords cs).length ≤ 26):m_written [.str ⟨cs.toArray⟩] = okR (.str ⟨(wr cs).toArray⟩):=by
  have hc:eComp (iSq (eV 0)) 1 (.one 2) Mi.tYes (eB ixD (eC (.str "abcdefghijklmnopqrstuvwxyz")) (eMt findD (eV 1) (aCons (eV 2) aNil))) [some (.str ⟨cs.toArray⟩),some (.str ⟨(ords cs).toArray⟩)] = okR (.lst ((wr cs).map sgn)):=by
    rw [comp_items (ρ:=[some (.str ⟨cs.toArray⟩),some (.str ⟨(ords cs).toArray⟩)]) (i:=2) sgn (fun c=>sgn (97 + (ords cs).idxOf c)) cs rfl rfl (fun c hc=>?_) (iSq (eV 0)) (by simp only [x_iSq,x_eV,List.getElem?_cons_zero,bindR_ok]; rfl) (by omega)]
    · unfold wr; rw [List.map_map]; rfl
    · have hm:=(ords_mem cs c).mpr hc
      have h1:=find_sgn hm
      have h2:=letter26 (k:=(ords cs).idxOf c) (by have:=List.idxOf_lt_length_of_mem hm; omega)
      show eB ixD (eC (.str "abcdefghijklmnopqrstuvwxyz")) (eMt findD (eV 1) (aCons (eV 2) aNil)) [some (.str ⟨cs.toArray⟩),some (.str ⟨(ords cs).toArray⟩),some (sgn c)] = _
      simp only [x_eB,x_eC,x_eMt,x_eV,x_aCons,x_aNil,List.getElem?_cons_succ,List.getElem?_cons_zero,bindR_ok,h1,optR_some]
      rw [if_pos (show isStrD (Dt.str { cps:=(ords cs).toArray }) = true from rfl),bindR_ok,h2]
      rfl
  have key:b_written [some (.str ⟨cs.toArray⟩,0),none] = okR (.rt (.str ⟨(wr cs).toArray⟩)):=by
    unfold b_written
    refine seq_go fun bb hb=>?_
    simp [order_ords cs hz]
    subst hb
    have j:=join_sgn (wr cs) (by rw [wr_len]; omega)
    simp [hc,j]
  exact run_rt rfl key
theorem shifted_prog (cs:List Nat) (hz:cs.length ≤ 100) {s:Nat} (hs:s < cs.length):m_shifted [.str ⟨cs.toArray⟩,.int (s:Int)] = okR (.str ⟨(sh s cs).toArray⟩):=by
  have key:b_shifted [some (.str ⟨cs.toArray⟩,0),some (.int (s:Int),0),none] = okR (.rt (.str ⟨(sh s cs).toArray⟩)):=by
    unfold b_shifted
    have d1:modD (.int (s:Int)) (.int (cs.length:Int)) = some (.int (s:Int)):=by
      have:(s:Int) % (cs.length:Int) = s:=Int.emod_eq_of_lt (by omega) (by omega)
      simp [show 0 < cs.length by omega,this]
    have s1:=sl_str (a:=cs) none (some (s:Int)) (by omega)
    have s2:=sl_str (a:=cs) (some (s:Int)) none (by omega)
    rw [cut_to] at s1
    rw [cut_from] at s2
    have a2:=add_str (a:=cs.drop s) (b:=cs.take s) (by simp; omega)
    have hl:=len_str1 (cs:=cs) (by omega)
    refine seq_go fun bb hb=>?_
    simp only [x_sSet,x_full_cons,x_full_nil,Option.map_some,Option.map_none,x_eB,x_eV,x_eBi,x_aCons,x_aNil,List.getElem?_cons_succ,List.getElem?_cons_zero,bindR_ok,hl,optR_some,d1]
    simp
    subst hb
    simp [s1,s2,a2,-v_slS,-v_addS]
    rfl
  exact run_rt rfl key
theorem rev_str (cs:List Nat) (hz:cs.length ≤ 1000):revD (.str ⟨cs.toArray⟩) (.int (-1)) = some (.str ⟨cs.reverse.toArray⟩):=by
  show (@ite _ ((-1:Int) = -1 ∧ (Str.mk cs.toArray).length ≤ 100000) (Classical.propDecidable _) (some (Dt.str ⟨cs.reverse.toArray⟩)) none) = _
  rw [if_pos ⟨rfl,by rw [len_mk]; omega⟩]
theorem form_prog (cs:List Nat) (hz:cs.length ≤ 100) {s:Nat} (hs:s < cs.length) (b:Bool):m_form_of [.str ⟨cs.toArray⟩,.int (s:Int),.bl b] = okR (.str ⟨(if b = true then (sh s cs).reverse else sh s cs).toArray⟩):=by
  have key:b_form_of [some (.str ⟨cs.toArray⟩,0),some (.int (s:Int),0),some (.bl b,0),none] = okR (.rt (.str ⟨(if b = true then (sh s cs).reverse else sh s cs).toArray⟩)):=by
    unfold b_form_of
    have h1:=shifted_prog cs hz hs
    have h2:=rev_str (sh s cs) (by rw [sh_len]; omega)
    refine seq_go fun bb hb=>?_
    simp [h1]
    subst hb
    cases b <;> simp [h2]
  exact run_rt rfl key
end Mp

namespace Mp
open Mi PySem
def stz (l:List Nat):Str:=⟨l.toArray⟩
theorem strs_map:∀ zs:List Str,strsD (zs.map .str) = some zs
  | []=>rfl
  | z :: r=>by
    show (strsD (r.map .str)).map _ = _
    rw [strs_map r]
    rfl
theorem dep_strs (zs:List Str):Dt.depL (zs.map .str) = 0:=flatL fun d hd=>by
  obtain ⟨z,_,rfl⟩:=List.mem_map.mp hd
  rfl
def wrs (cs:List Nat):List Str:=(forms cs).map fun u=>stz (wr u)
theorem least_prog (cs:List Nat) (hz:cs.length ≤ 100) (ho:(ords cs).length ≤ 26) {m:Str} {r:List Str} (hm:sortZ (wrs cs) = m :: r):m_least_writing [.str ⟨cs.toArray⟩] = okR (.str m):=by
  have hl:=len_str1 (cs:=cs) (by omega)
  have fwd:∀ (ρ:Rh) (b:Bool),ρ.length = 3 → ρ[0]? = some (some (.str ⟨cs.toArray⟩)) → eComp (iR1 (aCons (eBi lenD (aCons (eV 0) aNil)) aNil)) 1 (.one 3) Mi.tYes (eCall m_written (aCons (eCall m_form_of (aCons (eV 0) (aCons (eV 3) (aCons (eC (.bl b)) aNil)))) aNil)) ρ = okR (.lst (((List.range cs.length).map fun s=>stz (wr (if b = true then (sh s cs).reverse else sh s cs))).map .str)):=by
    intro ρ b h3 h0
    rw [comp_range (fun s=>.str (stz (wr (if b = true then (sh s cs).reverse else sh s cs)))) cs.length rfl h3.symm (fun s hs=>?_) _ (x_iR1 (n:=cs.length) (by simp only [x_aCons,x_aNil,x_eBi,x_eV,h0,bindR_ok,hl,optR_some]) (by omega)) (by omega)]
    · rw [List.map_map]; rfl
    · have e0:(ρ ++ [some (Dt.int (s:Nat))])[0]? = some (some (.str ⟨cs.toArray⟩)):=by rw [List.getElem?_append_left (by omega),h0]
      have e3:(ρ ++ [some (Dt.int (s:Nat))])[3]? = some (some (.int (s:Nat))):=by rw [List.getElem?_append_right (by omega),h3]; rfl
      have f1:=form_prog cs hz hs b
      have hv:(if b = true then (sh s cs).reverse else sh s cs) ∈ forms cs:=forms_mem.mpr ⟨s,hs,by cases b; exact .inl rfl; exact .inr rfl⟩
      have f2:=written_prog (if b = true then (sh s cs).reverse else sh s cs) (by rw [forms_len hv]; omega) (Nat.le_trans (ords_forms hv) ho)
      simp only [x_eCall,x_aCons,x_aNil,x_eV,x_eC,e0,e3,bindR_ok,f1,f2]
      rfl
  have key:b_least_writing [some (.str ⟨cs.toArray⟩,0),none,none] = okR (.rt (.str m)):=by
    have w1:=fwd [some (.str ⟨cs.toArray⟩),none,none] false rfl rfl
    have dd:=dep_strs ((List.range cs.length).map fun s=>stz (wr (sh s cs)))
    have dd2:=dep_strs ((List.range cs.length).map fun s=>stz (wr (sh s cs).reverse))
    simp only [Bool.false_eq_true,if_false] at w1
    unfold b_least_writing
    generalize hA:(List.range cs.length).map (fun s=>stz (wr (sh s cs))) = A at *
    have w2:=fwd [some (.str ⟨cs.toArray⟩),some (.lst (A.map .str)),none] true rfl rfl
    simp only [if_true] at w2
    generalize hB:(List.range cs.length).map (fun s=>stz (wr (sh s cs).reverse)) = B at *
    have hAB:wrs cs = A ++ B:=by
      unfold wrs forms
      rw [List.map_append,List.map_map,List.map_map,← hA,← hB]
      rfl
    have lA:A.length = cs.length:=by rw [← hA]; simp
    have lB:B.length = cs.length:=by rw [← hB]; simp
    have mn:minSD [.lst ((A ++ B).map .str)] = some (.str m):=by
      show (match strsD ((A ++ B).map .str) with | some zs=>(match sortZ zs with | m :: _=>some (Dt.str m) | []=>none) | none=>none) = _
      rw [strs_map]
      dsimp only
      rw [← hAB,hm]
    rw [List.map_append] at mn
    refine seq_go fun bb hb=>?_
    refine nxR_of (r:=[some (.str ⟨cs.toArray⟩,0),some (.lst (A.map .str),1),none]) (by simp [w1,dd]) ?_
    subst hb
    refine seq_go fun bb hb=>?_
    refine nxR_of (r:=[some (.str ⟨cs.toArray⟩,0),some (.lst (A.map .str),1),some (.lst (B.map .str),1)]) (by simp [w2,dd2]) ?_
    subst hb
    simp [mn,show A.length + B.length ≤ 100000 by omega]
  exact run_rt rfl key
def lwrs (cs:List Nat) (k:Nat):List Str:=(List.range k).flatMap fun s=>[stz (wr (sh s cs)),stz (wr (sh s cs).reverse)]
theorem inter_perm {α:Type} (f g:Nat → α):∀ l:List Nat,(l.flatMap fun s=>[f s,g s]).Perm (l.map f ++ l.map g)
  | []=>by simp
  | a :: r=>by
    simp only [List.flatMap_cons,List.map_cons,List.cons_append,List.nil_append]
    exact ((inter_perm f g r).cons (g a)).cons (f a) |>.trans ((List.perm_middle.symm).cons (f a))
theorem lwrs_perm (cs:List Nat):(lwrs cs cs.length).Perm (wrs cs):=by
  unfold lwrs wrs forms
  rw [List.map_append,List.map_map,List.map_map]
  exact inter_perm _ _ _
end Mp

namespace Mp
open Mi PySem
theorem least_self (cs:List Nat) (hn:0 < cs.length) {m:Str} {r:List Str} (hm:sortZ (wrs cs) = m :: r):∃ u,u ∈ forms cs ∧ m = stz (wr u) ∧ ∃ r',sortZ (wrs (wr u)) = m :: r':=by
  have hp:=sortZ_perm (wrs cs)
  have hw:=sortZ_asc (wrs cs)
  rw [hm] at hp hw
  obtain ⟨u,hu,rfl⟩:=List.mem_map.mp (hp.mem_iff.mp (List.mem_cons_self ..))
  refine ⟨u,hu,rfl,?_⟩
  have hul:=forms_len hu
  have hin:stz (wr u) ∈ wrs (wr u):=List.mem_map.mpr ⟨wr u,forms_mem.mpr ⟨0,by rw [wr_len]; omega,.inl (sh_zero _).symm⟩,by rw [wr_wr]⟩
  have hp2:=sortZ_perm (wrs (wr u))
  have hw2:=sortZ_asc (wrs (wr u))
  cases e:sortZ (wrs (wr u)) with
  | nil=>rw [e] at hp2; have:=hp2.mem_iff.mpr hin; simp at this
  | cons b r' =>
    rw [e] at hp2 hw2
    obtain ⟨v,hv,rfl⟩:=List.mem_map.mp (hp2.mem_iff.mp (List.mem_cons_self ..))
    obtain ⟨v',hv',ev⟩:=wr_forms hv
    have hb:stz (wr v) ∈ wrs cs:=List.mem_map.mpr ⟨v',forms_trans hu hv',by rw [ev]⟩
    have q1:(stz (wr u)).cps.toList ≤ (stz (wr v)).cps.toList:=by
      rcases List.mem_cons.mp (hp.mem_iff.mpr hb) with z | z
      · rw [z]; exact List.le_refl _
      · exact (List.pairwise_cons.mp hw).1 _ z
    have q2:(stz (wr v)).cps.toList ≤ (stz (wr u)).cps.toList:=by
      rcases List.mem_cons.mp (hp2.mem_iff.mpr hin) with z | z
      · rw [z]; exact List.le_refl _
      · exact (List.pairwise_cons.mp hw2).1 _ z
    exact ⟨r',by rw [str_eqZ (List.le_antisymm q2 q1)]⟩
def Good (cs:List Nat):Prop:=1 ≤ cs.length ∧ cs.length ≤ 20 ∧ (ords cs).length ≤ 10
end Mp

namespace Mp
open Mi PySem
end Mp

namespace Mp
open Mi PySem
end Mp

namespace Mp
open Mi PySem
@[simp] theorem x_eNew0 (c:Str) (ρ:Rh):eNew0 c ρ = okR (.ins c []):=rfl
@[simp] theorem x_eNew (c:Str) (fl:List Str) (am:AM) (ρ:Rh):eNew c fl am ρ = bindR (am ρ) fun ds=>match svsD ds with
  | some vs=>if vs.length = fl.length then okR (.ins c (fl.zip vs)) else none
  | none=>none:=rfl
@[simp] theorem x_eFld (hs:List Str) (f:Str) (e:EM) (ρ:Rh):eFld hs f e ρ = bindR (e ρ) fun d=>match d with
  | .ins c fs=>if c ∈ hs then (match fs.lookup f with | some v=>okR (dSv v) | none=>none) else none
  | _=>none:=rfl
@[simp] theorem x_eMeth (tb:List (Str × FM)) (m:Str) (e:EM) (am:AM) (ρ:Rh):eMeth tb m e am ρ = bindR (e ρ) fun d=>match d with
  | .ins c fs=>match tb.lookup c with
    | some g=>match fs.lookup m with
      | none=>bindR (am ρ) fun ds=>g (d :: ds)
      | some _=>none
    | none=>none
  | _=>none:=rfl
@[simp] theorem x_eIsO (ys ns:List Str) (e:EM) (ρ:Rh):eIsO ys ns e ρ = bindR (e ρ) fun d=>match d with
  | .ins c _=>if c ∈ ys then okR (.bl true) else if c ∈ ns then okR (.bl false) else none
  | _=>none:=rfl
@[simp] theorem v_dins (c:Str) (fs:List (Str × Sv)):(Dt.ins c fs).dep = 1000:=rfl
end Mp

namespace Mp
open Mi PySem
theorem len1 (x:Nat):lenD [sgn x] = some (.int 1):=len_str1 (cs:=[x]) (by simp)
end Mp

namespace Mp
open Mi PySem
end Mp

namespace Mp
open Mi PySem
end Mp

namespace Mp
open Mi PySem
theorem letters24 {cs:List Nat} (h0:0 < cs.length) (h1:cs.length ≤ 60):m_letters_of [.str ⟨cs.toArray⟩] = okR (.str ⟨(sosL cs).toArray⟩):=by
  have hso:sosD [.str ⟨cs.toArray⟩] = some (.lst ((sosL cs).map sgn)):=by
    show (@ite _ (0 < (⟨cs.toArray⟩:Str).length ∧ (⟨cs.toArray⟩:Str).length ≤ 60) (Classical.propDecidable _) (some (Dt.lst ((sosL cs.toArray.toList).map fun c=>Dt.str ⟨#[c]⟩))) none) = _
    rw [if_pos ⟨by show 0 < cs.toArray.size; simpa using h0,by show cs.toArray.size ≤ 60; simpa using h1⟩]
    rfl
  have hsl:(sosL cs).length ≤ 100000:=by
    have h2:(sosL cs).length = (ded cs).length:=(List.mergeSort_perm _ _).length_eq
    have h3:∀ l:List Nat,(ded l).length ≤ l.length:=by
      intro l
      induction l with
      | nil=>exact Nat.le_refl _
      | cons a r ih =>
        unfold ded
        split
        · simp only [List.length_cons]; omega
        · simp only [List.length_cons]; omega
    have h4:=h3 cs
    omega
  have hj:=join_sgn (sosL cs) hsl
  unfold m_letters_of b_letters_of
  exact run_rt rfl (by simp [hso,hj])
end Mp

namespace Mp
open Mi PySem
theorem forms_symm {cs u:List Nat} (hu:u ∈ forms cs):cs ∈ forms u:=by
  have hl:=forms_len hu
  obtain ⟨s,hs,hu⟩:=forms_mem.mp hu
  have hp:0 < cs.length:=by omega
  have e1:sh (cs.length - s) (sh s cs) = cs:=by
    rw [sh_sh (Nat.le_of_lt hs) (by omega),show s + (cs.length - s) = cs.length by omega,Nat.mod_self,sh_zero]
  rcases hu with rfl | rfl
  · rw [forms_mem,sh_len]
    by_cases h0:s = 0
    · subst h0
      exact ⟨0,hp,.inl (by rw [sh_zero,sh_zero])⟩
    · exact ⟨cs.length - s,by omega,.inl e1.symm⟩
  · rw [forms_mem,List.length_reverse,sh_len]
    refine ⟨s,hs,.inr ?_⟩
    rw [rev_sh (s:=s) (by rw [List.length_reverse,sh_len]; omega),List.reverse_reverse,List.length_reverse,sh_len]
    exact e1.symm
theorem forms_self {cs:List Nat} (h:0 < cs.length):cs ∈ forms cs:=forms_mem.mpr ⟨0,h,.inl (sh_zero _).symm⟩
theorem wr_forms' {u v:List Nat} (h:v ∈ forms u):∃ v' ∈ forms (wr u),wr v' = wr v:=by
  obtain ⟨s,hs,hv⟩:=forms_mem.mp h
  have e1:sh s (wr u) = (sh s u).map fun c=>97 + (ords u).idxOf c:=sh_map _ _ _
  have ha:∀ v':List Nat,(∀ x,x ∈ v' ↔ x ∈ u) → ∀ x ∈ v',∀ y ∈ v',97 + (ords u).idxOf x = 97 + (ords u).idxOf y → x = y:=fun v' hv' x hx y hy e=>wr_apart x ((hv' x).mp hx) y ((hv' y).mp hy) e
  rcases hv with rfl | rfl
  · refine ⟨sh s (wr u),forms_mem.mpr ⟨s,by rw [wr_len]; exact hs,.inl rfl⟩,?_⟩
    rw [e1]
    exact wr_map (ha _ fun x=>sh_mem x)
  · refine ⟨(sh s (wr u)).reverse,forms_mem.mpr ⟨s,by rw [wr_len]; exact hs,.inr rfl⟩,?_⟩
    rw [e1,← List.map_reverse]
    exact wr_map (ha _ fun x=>by rw [List.mem_reverse,sh_mem])
theorem wr_same {u v f:List Nat} (h:wr u = wr v) (hf:f ∈ forms u):∃ g ∈ forms v,wr g = wr f:=by
  obtain ⟨f',h1,h2⟩:=wr_forms' hf
  rw [h] at h1
  obtain ⟨g,h3,h4⟩:=wr_forms h1
  exact ⟨g,h3,by rw [← h4,h2]⟩
theorem sort_head {a b:List Str} {m m':Str} {r r':List Str} (h1:sortZ a = m :: r) (h2:sortZ b = m' :: r') (h:∀ x,x ∈ a ↔ x ∈ b):m = m':=by
  have p1:=sortZ_perm a
  have w1:=sortZ_asc a
  have p2:=sortZ_perm b
  have w2:=sortZ_asc b
  rw [h1] at p1 w1
  rw [h2] at p2 w2
  have q1:m.cps.toList ≤ m'.cps.toList:=by
    have hm:m' ∈ a:=(h m').mpr (p2.mem_iff.mp (List.mem_cons_self ..))
    rcases List.mem_cons.mp (p1.mem_iff.mpr hm) with z | z
    · rw [z]; exact List.le_refl _
    · exact (List.pairwise_cons.mp w1).1 _ z
  have q2:m'.cps.toList ≤ m.cps.toList:=by
    have hm:m ∈ b:=(h m).mp (p1.mem_iff.mp (List.mem_cons_self ..))
    rcases List.mem_cons.mp (p2.mem_iff.mpr hm) with z | z
    · rw [z]; exact List.le_refl _
    · exact (List.pairwise_cons.mp w2).1 _ z
  exact str_eqZ (List.le_antisymm q1 q2)
theorem same_least {one other f:List Nat} {m m':Str} {r r':List Str} (hf:f ∈ forms one) (hw:wr f = wr other) (h1:sortZ (wrs one) = m :: r) (h2:sortZ (wrs other) = m' :: r'):m = m':=by
  refine sort_head h1 h2 fun x=>?_
  constructor
  · intro hx
    obtain ⟨u,hu,rfl⟩:=List.mem_map.mp hx
    obtain ⟨g,g1,g2⟩:=wr_same hw (forms_trans (forms_symm hf) hu)
    exact List.mem_map.mpr ⟨g,g1,by rw [g2]⟩
  · intro hx
    obtain ⟨u,hu,rfl⟩:=List.mem_map.mp hx
    obtain ⟨g,g1,g2⟩:=wr_same hw.symm hu
    exact List.mem_map.mpr ⟨g,forms_trans hf g1,by rw [g2]⟩
theorem wr_pat {u v:List Nat} (h:wr u = wr v):u.length = v.length ∧ ∀ i j,i < u.length → j < u.length → u.getD i 0 = u.getD j 0 → v.getD i 0 = v.getD j 0:=by
  have hl:u.length = v.length:=by rw [← wr_len u,h,wr_len]
  refine ⟨hl,fun i j hi hj e=>?_⟩
  have key:∀ (w:List Nat) (i:Nat),i < w.length → (wr w).getD i 0 = 97 + (ords w).idxOf (w.getD i 0):=fun w i hi=>by
    unfold wr
    simp [hi]
  have e1:=key u i hi
  have e2:=key u j hj
  rw [e,← e2,h,key v i (by omega),key v j (by omega)] at e1
  have mem:∀ k,k < v.length → v.getD k 0 ∈ v:=fun k hk=>by
    rw [List.getD_eq_getElem?_getD,List.getElem?_eq_getElem hk]
    simp
  exact wr_apart _ (mem i (by omega)) _ (mem j (by omega)) e1
theorem led_word {f other:List Nat} (h:wr f = wr other):(f.map fun c=>other.getD (f.idxOf c) 0) = other:=by
  obtain ⟨hl,hp⟩:=wr_pat h
  refine ext_getD (by simp [hl]) fun i hi=>?_
  simp only [List.length_map] at hi
  have hm:f.getD i 0 ∈ f:=by
    rw [List.getD_eq_getElem?_getD,List.getElem?_eq_getElem hi]
    simp
  have e:(f.map fun c=>other.getD (f.idxOf c) 0).getD i 0 = other.getD (f.idxOf (f.getD i 0)) 0:=by
    simp [hi]
  rw [e]
  have hx:=List.idxOf_lt_length_iff.mpr hm
  refine hp _ _ hx hi ?_
  rw [List.getD_eq_getElem?_getD,List.getElem?_eq_getElem hx]
  simp
end Mp

namespace Mp
open Mi PySem
theorem seq_o {a b:SM} {r r1:Ro} {o:Option Dt} {P:Ro → Prop} (h1:a r = okR (.nx r1)) (h2:outR o (b r1) P):outR o (sSeq a b r) P:=by
  unfold sSeq
  rw [h1,bindR_ok]
  exact h2
end Mp

namespace Mp
open Mi PySem
theorem eq_strs (a b:List Nat):eqD (.str ⟨a.toArray⟩) (.str ⟨b.toArray⟩) = some (.bl (decide (a = b))):=by
  have:(({ cps:=a.toArray }:Str) = { cps:=b.toArray }) ↔ a = b:=by
    constructor
    · intro h
      have:=congrArg (fun s:Str=>s.cps.toList) h
      simpa using this
    · rintro rfl; rfl
  simp [this]
def lch (one f other:List Nat):List Nat:=(sosL one).map fun c=>other.getD (f.idxOf c) 0
theorem lchanged_prog {one f other:List Nat} (h0:0 < one.length) (h1:one.length ≤ 60) (hf:∀ x,x ∈ f ↔ x ∈ one) (hfl:f.length ≤ 60) (hl:other.length = f.length):m_letters_changed [.str ⟨one.toArray⟩,.str ⟨f.toArray⟩,.str ⟨other.toArray⟩] = okR (.str ⟨(lch one f other).toArray⟩):=by
  have hlo:=letters24 h0 h1
  have hsl:(sosL one).length ≤ 60:=by
    have:=nodup_le (sos_nodup one) fun x hx=>(sos_mem x one).mp hx
    omega
  have hc:eComp (iSq (eCall m_letters_of (aCons (eV 0) aNil))) 1 (.one 3) Mi.tYes (eB ixD (eV 2) (eMt findD (eV 1) (aCons (eV 3) aNil))) [some (.str ⟨one.toArray⟩),some (.str ⟨f.toArray⟩),some (.str ⟨other.toArray⟩)] = okR (.lst ((lch one f other).map sgn)):=by
    rw [comp_items (ρ:=[some (.str ⟨one.toArray⟩),some (.str ⟨f.toArray⟩),some (.str ⟨other.toArray⟩)]) (i:=3) sgn (fun c=>sgn (other.getD (f.idxOf c) 0)) (sosL one) rfl rfl (fun c hc=>?_) (iSq (eCall m_letters_of (aCons (eV 0) aNil))) (by simp only [x_iSq,x_eCall,x_eV,x_aCons,x_aNil,List.getElem?_cons_zero,bindR_ok,hlo]; rfl) (by omega)]
    · unfold lch; rw [List.map_map]; rfl
    · have hm:c ∈ f:=(hf c).mpr ((sos_mem c one).mp hc)
      have h1:=find_sgn hm
      have hx:=List.idxOf_lt_length_iff.mpr hm
      have h2:=ix_sgn (cs:=other) (k:=f.idxOf c) (by omega) (by omega)
      show eB ixD (eV 2) (eMt findD (eV 1) (aCons (eV 3) aNil)) [some (.str ⟨one.toArray⟩),some (.str ⟨f.toArray⟩),some (.str ⟨other.toArray⟩),some (sgn c)] = _
      simp only [x_eB,x_eC,x_eMt,x_eV,x_aCons,x_aNil,List.getElem?_cons_succ,List.getElem?_cons_zero,bindR_ok,h1,optR_some]
      rw [if_pos (show isStrD (Dt.str { cps:=f.toArray }) = true from rfl),bindR_ok,h2]
      rfl
  have key:b_letters_changed [some (.str ⟨one.toArray⟩,0),some (.str ⟨f.toArray⟩,0),some (.str ⟨other.toArray⟩,0)] = okR (.rt (.str ⟨(lch one f other).toArray⟩)):=by
    unfold b_letters_changed
    have j:=join_sgn (lch one f other) (by simp [lch]; omega)
    simp [hc,j]
  exact run_rt rfl key
def fm (cs:List Nat) (s:Nat) (b:Bool):List Nat:=if b = true then (sh s cs).reverse else sh s cs
theorem fm_mem {cs:List Nat} {s:Nat} (hs:s < cs.length) (b:Bool):fm cs s b ∈ forms cs:=by
  unfold fm
  cases b
  · exact forms_mem.mpr ⟨s,hs,.inl rfl⟩
  · exact forms_mem.mpr ⟨s,hs,.inr rfl⟩
def tS (one other:List Nat) (s:Nat) (b:Bool):Dt:=.tup [.str "same",.int (s:Int),.bl b,.str ⟨(lch one (fm one s b) other).toArray⟩]
def badC (one other:List Nat) (s:Nat):Option Dt:=if wr (fm one s false) = wr other then some (tS one other s false) else if wr (fm one s true) = wr other then some (tS one other s true) else none
theorem fb_some {bad:Nat → Option Dt}:∀ (m i:Nat) (d:Dt),firstBad bad i m = some d → ∃ k,i ≤ k ∧ k < i + m ∧ bad k = some d
  | 0,i,d,h=>by simp [firstBad] at h
  | m + 1,i,d,h=>by
    unfold firstBad at h
    cases e:bad i with
    | some x=>rw [e] at h; exact ⟨i,Nat.le_refl _,by omega,by rw [e]; exact h⟩
    | none =>
      rw [e] at h
      obtain ⟨k,h1,h2,h3⟩:=fb_some m (i + 1) d h
      exact ⟨k,by omega,by omega,h3⟩
theorem fb_all {bad:Nat → Option Dt}:∀ (m i:Nat),firstBad bad i m = none → ∀ k,i ≤ k → k < i + m → bad k = none
  | 0,i,_,k,h1,h2=>by omega
  | m + 1,i,h,k,h1,h2=>by
    unfold firstBad at h
    cases e:bad i with
    | some x=>rw [e] at h; cases h
    | none =>
      rw [e] at h
      by_cases hk:k = i
      · rw [hk]; exact e
      · exact fb_all m (i + 1) h k (by omega) (by omega)
theorem out_ifH {c:TM} {s:SM} {r:Ro} {p:Prop} [Decidable p] {x:Dt} {Pv:Ro → Prop} (hc:c (full r) = okR (decide p)) (hs:p → s r = okR (.rt x)) (hn:Pv r):outR (if p then some x else none) (sIf c s sNil r) Pv:=by
  unfold sIf
  rw [hc,bindR_ok]
  by_cases h:p
  · rw [if_pos h,if_pos (by simpa using h)]; exact hs h
  · rw [if_neg h,if_neg (by simpa using h)]; exact hn
theorem compared_prog {one other:List Nat} (g1:Good one) (g2:Good other) {m m':Str} {r r':List Str} (h1:sortZ (wrs one) = m :: r) (h2:sortZ (wrs other) = m' :: r') :
    (∃ s b,s < one.length ∧ wr (fm one s b) = wr other ∧ m_compared [.str ⟨one.toArray⟩,.str ⟨other.toArray⟩] = okR (tS one other s b)) ∨
    ((∀ f ∈ forms one,wr f ≠ wr other) ∧ m_compared [.str ⟨one.toArray⟩,.str ⟨other.toArray⟩] = okR (.tup [.str "unlike",.str m,.str m'])):=by
  obtain ⟨p1,p2,p3⟩:=g1
  obtain ⟨q1,q2,q3⟩:=g2
  have hl:=len_str1 (cs:=one) (by omega)
  have hwo:=written_prog other (by omega) (by omega)
  have hm1:=least_prog one (by omega) (by omega) h1
  have hm2:=least_prog other (by omega) (by omega) h2
  have hloop:outR (firstBad (badC one other) 0 one.length) ((sForR (iR1 (aCons (eBi lenD (aCons (eV 0) aNil)) aNil)) 2 (sFor [] (iSq (eTup (aCons (eC (.bl false)) (aCons (eC (.bl true)) aNil)))) (.one 3) (sSeq (sSet 4 0 [0,2,3] (eCall m_form_of (aCons (eV 0) (aCons (eV 2) (aCons (eV 3) aNil)))))
  (sIf (tB (eB eqD (eCall m_written (aCons (eV 4) aNil)) (eCall m_written (aCons (eV 1) aNil)))) (sRet 1 1 [2,3,0,4,1] (eTup (aCons (eC (.str "same")) (aCons (eV 2) (aCons (eV 3) (aCons (eCall m_letters_changed (aCons (eV 0) (aCons (eV 4) (aCons (eV 1) aNil)))) aNil)))))) sNil)))) [some (.str ⟨one.toArray⟩,0),some (.str ⟨other.toArray⟩,0),none,none,none]) (fun r=>∃ o2 o3 o4,r = [some (.str ⟨one.toArray⟩,0),some (.str ⟨other.toArray⟩,0),o2,o3,o4]):=by
    rw [x_sForR,x_iR1 (n:=one.length) (by simp only [x_aCons,x_aNil,x_eBi,x_eV,x_full_cons,x_full_nil,Option.map_some,Option.map_none,List.getElem?_cons_zero,bindR_ok,hl,optR_some]) (by omega),bindR_ok]
    refine out_up _ _ ⟨_,_,_,rfl⟩ fun s hs r hr=>?_
    obtain ⟨o2,o3,o4,rfl⟩:=hr
    show outR _ (sFor [] (iSq (eTup (aCons (eC (.bl false)) (aCons (eC (.bl true)) aNil)))) (.one 3) _ [some (.str ⟨one.toArray⟩,0),some (.str ⟨other.toArray⟩,0),some (.int (s:Int),0),o3,o4]) _
    let bad2:Nat → Option Dt:=fun j=>if wr (fm one s (decide (j = 1))) = wr other then some (tS one other s (decide (j = 1))) else none
    have eb:badC one other s = firstBad bad2 0 2:=by
      unfold badC
      simp only [firstBad,bad2]
      by_cases e1:wr (fm one s false) = wr other
      · simp [e1]
      · by_cases e2:wr (fm one s true) = wr other
        · simp [e1,e2]
        · simp [e1,e2]
    rw [eb,x_sFor]
    have hit:iSq (eTup (aCons (eC (.bl false)) (aCons (eC (.bl true)) aNil))) (frz (frzAt [] [some (.str ⟨one.toArray⟩,0),some (.str ⟨other.toArray⟩,0),some (.int (s:Int),0),o3,o4])) = okR [.bl false,.bl true]:=by simp
    rw [hit,bindR_ok]
    have hout:∀ (o:Option Dt) (x:R Out),outR o x (fun r=>∃ o3 o4,r = [some (.str ⟨one.toArray⟩,0),some (.str ⟨other.toArray⟩,0),some (.int (s:Int),0),o3,o4]) → outR o x (fun r=>∃ o2 o3 o4,r = [some (.str ⟨one.toArray⟩,0),some (.str ⟨other.toArray⟩,0),o2,o3,o4]):=by
      intro o x h
      cases o with
      | some d=>exact h
      | none =>
        obtain ⟨r',g1,o3,o4,g2⟩:=nxR_iff (show nxR x _ from h)
        exact nxR_of g1 ⟨_,o3,o4,g2⟩
    refine hout _ _ (for_out (tg:=.one 3) _ bad2 [.bl false,.bl true] _ ⟨o3,o4,rfl⟩ fun j d hd r hr=>?_)
    obtain ⟨o3,o4,rfl⟩:=hr
    have hd':d = .bl (decide (j = 1)) ∧ j < 2:=by
      match j,hd with
      | 0,hd=>simp at hd; exact ⟨hd.symm,by omega⟩
      | 1,hd=>simp at hd; exact ⟨hd.symm,by omega⟩
      | j + 2,hd=>simp at hd
    obtain ⟨rfl,hj⟩:=hd'
    refine ⟨_,rfl,?_⟩
    show outR (bad2 j) (sSeq _ _ [some (.str ⟨one.toArray⟩,0),some (.str ⟨other.toArray⟩,0),some (.int (s:Int),0),some (.bl (decide (j = 1)),0),o4]) _
    show outR (if wr (fm one s (decide (j = 1))) = wr other then some (tS one other s (decide (j = 1))) else none) _ _
    generalize decide (j = 1) = b
    have hfp:=form_prog one (by omega) hs b
    have hfm:=fm_mem hs b
    have hfl:=forms_len hfm
    have hwf:=written_prog (fm one s b) (by omega) (Nat.le_trans (ords_forms hfm) (by omega))
    replace hfp:m_form_of [.str ⟨one.toArray⟩,.int (s:Int),.bl b] = okR (.str ⟨(fm one s b).toArray⟩):=hfp
    refine seq_o (r1:=[some (.str ⟨one.toArray⟩,0),some (.str ⟨other.toArray⟩,0),some (.int (s:Int),0),some (.bl b,0),some (.str ⟨(fm one s b).toArray⟩,0)]) (by simp [hfp]) ?_
    refine out_ifH (p:=wr (fm one s b) = wr other) ?_ (fun he=>?_) ⟨_,_,rfl⟩
    · have he:=eq_strs (wr (fm one s b)) (wr other)
      simp only [x_tB,x_eB,x_eCall,x_aCons,x_aNil,x_eV,x_full_cons,x_full_nil,Option.map_some,Option.map_none,List.getElem?_cons_succ,List.getElem?_cons_zero,bindR_ok,hwf,hwo,he,optR_some]
    · have hlp:=lchanged_prog (one:=one) (f:=fm one s b) (other:=other) (by omega) (by omega) (forms_in hfm) (by omega) (wr_pat he).1.symm
      unfold tS
      simp [hlp]
  cases hfb:firstBad (badC one other) 0 one.length with
  | some d =>
    rw [hfb] at hloop
    obtain ⟨s,_,hs,hb⟩:=fb_some _ _ _ hfb
    have hs':s < one.length:=by omega
    have hrun:m_compared [.str ⟨one.toArray⟩,.str ⟨other.toArray⟩] = okR d:=by
      refine run_rt rfl ?_
      show b_compared [some (.str ⟨one.toArray⟩,0),some (.str ⟨other.toArray⟩,0),none,none,none] = _
      unfold b_compared
      exact seq_rt hloop
    unfold badC at hb
    split at hb
    · rename_i e
      cases hb
      exact .inl ⟨s,false,hs',e,hrun⟩
    · split at hb
      · rename_i e
        cases hb
        exact .inl ⟨s,true,hs',e,hrun⟩
      · cases hb
  | none =>
    rw [hfb] at hloop
    refine .inr ⟨fun f hf e=>?_,?_⟩
    · obtain ⟨s,hs,hv⟩:=forms_mem.mp hf
      have hn:=fb_all _ _ hfb s (by omega) (by omega)
      unfold badC at hn
      rcases hv with rfl | rfl
      · rw [if_pos (show wr (fm one s false) = wr other from e)] at hn
        cases hn
      · split at hn
        · cases hn
        · rw [if_pos (show wr (fm one s true) = wr other from e)] at hn
          cases hn
    · refine run_rt rfl ?_
      show b_compared [some (.str ⟨one.toArray⟩,0),some (.str ⟨other.toArray⟩,0),none,none,none] = _
      unfold b_compared
      obtain ⟨r',g1,o2,o3,o4,rfl⟩:=nxR_iff (show nxR _ _ from hloop)
      refine seq_go fun bb hb=>nxR_of g1 ?_
      subst hb
      simp [hm1,hm2]
end Mp

namespace Mp
open Mi PySem
theorem eqv_sgn (a c:Nat):Dt.eq (sgn a) (sgn c) = decide (a = c):=by
  have:(({ cps:=#[a] }:Str) = { cps:=#[c] }) ↔ a = c:=by
    constructor
    · intro h
      have:=congrArg (fun s:Str=>s.cps.toList) h
      simpa using this
    · rintro rfl; rfl
  show Dt.eq (.str _) (.str _) = _
  rw [Dt.eq,Bool.eq_iff_iff,beq_iff_eq,decide_eq_true_iff]
  exact this
theorem lif_find (c:Nat):∀ l:List Nat,c ∈ l → (l.map sgn).findIdx? (fun y=>Dt.eq y (sgn c)) = some (l.idxOf c)
  | a :: l,h=>by
    rw [List.map_cons,List.findIdx?_cons,eqv_sgn,List.idxOf_cons]
    by_cases e:a = c
    · subst e
      simp
    · have hm:c ∈ l:=by
        rcases List.mem_cons.mp h with z | z
        · exact absurd z.symm e
        · exact z
      have hb:(a == c) = false:=by simpa using e
      rw [lif_find c l hm]
      simp [e,hb]
  | [],h=>by simp at h
theorem lif_sgn {c:Nat} {l:List Nat} (h:c ∈ l):lifD (l.map sgn) [sgn c] = some (.int (l.idxOf c:Nat)):=by
  show (if (sgn c).dep = 0 ∧ Dt.depL (l.map sgn) = 0 then ((l.map sgn).findIdx? fun y=>Dt.eq y (sgn c)).map fun j=>Dt.int (j:Int) else none) = _
  rw [if_pos ⟨rfl,flatL (flat_sgn l)⟩,lif_find c l h]
  rfl
theorem sos_prog {cs:List Nat} (h0:0 < cs.length) (h1:cs.length ≤ 60):sosD [.str ⟨cs.toArray⟩] = some (.lst ((sosL cs).map sgn)):=by
  show @ite _ (0 < (Str.mk cs.toArray).length ∧ (Str.mk cs.toArray).length ≤ 60) (Classical.propDecidable _) (some (Dt.lst ((sosL cs).map fun c=>Dt.str ⟨#[c]⟩))) none = _
  rw [len_mk,if_pos ⟨h0,h1⟩]
  rfl
theorem rev_join {cs:List Nat} (h:cs.length ≤ 1000):joinRD (.str (Str.ofString "")) [.str ⟨cs.toArray⟩] = some (.str ⟨cs.reverse.toArray⟩):=by
  show @ite _ ((Str.ofString "").length = 0 ∧ (Str.mk cs.toArray).length ≤ 1000) (Classical.propDecidable _) (some (Dt.str ⟨cs.toArray.reverse⟩)) none = _
  rw [len_mk,if_pos ⟨len_empty,h⟩]
  simp
theorem head_of {cs:List Nat} (h:0 < cs.length):∃ m r r',sortZ (wrs cs) = m :: r ∧ sortZ (lwrs cs cs.length) = m :: r':=by
  have hin:stz (wr cs) ∈ wrs cs:=List.mem_map.mpr ⟨cs,forms_self h,rfl⟩
  cases e:sortZ (wrs cs) with
  | nil=>have:=(sortZ_perm (wrs cs)).mem_iff.mpr hin; rw [e] at this; simp at this
  | cons m r =>
    have hin2:=(lwrs_perm cs).mem_iff.mpr hin
    cases e2:sortZ (lwrs cs cs.length) with
    | nil=>have:=(sortZ_perm (lwrs cs cs.length)).mem_iff.mpr hin2; rw [e2] at this; simp at this
    | cons m' r' =>
      have:=sort_head e e2 fun x=>(lwrs_perm cs).mem_iff.symm
      subst this
      exact ⟨m,r,r',rfl,rfl⟩
end Mp

namespace Mp
open Mi PySem
end Mp

namespace Mp
open Mi PySem
theorem depL_ints:∀ a:List Int,Dt.depL (a.map Dt.int) = 0
  | []=>rfl
  | x :: r=>by simp only [List.map_cons]; rw [Dt.depL]; rw [depL_ints r]; rfl
end Mp

namespace Mp
open Mi PySem
theorem good_in {cs res:List Nat} (g:Good cs) (h1:1 ≤ res.length) (h2:res.length ≤ 20) (h:∀ x ∈ res,x ∈ cs):Good res :=
  ⟨h1,h2,Nat.le_trans (ords_le fun x hx=>(ords_mem cs x).mpr (h x hx)) g.2.2⟩
theorem sos_le {cs:List Nat} (g:Good cs):(sosL cs).length ≤ 10:=Nat.le_trans (nodup_le (sos_nodup cs) fun x hx=>(ords_mem cs x).mpr ((sos_mem x cs).mp hx)) g.2.2
theorem good_map {cs v:List Nat} (g:Good cs) (hv:v ∈ forms cs) (h:Nat → Nat):Good (v.map h):=by
  obtain ⟨p1,p2,p3⟩:=id g
  have hl:=forms_len hv
  refine ⟨by rw [List.length_map]; omega,by rw [List.length_map]; omega,?_⟩
  refine Nat.le_trans (ords_le (l:=(sosL cs).map h) fun x hx=>?_) (by rw [List.length_map]; exact sos_le g)
  obtain ⟨y,hy,rfl⟩:=List.mem_map.mp hx
  exact List.mem_map.mpr ⟨y,(sos_mem y cs).mpr ((forms_in hv y).mp hy),rfl⟩
theorem good_form {cs v:List Nat} (g:Good cs) (hv:v ∈ forms cs):Good v:=by
  have hl:=forms_len hv
  obtain ⟨p1,p2,p3⟩:=id g
  exact good_in g (by omega) (by omega) fun x hx=>(forms_in hv x).mp hx
theorem mod_nat {c:Int} {n:Nat} (h0:0 ≤ c) (hn:0 < n):∃ s:Nat,s < n ∧ c % (n:Int) = (s:Int):=by
  refine ⟨(c % (n:Int)).toNat,?_,?_⟩
  · have:=Int.emod_lt_of_pos c (show (0:Int) < (n:Int) by omega)
    have:=Int.emod_nonneg c (show (n:Int) ≠ 0 by omega)
    omega
  · have:=Int.emod_nonneg c (show (n:Int) ≠ 0 by omega)
    omega
theorem list_abc:listXD [.str "abcdefghijklmnopqrstuvwxyz"] = some (.lst (((List.range 26).map (97 + ·)).map sgn)):=by
  show @ite _ ((Str.ofString "abcdefghijklmnopqrstuvwxyz").length ≤ 100000) (Classical.propDecidable _) (some (Dt.lst (signsD (Str.ofString "abcdefghijklmnopqrstuvwxyz")))) none = _
  rw [abc_len,if_pos (by omega),signsD_sgn,abc_cps]
theorem ixL_sgn {l:List Nat} {k:Nat} (h:k < l.length):ixD (.lst (l.map sgn)) (.int (k:Int)) = some (sgn (l.getD k 0)):=by
  refine itA_of (j:=k) rfl ?_
  rw [List.getElem?_map,List.getElem?_eq_getElem h,List.getD_eq_getElem?_getD,List.getElem?_eq_getElem h]
  rfl
end Mp

namespace Mp
open Mi PySem
theorem fresh_inj {l fr:List Nat} (hn:fr.Nodup) (hl:l.length ≤ fr.length):∀ x ∈ l,∀ y ∈ l,fr.getD (l.idxOf x) 0 = fr.getD (l.idxOf y) 0 → x = y:=fun x hx y hy e=>by
  have h1:=List.idxOf_lt_length_iff.mpr hx
  have h2:=List.idxOf_lt_length_iff.mpr hy
  refine idx_injW hx hy ?_
  rw [List.getD_eq_getElem?_getD,List.getD_eq_getElem?_getD,List.getElem?_eq_getElem (show l.idxOf x < fr.length by omega),List.getElem?_eq_getElem (show l.idxOf y < fr.length by omega)] at e
  exact (List.getElem_inj hn).mp (by simpa using e)
theorem moved_eqv {cs:List Nat} (g:Good cs) (c n:Int) (h0:0 ≤ c):∃ res:List Nat,m__law_moved [.str ⟨cs.toArray⟩,.int c,.int n] = okR (.str ⟨res.toArray⟩) ∧ Good res ∧ ∃ u ∈ forms cs,wr u = wr res:=by
  obtain ⟨p1,p2,p3⟩:=id g
  obtain ⟨s,hs,hcs⟩:=mod_nat h0 (show 0 < cs.length by omega)
  have hl:=len_str1 (cs:=cs) (by omega)
  have hmd:modD (.int c) (.int (cs.length:Int)) = some (.int (s:Int)):=by
    simp [show 0 < cs.length by omega,hcs]
  have s1:=sl_str (a:=cs) none (some (s:Int)) (by omega)
  have s2:=sl_str (a:=cs) (some (s:Int)) none (by omega)
  rw [cut_to] at s1
  rw [cut_from] at s2
  have a2:addD (.str ⟨(cs.drop s).toArray⟩) (.str ⟨(cs.take s).toArray⟩) = some (.str ⟨(sh s cs).toArray⟩):=add_str (a:=cs.drop s) (b:=cs.take s) (by simp; omega)
  have hrv:=rev_join (cs:=sh s cs) (by rw [sh_len]; omega)
  have hsos:=sos_prog (cs:=cs) (by omega) (by omega)
  have hlabc:=list_abc
  obtain ⟨fr1,hf1,hp1⟩:=shuffled_permS ((List.range 26).map (97 + ·)) n (by simp)
  obtain ⟨fr2,hf2,hp2⟩:=shuffled_permS (sosL cs) n (by have:=sos_le g; omega)
  let b:Bool:=decide (c / 32 % 2 = 1)
  have hfm:=fm_mem hs b
  obtain ⟨res,hres,hg⟩:∃ res:List Nat,b__law_moved [some (.str ⟨cs.toArray⟩,0),some (.int c,0),some (.int n,0),none,none,none,none] = okR (.rt (.str ⟨res.toArray⟩)) ∧ Good res ∧ ∃ u ∈ forms cs,wr u = wr res:=by
    unfold b__law_moved
    have st1:∀ X,(∀ l4:Nat,l4 ≤ 1 → ∀ bb:SM,bb = (sSeq (sIf (tB (eB eqD (eB modD (eB divD (eV 1) (eC (.int 64))) (eC (.int 4))) (eC (.int 0)))) (sRetV 1 4) sNil)
  (sSeq (sSet 5 1 [0] (eBi sosD (aCons (eV 0) aNil)))
  (sSeq (sSet 6 9 [2] (eCall m__law_shuffled (aCons (eBi listXD (aCons (eC (.str "abcdefghijklmnopqrstuvwxyz")) aNil)) (aCons (eV 2) aNil))))
  (sSeq (sIf (tB (eB eqD (eB modD (eB divD (eV 1) (eC (.int 64))) (eC (.int 4))) (eC (.int 1)))) (sSet 6 9 [5,2] (eCall m__law_shuffled (aCons (eV 5) (aCons (eV 2) aNil)))) sNil)
  (sRet 1 1 [6,4,5] (eMt joinD (eC (.str "")) (aCons (eComp (iSq (eV 4)) 1 (.one 7) Mi.tYes (eB ixD (eV 6) (eMl lifD (eV 5) (aCons (eV 7) aNil)))) aNil))))))) → bb [some (.str ⟨cs.toArray⟩,0),some (.int c,0),some (.int n,0),some (.int (s:Int),0),some (.str ⟨(fm cs s b).toArray⟩,l4),none,none] = X) → b__law_moved [some (.str ⟨cs.toArray⟩,0),some (.int c,0),some (.int n,0),none,none,none,none] = X:=by
      intro X hX
      unfold b__law_moved
      refine seq_go fun bb hb=>nxR_of (r:=[some (.str ⟨cs.toArray⟩,0),some (.int c,0),some (.int n,0),some (.int (s:Int),0),none,none,none]) (by
        simp only [x_sSet,x_full_cons,x_full_nil,Option.map_some,Option.map_none,x_eB,x_eV,x_eBi,x_aCons,x_aNil,List.getElem?_cons_succ,List.getElem?_cons_zero,bindR_ok,hl,optR_some,hmd]
        simp) ?_
      subst hb
      refine seq_go fun bb hb=>nxR_of (r:=[some (.str ⟨cs.toArray⟩,0),some (.int c,0),some (.int n,0),some (.int (s:Int),0),some (.str ⟨(sh s cs).toArray⟩,1),none,none]) (by simp [s1,s2,a2,-v_slS,-v_addS]) ?_
      subst hb
      by_cases hb1:c / 32 % 2 = 1
      · have hbt:b = true:=by simp [b,hb1]
        refine seq_go fun bb hb=>nxR_of (r:=[some (.str ⟨cs.toArray⟩,0),some (.int c,0),some (.int n,0),some (.int (s:Int),0),some (.str ⟨(fm cs s b).toArray⟩,0),none,none]) (by rw [hbt]; simp [hb1,hrv,fm]) ?_
        exact hX 0 (by omega) _ hb
      · have hbt:b = false:=by simp [b,hb1]
        refine seq_go fun bb hb=>nxR_of (r:=[some (.str ⟨cs.toArray⟩,0),some (.int c,0),some (.int n,0),some (.int (s:Int),0),some (.str ⟨(fm cs s b).toArray⟩,1),none,none]) (by rw [hbt]; simp [hb1,fm]) ?_
        exact hX 1 (by omega) _ hb
    by_cases k0:c / 64 % 4 = 0
    · refine ⟨fm cs s b,?_,good_form g hfm,_,hfm,rfl⟩
      refine st1 _ fun l4 hl4 bb hb=>?_
      subst hb
      refine seq_rt ?_
      generalize fm cs s b = f
      have:l4 = 0 ∨ l4 = 1:=by omega
      rcases this with rfl | rfl
      · simp [k0]
      · simp [k0]
    · let fr:List Nat:=if c / 64 % 4 = 1 then fr2 else fr1
      have hfrl:(sosL cs).length ≤ fr.length:=by
        have h1:=hp1.length_eq
        have h2:=hp2.length_eq
        have h3:=sos_le g
        simp at h1
        show _ ≤ (if c / 64 % 4 = 1 then fr2 else fr1).length
        split <;> omega
      have hfn:fr.Nodup:=by
        show (if c / 64 % 4 = 1 then fr2 else fr1).Nodup
        split
        · exact hp2.nodup_iff.mpr (sos_nodup cs)
        · exact hp1.nodup_iff.mpr abc_nodup
      have hfrz:fr.length ≤ 100:=by
        have h1:=hp1.length_eq
        have h2:=hp2.length_eq
        have h3:=sos_le g
        simp at h1
        show (if c / 64 % 4 = 1 then fr2 else fr1).length ≤ _
        split <;> omega
      refine ⟨(fm cs s b).map fun x=>fr.getD ((sosL cs).idxOf x) 0,?_,good_map g hfm _,_,hfm,(wr_map fun x hx y hy=>fresh_inj hfn hfrl x ((sos_mem x cs).mpr ((forms_in hfm x).mp hx)) y ((sos_mem y cs).mpr ((forms_in hfm y).mp hy))).symm⟩
      refine st1 _ fun l4 hl4 bb hb=>?_
      subst hb
      have hfl:=forms_len hfm
      have hin:=forms_in hfm
      have hcomp:∀ o0 o1 o2 o3:Option Dt,eComp (iSq (eV 4)) 1 (.one 7) Mi.tYes (eB ixD (eV 6) (eMl lifD (eV 5) (aCons (eV 7) aNil))) [o0,o1,o2,o3,some (.str ⟨(fm cs s b).toArray⟩),some (.lst ((sosL cs).map sgn)),some (.lst (fr.map sgn))] = okR (.lst (((fm cs s b).map fun x=>fr.getD ((sosL cs).idxOf x) 0).map sgn)):=by
        intro o0 o1 o2 o3
        rw [comp_items (ρ:=[o0,o1,o2,o3,some (.str ⟨(fm cs s b).toArray⟩),some (.lst ((sosL cs).map sgn)),some (.lst (fr.map sgn))]) (i:=7) sgn (fun x=>sgn (fr.getD ((sosL cs).idxOf x) 0)) (fm cs s b) rfl rfl (fun x hx=>?_) (iSq (eV 4)) (by simp only [x_iSq,x_eV,List.getElem?_cons_succ,List.getElem?_cons_zero,bindR_ok]; rfl) (by omega)]
        · rw [List.map_map]; rfl
        · have hm:x ∈ sosL cs:=(sos_mem x cs).mpr ((hin x).mp hx)
          have hxl:=List.idxOf_lt_length_iff.mpr hm
          have e1:=lif_sgn hm
          have e2:=ixL_sgn (l:=fr) (k:=(sosL cs).idxOf x) (by omega)
          show eB ixD (eV 6) (eMl lifD (eV 5) (aCons (eV 7) aNil)) [o0,o1,o2,o3,some (.str ⟨(fm cs s b).toArray⟩),some (.lst ((sosL cs).map sgn)),some (.lst (fr.map sgn)),some (sgn x)] = _
          simp only [x_eB,x_eC,x_eV,x_eMl,x_aCons,x_aNil,List.getElem?_cons_succ,List.getElem?_cons_zero,bindR_ok,e1,optR_some]
          rw [e2]
          rfl
      have hjn:=join_sgn ((fm cs s b).map fun x=>fr.getD ((sosL cs).idxOf x) 0) (by simp; omega)
      have hdo:(Dt.lst ((sosL cs).map sgn)).dep ≤ 1:=by simp [flatL (flat_sgn (sosL cs))]
      have hd1:(Dt.lst (fr1.map sgn)).dep ≤ 9:=by simp [flatL (flat_sgn fr1)]
      have hd2:(Dt.lst (fr2.map sgn)).dep ≤ 9:=by simp [flatL (flat_sgn fr2)]
      have hfr:(Dt.lst (fr.map sgn)) = if c / 64 % 4 = 1 then Dt.lst (fr2.map sgn) else Dt.lst (fr1.map sgn):=by
        show Dt.lst ((if c / 64 % 4 = 1 then fr2 else fr1).map sgn) = _
        split <;> rfl
      generalize ((fm cs s b).map fun x=>fr.getD ((sosL cs).idxOf x) 0) = res at hcomp hjn ⊢
      generalize (Dt.lst (fr.map sgn)) = FR at hcomp hfr
      generalize (Dt.lst ((sosL cs).map sgn)) = OW at hcomp hdo hsos hf2
      generalize (Dt.lst (((List.range 26).map (97 + ·)).map sgn)) = AB at hlabc hf1
      generalize Dt.lst (fr1.map sgn) = F1 at hf1 hd1 hfr
      generalize Dt.lst (fr2.map sgn) = F2 at hf2 hd2 hfr
      generalize fm cs s b = f at hcomp ⊢
      refine seq_go fun bb hb=>nxR_of (r:=[some (.str ⟨cs.toArray⟩,0),some (.int c,0),some (.int n,0),some (.int (s:Int),0),some (.str ⟨f.toArray⟩,l4),none,none]) (by simp [k0]) ?_
      subst hb
      refine seq_go fun bb hb=>nxR_of (r:=[some (.str ⟨cs.toArray⟩,0),some (.int c,0),some (.int n,0),some (.int (s:Int),0),some (.str ⟨f.toArray⟩,l4),some (OW,1),none]) (by simp only [x_sSet,x_full_cons,x_full_nil,Option.map_some,Option.map_none,x_eBi,x_eV,x_aCons,x_aNil,List.getElem?_cons_zero,bindR_ok,hsos,optR_some]; rw [if_pos hdo]; rfl) ?_
      subst hb
      refine seq_go fun bb hb=>nxR_of (r:=[some (.str ⟨cs.toArray⟩,0),some (.int c,0),some (.int n,0),some (.int (s:Int),0),some (.str ⟨f.toArray⟩,l4),some (OW,1),some (F1,9)]) (by
        simp only [x_sSet,x_full_cons,x_full_nil,Option.map_some,Option.map_none,x_eCall,x_eBi,x_eC,x_eV,x_aCons,x_aNil,List.getElem?_cons_zero,List.getElem?_cons_succ,bindR_ok,hlabc,optR_some,hf1]
        rw [if_pos hd1]; rfl) ?_
      subst hb
      refine seq_go fun bb hb=>nxR_of (r:=[some (.str ⟨cs.toArray⟩,0),some (.int c,0),some (.int n,0),some (.int (s:Int),0),some (.str ⟨f.toArray⟩,l4),some (OW,1),some (FR,9)]) (by
        by_cases k1:c / 64 % 4 = 1
        · rw [hfr,if_pos k1]
          simp [k1,hf2,hd2]
        · rw [hfr,if_neg k1]
          simp [k1]) ?_
      subst hb
      simp [hcomp,hjn]
  exact ⟨res,run_rt rfl hres,hg⟩
theorem take_one {l:List Nat} (h:l ≠ []) (n:Int):∃ q:Nat,∃ hq:q < l.length,modD (.int n) (.int (l.length:Int)) = some (.int (q:Int)):=by
  have hp:=List.length_pos_iff.mpr h
  have h0:=Int.emod_nonneg n (show (l.length:Int) ≠ 0 by omega)
  have h1:=Int.emod_lt_of_pos n (show (0:Int) < (l.length:Int) by omega)
  exact ⟨(n % (l.length:Int)).toNat,by omega,by simp [hp]; omega⟩
theorem erase_map {α β:Type} (f:α → β):∀ (l:List α) (q:Nat),(l.map f).eraseIdx q = (l.eraseIdx q).map f
  | [],_=>rfl
  | _ :: _,0=>rfl
  | a :: r,q + 1=>by simp [erase_map f r q]
theorem pop_sgn {r:Ro} {j i l:Nat} {e:EM} {q:Nat} {lf es:List Nat} (hi:r[i]? = some (some (.lst (lf.map sgn),1))) (hj:r[j]? = some (some (.lst (es.map sgn),l + 1))) (he:e (full r) = okR (.int (q:Int))) (hq:q < lf.length) (hij:i ≠ j) (hz:lf.length ≤ 1000) (hz2:es.length ≤ 1000) :
    sAppPop j i e r = okR (.nx ((r.set i (some (.lst ((lf.eraseIdx q).map sgn),1))).set j (some (.lst ((es ++ [lf[q]]).map sgn),l + 1)))):=by
  rw [appPop_go (k:=0) (l:=l) (z:=(q:Int)) (ds:=lf.map sgn) (es:=es.map sgn) (c:=sgn lf[q]) hi hj he (by omega) (by simp; omega) (by simp [hq]) rfl hij (by simpa using hz) (by simpa using hz2) (by omega)]
  simp [erase_map]
theorem erase_app {lf es A:List Nat} {q:Nat} (hq:q < lf.length) (h:(lf ++ es).Perm A):(lf.eraseIdx q ++ (es ++ [lf[q]])).Perm A:=by
  refine List.Perm.trans ?_ h
  have h1:=pick_perm lf hq
  rw [← List.append_assoc]
  refine (List.perm_append_singleton _ _).trans ?_
  rw [← List.cons_append]
  exact h1.symm.append_right es
theorem ordered_perm (ds:List Nat) (n:Int) (hz:ds.length ≤ 500):∃ es:List Nat,m__law_ordered_v2 [.lst (ds.map sgn),.int n] = okR (.lst (es.map sgn)) ∧ es.Perm ds:=by
  suffices h:eiR (b__law_ordered_v2 [some (.lst (ds.map sgn),0),some (.int n,0),none,none]) (fun _=>False) (fun d=>∃ es:List Nat,d = .lst (es.map sgn) ∧ es.Perm ds) by
    rcases h with ⟨_,_,z⟩ | ⟨d,h1,es,rfl,h2⟩
    · exact z.elim
    · exact ⟨es,run_rt rfl h1,h2⟩
  unfold b__law_ordered_v2
  refine seq_ei (P:=fun r=>r = [some (.lst (ds.map sgn),0),some (.int n,0),some (.lst (ds.map sgn),1),none]) (ei_nx (by simp [flatL (flat_sgn ds)])) ?_
  rintro r rfl
  refine seq_ei (P:=fun r=>r = [some (.lst (ds.map sgn),0),some (.int n,0),some (.lst (ds.map sgn),1),some (.lst (([]:List Nat).map sgn),9)]) (ei_nx (by simp)) ?_
  rintro r rfl
  refine seq_ei (P:=fun r=>∃ n:Int,∃ es:List Nat,r = [some (.lst (ds.map sgn),0),some (.int n,0),some (.lst [],1),some (.lst (es.map sgn),9)] ∧ es.Perm ds) (ei_nx ?_) ?_
  · refine nx_while (fun r=>∃ n:Int,∃ lf es:List Nat,r = [some (.lst (ds.map sgn),0),some (.int n,0),some (.lst (lf.map sgn),1),some (.lst (es.map sgn),9)] ∧ (lf ++ es).Perm ds) (lenAt 2) (fun r=>∃ n:Int,∃ es:List Nat,r = [some (.lst (ds.map sgn),0),some (.int n,0),some (.lst [],1),some (.lst (es.map sgn),9)] ∧ es.Perm ds) ⟨n,ds,[],rfl,by simp⟩ (by simp [lenAt]; omega) ?_ fun r h=>h
    rintro r ⟨n,lf,es,rfl,q1⟩
    have hlen:=q1.length_eq
    rw [List.length_append] at hlen
    by_cases hl:lf = []
    · subst hl
      exact .inl ⟨by simp [Dt.eqL],n,es,rfl,by simpa using q1⟩
    · obtain ⟨q,hq,hm⟩:=take_one hl n
      refine .inr ⟨?_,?_⟩
      · have hd:=flatL (flat_sgn lf)
        cases lf with
        | nil=>exact absurd rfl hl
        | cons a t=>simp [Dt.eqL,sgn] at hd ⊢; try simp [hd]
      · refine seq_nx fun bb hb=>?_
        refine nxR_of (pop_sgn (q:=q) (lf:=lf) (es:=es) (l:=8) rfl rfl (by simp only [x_eB,x_eV,x_eBi,x_aCons,x_aNil,x_full_cons,x_full_nil,Option.map_some,List.getElem?_cons_succ,List.getElem?_cons_zero,bindR_ok,v_lenL,optR_some,List.length_map,hm]) hq (by decide) (by omega) (by omega)) ?_
        subst hb
        refine nxR_of (r:=[some (.lst (ds.map sgn),0),some (.int (n / (((lf.eraseIdx q).length:Int) + 1)),0),some (.lst ((lf.eraseIdx q).map sgn),1),some (.lst ((es ++ [lf[q]]).map sgn),9)]) ?_ ⟨⟨_,_,_,rfl,erase_app hq q1⟩,?_⟩
        · have hle:(lf.eraseIdx q).length ≤ 500:=by rw [List.length_eraseIdx_of_lt hq]; omega
          have hdv:divD (.int n) (.int (((lf.eraseIdx q).length:Int) + 1)) = some (.int (n / (((lf.eraseIdx q).length:Int) + 1))):=by
            rw [v_div,if_pos (by omega)]
          simp only [x_sSet,x_eB,x_eV,x_eBi,x_eC,x_aCons,x_aNil,List.set_cons_succ,List.set_cons_zero,x_full_cons,x_full_nil,Option.map_some,List.getElem?_cons_succ,List.getElem?_cons_zero,bindR_ok,v_lenL,optR_some,List.length_map,v_add,hdv]
          simp
        · show ((lf.eraseIdx q).map sgn).length < (lf.map sgn).length
          simp [List.length_eraseIdx_of_lt hq]
          omega
  rintro r ⟨n,es,rfl,h⟩
  exact .inr ⟨_,by simp,es,rfl,h⟩
end Mp

namespace Mp
open Mi PySem
abbrev abc:List Nat:=(List.range 26).map (97 + ·)
theorem abc_le {c:Nat} (h:c ∈ abc):c < 123:=by
  obtain ⟨k,hk,rfl⟩:=List.mem_map.mp h
  have:=List.mem_range.mp hk
  omega
theorem div_step (n:Int) (L:Nat) (hL:L ≤ 1000):divD (.int n) (.int ((L:Int) + 1)) = some (.int (n / ((L:Int) + 1))):=by
  rw [v_div,if_pos (by omega)]
theorem word_of_prog (d:Int):∃ cs:List Nat,m__law_word_of [.int d,.int 10] = okR (.str ⟨cs.toArray⟩) ∧ Good cs ∧ ∀ c ∈ cs,c < 123:=by
  obtain ⟨k,hk⟩:∃ k:Nat,1 + d % 10 = (k:Int):=⟨(1 + d % 10).toNat,by omega⟩
  have hk1:1 ≤ k ∧ k ≤ 10:=by omega
  suffices h:eiR (b__law_word_of [some (.int d,0),some (.int 10,0),none,none,none,none]) (fun _=>False) (fun x=>∃ cs:List Nat,x = .str ⟨cs.toArray⟩ ∧ Good cs ∧ ∀ c ∈ cs,c < 123) by
    rcases h with ⟨_,_,z⟩ | ⟨x,h1,cs,rfl,h2⟩
    · exact z.elim
    · exact ⟨cs,run_rt rfl h1,h2⟩
  have hlabc:=list_abc
  unfold b__law_word_of
  refine seq_ei (P:=fun r=>r = [some (.int d,0),some (.int 10,0),some (.int (k:Int),1),none,none,none]) (ei_nx (by simp [hk])) ?_
  rintro r rfl
  refine seq_ei (P:=fun r=>r = [some (.int (d / 10),0),some (.int 10,0),some (.int (k:Int),1),none,none,none]) (ei_nx (by simp)) ?_
  rintro r rfl
  refine seq_ei (P:=fun r=>r = [some (.int (d / 10),0),some (.int 10,0),some (.int (k:Int),1),some (.lst (abc.map sgn),1),none,none]) (ei_nx ?_) ?_
  · have hd:(Dt.lst (abc.map sgn)).dep ≤ 1:=by have:=flatL (flat_sgn abc); rw [v_dl]; omega
    refine nxR_of (r:=[some (.int (d / 10),0),some (.int 10,0),some (.int (k:Int),1),some (.lst (abc.map sgn),1),none,none]) ?_ rfl
    simp only [x_sSet,x_eBi,x_eC,x_aCons,x_aNil,bindR_ok,hlabc,optR_some]
    rw [if_pos hd]
    rfl
  rintro r rfl
  generalize d / 10 = n
  refine seq_ei (P:=fun r=>r = [some (.int n,0),some (.int 10,0),some (.int (k:Int),1),some (.lst (abc.map sgn),1),some (.lst (([]:List Nat).map sgn),9),none]) (ei_nx (by simp)) ?_
  rintro r rfl
  refine seq_ei (P:=fun r=>∃ n:Int,∃ lf es:List Nat,∃ o5,r = [some (.int n,0),some (.int 10,0),some (.int (k:Int),1),some (.lst (lf.map sgn),1),some (.lst (es.map sgn),9),o5] ∧ (lf ++ es).Perm abc ∧ es.length = k) (ei_nx ?_) ?_
  · rw [x_sForR,show iR1 (aCons (eV 2) aNil) (full [some (.int n,0),some (.int 10,0),some (.int (k:Int),1),some (.lst (abc.map sgn),1),some (.lst (([]:List Nat).map sgn),9),none]) = okR (nums 0 k) from x_iR1 (n:=k) (by simp) (by omega),bindR_ok]
    refine nx_up (fun j r=>∃ n:Int,∃ lf es:List Nat,∃ o5,r = [some (.int n,0),some (.int 10,0),some (.int (k:Int),1),some (.lst (lf.map sgn),1),some (.lst (es.map sgn),9),o5] ∧ (lf ++ es).Perm abc ∧ es.length = j) ⟨n,abc,[],none,rfl,by simp,rfl⟩ (fun j hj r hr=>?_) fun r h=>h
    obtain ⟨n,lf,es,o5,rfl,q1,q2⟩:=hr
    have hlen:=q1.length_eq
    rw [List.length_append] at hlen
    have habc:abc.length = 26:=by simp [abc]
    have hl:lf ≠ []:=by rintro rfl; simp at hlen; omega
    obtain ⟨q,hq,hm⟩:=take_one hl n
    refine seq_nx fun bb hb=>?_
    refine nxR_of (pop_sgn (q:=q) (lf:=lf) (es:=es) (l:=8) rfl rfl (by simp only [x_eB,x_eV,x_eBi,x_aCons,x_aNil,List.set_cons_succ,List.set_cons_zero,x_full_cons,x_full_nil,Option.map_some,List.getElem?_cons_succ,List.getElem?_cons_zero,bindR_ok,v_lenL,optR_some,List.length_map,hm]) hq (by decide) (by omega) (by omega)) ?_
    subst hb
    have hdv:=div_step n (lf.eraseIdx q).length (by rw [List.length_eraseIdx_of_lt hq]; omega)
    refine nxR_of (r:=[some (.int (n / (((lf.eraseIdx q).length:Int) + 1)),0),some (.int 10,0),some (.int (k:Int),1),some (.lst ((lf.eraseIdx q).map sgn),1),some (.lst ((es ++ [lf[q]]).map sgn),9),some (.int (j:Nat),0)]) ?_ ⟨_,_,_,_,rfl,erase_app hq q1,by simp [q2]⟩
    simp only [x_sSet,x_eB,x_eV,x_eBi,x_eC,x_aCons,x_aNil,List.set_cons_succ,List.set_cons_zero,x_full_cons,x_full_nil,Option.map_some,List.getElem?_cons_succ,List.getElem?_cons_zero,bindR_ok,v_lenL,optR_some,List.length_map,v_add,hdv]
    simp
  rintro r ⟨n,lf,es,o5,rfl,q1,q2⟩
  obtain ⟨cs,h1,h2⟩:=ordered_perm (es ++ es) n (by simp; omega)
  have had:addD (.lst (es.map sgn)) (.lst (es.map sgn)) = some (.lst ((es ++ es).map sgn)):=by
    rw [v_addL,if_pos (by simp; omega),List.map_append]
  have hcl:=h2.length_eq
  simp at hcl
  have hjn:=join_sgn cs (by omega)
  have hin:∀ c ∈ cs,c ∈ es:=fun c hc=>by
    have:=h2.mem_iff.mp hc
    simpa using this
  refine .inr ⟨.str ⟨cs.toArray⟩,?_,cs,rfl,⟨by omega,by omega,?_⟩,fun c hc=>abc_le (q1.mem_iff.mp (by simp [hin c hc]))⟩
  · rw [List.map_append] at h1 had
    simp [had,h1,hjn,-v_addL]
  · have:=ords_le hin
    omega
theorem moved_by_prog {cs:List Nat} (g:Good cs) (d:Int):∃ res:List Nat,m__law_moved_by [.str ⟨cs.toArray⟩,.int d] = okR (.str ⟨res.toArray⟩) ∧ Good res ∧ ∃ u ∈ forms cs,wr u = wr res:=by
  obtain ⟨p1,p2,p3⟩:=id g
  have hl:=len_str1 (cs:=cs) (by omega)
  have hne:cs ≠ []:=by rintro rfl; simp at p1
  obtain ⟨s,hs,hmd⟩:=take_one hne d
  have hdc:divD (.int d) (.int (cs.length:Int)) = some (.int (d / (cs.length:Int))):=by rw [v_div,if_pos (by omega)]
  have s1:=sl_str (a:=cs) none (some (s:Int)) (by omega)
  have s2:=sl_str (a:=cs) (some (s:Int)) none (by omega)
  rw [cut_to] at s1
  rw [cut_from] at s2
  have a2:addD (.str ⟨(cs.drop s).toArray⟩) (.str ⟨(cs.take s).toArray⟩) = some (.str ⟨(sh s cs).toArray⟩):=add_str (a:=cs.drop s) (b:=cs.take s) (by simp; omega)
  have hrv:=rev_join (cs:=sh s cs) (by rw [sh_len]; omega)
  have hsos:=sos_prog (cs:=cs) (by omega) (by omega)
  have hsl:=sos_le g
  have hlabc:=list_abc
  suffices h:eiR (b__law_moved_by [some (.str ⟨cs.toArray⟩,0),some (.int d,0),none,none,none,none,none,none]) (fun _=>False) (fun x=>∃ res:List Nat,x = .str ⟨res.toArray⟩ ∧ Good res ∧ ∃ u ∈ forms cs,wr u = wr res) by
    rcases h with ⟨_,_,z⟩ | ⟨x,h1,res,rfl,h2⟩
    · exact z.elim
    · exact ⟨res,run_rt rfl h1,h2⟩
  unfold b__law_moved_by
  refine seq_ei (P:=fun r=>r = [some (.str ⟨cs.toArray⟩,0),some (.int d,0),some (.int (s:Int),0),none,none,none,none,none]) (ei_nx ?_) ?_
  · refine nxR_of (r:=[some (.str ⟨cs.toArray⟩,0),some (.int d,0),some (.int (s:Int),0),none,none,none,none,none]) ?_ rfl
    simp only [x_sSet,x_full_cons,x_full_nil,Option.map_some,Option.map_none,x_eB,x_eV,x_eBi,x_aCons,x_aNil,List.getElem?_cons_succ,List.getElem?_cons_zero,bindR_ok,hl,optR_some,hmd]
    simp
  rintro r rfl
  refine seq_ei (P:=fun r=>∃ n:Int,r = [some (.str ⟨cs.toArray⟩,0),some (.int n,0),some (.int (s:Int),0),none,none,none,none,none]) (ei_nx ?_) ?_
  · refine nxR_of (r:=[some (.str ⟨cs.toArray⟩,0),some (.int (d / (cs.length:Int)),0),some (.int (s:Int),0),none,none,none,none,none]) ?_ ⟨_,rfl⟩
    simp only [x_sSet,x_full_cons,x_full_nil,Option.map_some,Option.map_none,x_eB,x_eV,x_eBi,x_aCons,x_aNil,List.getElem?_cons_succ,List.getElem?_cons_zero,bindR_ok,hl,optR_some,hdc]
    simp
  rintro r ⟨n,rfl⟩
  refine seq_ei (P:=fun r=>r = [some (.str ⟨cs.toArray⟩,0),some (.int n,0),some (.int (s:Int),0),some (.str ⟨(sh s cs).toArray⟩,1),none,none,none,none]) (ei_nx (by simp [s1,s2,a2,-v_slS,-v_addS])) ?_
  rintro r rfl
  refine seq_ei (P:=fun r=>∃ b l3,r = [some (.str ⟨cs.toArray⟩,0),some (.int n,0),some (.int (s:Int),0),some (.str ⟨(fm cs s b).toArray⟩,l3),none,none,none,none]) (ei_nx ?_) ?_
  · by_cases hb:n % 2 = 1
    · exact nxR_of (r:=[some (.str ⟨cs.toArray⟩,0),some (.int n,0),some (.int (s:Int),0),some (.str ⟨(fm cs s true).toArray⟩,0),none,none,none,none]) (by simp [hb,hrv,fm]) ⟨_,_,rfl⟩
    · exact nxR_of (r:=[some (.str ⟨cs.toArray⟩,0),some (.int n,0),some (.int (s:Int),0),some (.str ⟨(fm cs s false).toArray⟩,1),none,none,none,none]) (by simp [hb,fm]) ⟨_,_,rfl⟩
  rintro r ⟨b,l3,rfl⟩
  have hfm:=fm_mem hs b
  generalize fm cs s b = f at hfm
  have hfl:=forms_len hfm
  have hin:=forms_in hfm
  refine seq_ei (P:=fun r=>∃ n:Int,r = [some (.str ⟨cs.toArray⟩,0),some (.int n,0),some (.int (s:Int),0),some (.str ⟨f.toArray⟩,l3),none,none,none,none]) (ei_nx ?_) ?_
  · exact nxR_of (r:=[some (.str ⟨cs.toArray⟩,0),some (.int (n / 2),0),some (.int (s:Int),0),some (.str ⟨f.toArray⟩,l3),none,none,none,none]) (by simp) ⟨_,rfl⟩
  rintro r ⟨n,rfl⟩
  have hdo:(Dt.lst ((sosL cs).map sgn)).dep ≤ 1:=by simp [flatL (flat_sgn (sosL cs))]
  have hda:(Dt.lst (abc.map sgn)).dep ≤ 1:=by have:=flatL (flat_sgn abc); rw [v_dl]; omega
  refine seq_ei (P:=fun r=>r = [some (.str ⟨cs.toArray⟩,0),some (.int n,0),some (.int (s:Int),0),some (.str ⟨f.toArray⟩,l3),some (.lst ((sosL cs).map sgn),1),none,none,none]) (ei_nx ?_) ?_
  · refine nxR_of (r:=[some (.str ⟨cs.toArray⟩,0),some (.int n,0),some (.int (s:Int),0),some (.str ⟨f.toArray⟩,l3),some (.lst ((sosL cs).map sgn),1),none,none,none]) ?_ rfl
    simp only [x_sSet,x_full_cons,x_full_nil,Option.map_some,Option.map_none,x_eBi,x_eV,x_aCons,x_aNil,List.getElem?_cons_zero,bindR_ok,hsos,optR_some]
    rw [if_pos hdo]
    rfl
  rintro r rfl
  refine seq_ei (P:=fun r=>r = [some (.str ⟨cs.toArray⟩,0),some (.int n,0),some (.int (s:Int),0),some (.str ⟨f.toArray⟩,l3),some (.lst ((sosL cs).map sgn),1),some (.lst (abc.map sgn),1),none,none]) (ei_nx ?_) ?_
  · refine nxR_of (r:=[some (.str ⟨cs.toArray⟩,0),some (.int n,0),some (.int (s:Int),0),some (.str ⟨f.toArray⟩,l3),some (.lst ((sosL cs).map sgn),1),some (.lst (abc.map sgn),1),none,none]) ?_ rfl
    simp only [x_sSet,x_eBi,x_eC,x_aCons,x_aNil,bindR_ok,hlabc,optR_some]
    rw [if_pos hda]
    rfl
  rintro r rfl
  refine seq_ei (P:=fun r=>r = [some (.str ⟨cs.toArray⟩,0),some (.int n,0),some (.int (s:Int),0),some (.str ⟨f.toArray⟩,l3),some (.lst ((sosL cs).map sgn),1),some (.lst (abc.map sgn),1),some (.lst (([]:List Nat).map sgn),9),none]) (ei_nx (by simp)) ?_
  rintro r rfl
  refine seq_ei (P:=fun r=>∃ n:Int,∃ lf fr:List Nat,∃ o7,r = [some (.str ⟨cs.toArray⟩,0),some (.int n,0),some (.int (s:Int),0),some (.str ⟨f.toArray⟩,l3),some (.lst ((sosL cs).map sgn),0),some (.lst (lf.map sgn),1),some (.lst (fr.map sgn),9),o7] ∧ (lf ++ fr).Perm abc ∧ fr.length = (sosL cs).length) (ei_nx ?_) ?_
  · rw [x_sFor,show iSq (eV 4) (frz (frzAt [4] [some (.str ⟨cs.toArray⟩,0),some (.int n,0),some (.int (s:Int),0),some (.str ⟨f.toArray⟩,l3),some (.lst ((sosL cs).map sgn),1),some (.lst (abc.map sgn),1),some (.lst (([]:List Nat).map sgn),9),none])) = okR ((sosL cs).map sgn) by simp,bindR_ok]
    refine nx_each sgn (sosL cs) (fun j r=>∃ n:Int,∃ lf fr:List Nat,∃ o7,r = [some (.str ⟨cs.toArray⟩,0),some (.int n,0),some (.int (s:Int),0),some (.str ⟨f.toArray⟩,l3),some (.lst ((sosL cs).map sgn),0),some (.lst (lf.map sgn),1),some (.lst (fr.map sgn),9),o7] ∧ (lf ++ fr).Perm abc ∧ fr.length = j) ⟨n,abc,[],none,by simp,by simp,rfl⟩ (fun j x hx r hr=>?_) fun r h=>h
    have hj:j < (sosL cs).length:=(List.getElem?_eq_some_iff.mp hx).1
    obtain ⟨n,lf,fr,o7,rfl,q1,q2⟩:=hr
    have hlen:=q1.length_eq
    rw [List.length_append] at hlen
    have habc:abc.length = 26:=by simp [abc]
    have hlf:lf ≠ []:=by rintro rfl; simp at hlen; omega
    obtain ⟨q,hq,hm⟩:=take_one hlf n
    refine seq_nx fun bb hb=>?_
    refine nxR_of (pop_sgn (q:=q) (lf:=lf) (es:=fr) (l:=8) rfl rfl (by simp only [x_eB,x_eV,x_eBi,x_aCons,x_aNil,List.set_cons_succ,List.set_cons_zero,x_full_cons,x_full_nil,Option.map_some,List.getElem?_cons_succ,List.getElem?_cons_zero,bindR_ok,v_lenL,optR_some,List.length_map,hm]) hq (by decide) (by omega) (by omega)) ?_
    subst hb
    have hdv:=div_step n (lf.eraseIdx q).length (by rw [List.length_eraseIdx_of_lt hq]; omega)
    refine nxR_of (r:=[some (.str ⟨cs.toArray⟩,0),some (.int (n / (((lf.eraseIdx q).length:Int) + 1)),0),some (.int (s:Int),0),some (.str ⟨f.toArray⟩,l3),some (.lst ((sosL cs).map sgn),0),some (.lst ((lf.eraseIdx q).map sgn),1),some (.lst ((fr ++ [lf[q]]).map sgn),9),some (sgn x,0)]) ?_ ⟨_,_,_,_,rfl,erase_app hq q1,by simp [q2]⟩
    simp only [x_sSet,x_eB,x_eV,x_eBi,x_eC,x_aCons,x_aNil,List.set_cons_succ,List.set_cons_zero,x_full_cons,x_full_nil,Option.map_some,List.getElem?_cons_succ,List.getElem?_cons_zero,bindR_ok,v_lenL,optR_some,List.length_map,v_add,hdv]
    simp
  rintro r ⟨n,lf,fr,o7,rfl,q1,q2⟩
  have hfn:fr.Nodup:=by
    have:=q1.nodup_iff.mpr abc_nodup
    exact (List.nodup_append.mp this).2.1
  have hfrl:(sosL cs).length ≤ fr.length:=by omega
  refine .inr ⟨.str ⟨(f.map fun x=>fr.getD ((sosL cs).idxOf x) 0).toArray⟩,?_,_,rfl,good_map g hfm _,f,hfm,(wr_map fun x hx y hy=>fresh_inj hfn hfrl x ((sos_mem x cs).mpr ((hin x).mp hx)) y ((sos_mem y cs).mpr ((hin y).mp hy))).symm⟩
  have hcomp:∀ o0 o1 o2 o5 o7:Option Dt,eComp (iSq (eV 3)) 1 (.one 8) Mi.tYes (eB ixD (eV 6) (eMl lifD (eV 4) (aCons (eV 8) aNil))) [o0,o1,o2,some (.str ⟨f.toArray⟩),some (.lst ((sosL cs).map sgn)),o5,some (.lst (fr.map sgn)),o7] = okR (.lst ((f.map fun x=>fr.getD ((sosL cs).idxOf x) 0).map sgn)):=by
    intro o0 o1 o2 o5 o7
    rw [comp_items (ρ:=[o0,o1,o2,some (.str ⟨f.toArray⟩),some (.lst ((sosL cs).map sgn)),o5,some (.lst (fr.map sgn)),o7]) (i:=8) sgn (fun x=>sgn (fr.getD ((sosL cs).idxOf x) 0)) f rfl rfl (fun x hx=>?_) (iSq (eV 3)) (by simp only [x_iSq,x_eV,List.getElem?_cons_succ,List.getElem?_cons_zero,bindR_ok]; rfl) (by omega)]
    · rw [List.map_map]; rfl
    · have hm:x ∈ sosL cs:=(sos_mem x cs).mpr ((hin x).mp hx)
      have hxl:=List.idxOf_lt_length_iff.mpr hm
      have e1:=lif_sgn hm
      have e2:=ixL_sgn (l:=fr) (k:=(sosL cs).idxOf x) (by omega)
      show eB ixD (eV 6) (eMl lifD (eV 4) (aCons (eV 8) aNil)) [o0,o1,o2,some (.str ⟨f.toArray⟩),some (.lst ((sosL cs).map sgn)),o5,some (.lst (fr.map sgn)),o7,some (sgn x)] = _
      simp only [x_eB,x_eC,x_eV,x_eMl,x_aCons,x_aNil,List.getElem?_cons_succ,List.getElem?_cons_zero,bindR_ok,e1,optR_some]
      rw [e2]
      rfl
  have hjn:=join_sgn (f.map fun x=>fr.getD ((sosL cs).idxOf x) 0) (by simp; omega)
  generalize (f.map fun x=>fr.getD ((sosL cs).idxOf x) 0) = res at hcomp hjn ⊢
  generalize (Dt.lst ((sosL cs).map sgn)) = OW at hcomp ⊢
  generalize (Dt.lst (fr.map sgn)) = FR at hcomp ⊢
  simp [hcomp,hjn]
end Mp

namespace Mp
open Mi PySem
theorem pow60:powD (.int 10) (.int 60) = some (.int 1000000000000000000000000000000000000000000000000000000000000):=by
  show (@ite _ (0 ≤ (60:Int) ∧ (60:Int) ≤ 1000000 ∧ (10:Int).natAbs < 18446744073709551616) (Classical.propDecidable _) (some (Dt.int ((10:Int) ^ (60:Int).toNat))) none) = _
  rw [if_pos (by decide)]
  rfl
theorem raw_prog (ns:List Int) (k:Int) (k0:0 ≤ k) (k1:k < 1000):∃ c,0 ≤ c ∧ m__law_raw [.scr ns,.int k] = okR (.int c):=by
  unfold m__law_raw b__law_raw
  have hp:=pow60
  suffices h:∀ x:Int,∃ c:Int,0 ≤ c ∧ sRet 0 0 [2] (eB modD (eV 2) (eB powD (eC (.int 10)) (eC (.int 60)))) [some (.scr ns,0),some (.int k,0),some (.int x,0)] = okR (.rt (.int c)) by
    by_cases hk:0 < ns.length
    · have hp0:(0:Int) < (ns.length:Int):=by omega
      obtain ⟨z,hz⟩:∃ z,k % (ns.length:Int) = z:=⟨_,rfl⟩
      have z0:0 ≤ z:=by rw [← hz]; exact Int.emod_nonneg _ (by omega)
      have z1:z < (ns.length:Int):=by rw [← hz]; exact Int.emod_lt_of_pos _ hp0
      obtain ⟨c,c0,hc⟩:=h (ns.getD z.toNat 0)
      refine ⟨c,c0,run_rt rfl (seq_go fun bb hb=>nxR_of (r:=[some (.scr ns,0),some (.int k,0),some (.int 0,0)]) (by simp [startO]) ?_)⟩
      subst hb
      refine seq_go fun bb hb=>nxR_of (r:=[some (.scr ns,0),some (.int k,0),some (.int (ns.getD z.toNat 0),0)]) (by simp [hk,hp0,hz,itA_int z0 z1]) ?_
      subst hb
      exact hc
    · obtain ⟨c,c0,hc⟩:=h 0
      refine ⟨c,c0,run_rt rfl (seq_go fun bb hb=>nxR_of (r:=[some (.scr ns,0),some (.int k,0),some (.int 0,0)]) (by simp [startO]) ?_)⟩
      subst hb
      refine seq_go fun bb hb=>nxR_of (r:=[some (.scr ns,0),some (.int k,0),some (.int 0,0)]) (by simp [hk]) ?_
      subst hb
      exact hc
  intro x
  exact ⟨x % 1000000000000000000000000000000000000000000000000000000000000,by omega,by simp [hp]⟩
def Eqv (a b:List Nat):Prop:=∃ u ∈ forms a,wr u = wr b
theorem Eqv.rfl' {a:List Nat} (h:0 < a.length):Eqv a a:=⟨a,forms_self h,rfl⟩
theorem Eqv.symm {a b:List Nat} (h:Eqv a b):Eqv b a:=by
  obtain ⟨u,hu,e⟩:=h
  exact wr_same e (forms_symm hu)
theorem Eqv.trans {a b c:List Nat} (h:Eqv a b) (h':Eqv b c):Eqv a c:=by
  obtain ⟨u,hu,e⟩:=h
  obtain ⟨v,hv,e'⟩:=h'
  obtain ⟨g,hg,e2⟩:=wr_same e.symm hv
  exact ⟨g,forms_trans hu hg,e2.trans e'⟩
theorem led_prog {one other:List Nat} (g1:Good one) (g2:Good other) (hq:Eqv one other):∃ T,m_compared [.str ⟨one.toArray⟩,.str ⟨other.toArray⟩] = okR T ∧ m__law_led [.str ⟨one.toArray⟩,T] = okR (.str ⟨other.toArray⟩):=by
  obtain ⟨p1,p2,p3⟩:=id g1
  obtain ⟨q1,q2,q3⟩:=id g2
  obtain ⟨m,r,r2,h1,h1'⟩:=head_of (cs:=one) (by omega)
  obtain ⟨m',r',r2',h2,h2'⟩:=head_of (cs:=other) (by omega)
  rcases compared_prog g1 g2 h1 h2 with ⟨s,b,hs,hw,hc⟩ | ⟨hno,hc⟩
  · refine ⟨_,hc,?_⟩
    have hfm:=fm_mem hs b
    have hfl:=forms_len hfm
    have hin:=forms_in hfm
    obtain ⟨hpl,_⟩:=wr_pat hw
    have hled:=led_word hw
    have hsos:=sos_prog (cs:=one) (by omega) (by omega)
    have hos:(sosL one).length ≤ 60:=by
      have:=nodup_le (sos_nodup one) fun x hx=>(sos_mem x one).mp hx
      omega
    have hLl:(lch one (fm one s b) other).length = (sosL one).length:=by simp [lch]
    have hlen1:=len_str1 (cs:=one) (by omega)
    have hlenL:=len_str1 (cs:=lch one (fm one s b) other) (by omega)
    have hLix:∀ c ∈ fm one s b,ixD (.str ⟨(lch one (fm one s b) other).toArray⟩) (.int ((sosL one).idxOf c:Nat)) = some (sgn (other.getD ((fm one s b).idxOf c) 0)):=fun c hc=>by
      have hm:c ∈ sosL one:=(sos_mem c one).mpr ((hin c).mp hc)
      have hx:=List.idxOf_lt_length_iff.mpr hm
      rw [ix_sgn (by omega) (by omega)]
      congr 2
      unfold lch
      rw [List.getD_eq_getElem?_getD,List.getElem?_map,List.getElem?_eq_getElem hx]
      simp
    have s1:=sl_str (a:=one) none (some (s:Int)) (by omega)
    have s2:=sl_str (a:=one) (some (s:Int)) none (by omega)
    rw [cut_to] at s1
    rw [cut_from] at s2
    have a2:addD (.str ⟨(one.drop s).toArray⟩) (.str ⟨(one.take s).toArray⟩) = some (.str ⟨(sh s one).toArray⟩):=add_str (a:=one.drop s) (b:=one.take s) (by simp; omega)
    have hrv:=rev_join (cs:=sh s one) (by rw [sh_len]; omega)
    have hcomp:∀ o0:Option Dt,eComp (iSq (eV 3)) 1 (.one 4) Mi.tYes (eB ixD (eB ixD (eV 1) (eC (.int 3))) (eMl lifD (eV 2) (aCons (eV 4) aNil))) [o0,some (tS one other s b),some (.lst ((sosL one).map sgn)),some (.str ⟨(fm one s b).toArray⟩)] = okR (.lst (other.map sgn)):=by
      intro o0
      rw [comp_items (ρ:=[o0,some (tS one other s b),some (.lst ((sosL one).map sgn)),some (.str ⟨(fm one s b).toArray⟩)]) (i:=4) sgn (fun c=>sgn (other.getD ((fm one s b).idxOf c) 0)) (fm one s b) rfl rfl (fun c hc=>?_) (iSq (eV 3)) (by simp only [x_iSq,x_eV,List.getElem?_cons_succ,List.getElem?_cons_zero,bindR_ok]; rfl) (by omega)]
      · congr 2
        have:=congrArg (List.map sgn) hled
        rw [List.map_map] at this
        exact this
      · have hm:c ∈ sosL one:=(sos_mem c one).mpr ((hin c).mp hc)
        have e1:=lif_sgn hm
        have e2:=hLix c hc
        show eB ixD (eB ixD (eV 1) (eC (.int 3))) (eMl lifD (eV 2) (aCons (eV 4) aNil)) [o0,some (tS one other s b),some (.lst ((sosL one).map sgn)),some (.str ⟨(fm one s b).toArray⟩),some (sgn c)] = _
        have i3:ixD (tS one other s b) (.int 3) = some (.str ⟨(lch one (fm one s b) other).toArray⟩):=itA_of (j:=3) rfl rfl
        simp only [x_eB,x_eC,x_eV,x_eMl,x_aCons,x_aNil,List.getElem?_cons_succ,List.getElem?_cons_zero,bindR_ok,i3,e1,optR_some]
        rw [e2]
        rfl
    have j0:ixD (tS one other s b) (.int 0) = some (.str "same"):=itA_of (j:=0) rfl rfl
    have j1:ixD (tS one other s b) (.int 1) = some (.int (s:Int)):=itA_of (j:=1) rfl rfl
    have j2:ixD (tS one other s b) (.int 2) = some (.bl b):=itA_of (j:=2) rfl rfl
    have j3:ixD (tS one other s b) (.int 3) = some (.str ⟨(lch one (fm one s b) other).toArray⟩):=itA_of (j:=3) rfl rfl
    have jl:lenD [tS one other s b] = some (.int 4):=by simp [tS]
    have jt:isiD "tuple" (tS one other s b) = some (.bl true):=rfl
    have ji:∀ i,m__law_whole [.int i] = okR (.bl true):=is_whole_int
    have jb:∀ d,isiD "bool" (.bl d) = some (.bl true):=fun _=>rfl
    have js:∀ d,isiD "str" (.str d) = some (.bl true):=fun _=>rfl
    have hjn:=join_sgn other (by omega)
    generalize tS one other s b = T at *
    generalize lch one (fm one s b) other = L at *
    have hlo:lenD [.lst ((sosL one).map sgn)] = some (.int (sosL one).length):=by simp
    have hdo:(Dt.lst ((sosL one).map sgn)).dep ≤ 1:=by simp [flatL (flat_sgn (sosL one))]
    refine run_rt rfl ?_
    show b__law_led [some (.str ⟨one.toArray⟩,0),some (T,0),none,none] = _
    unfold b__law_led
    refine seq_go fun bb hb=>nxR_of (r:=[some (.str ⟨one.toArray⟩,0),some (T,0),none,none]) (by simp [jt,jl,j0,j2,jb]) ?_
    subst hb
    generalize (sosL one).map sgn = OW at *
    refine seq_go fun bb hb=>nxR_of (r:=[some (.str ⟨one.toArray⟩,0),some (T,0),some (.lst OW,1),none]) (by simp only [x_sSet,x_full_cons,x_full_nil,Option.map_some,Option.map_none,x_eBi,x_eV,x_aCons,x_aNil,List.getElem?_cons_zero,bindR_ok,hsos,optR_some]; rw [if_pos hdo]; rfl) ?_
    subst hb
    refine seq_go fun bb hb=>nxR_of (r:=[some (.str ⟨one.toArray⟩,0),some (T,0),some (.lst OW,1),none]) (by simp [j1,j3,js,ji,hs,hlen1,-v_lenS]) ?_
    subst hb
    refine seq_go fun bb hb=>nxR_of (r:=[some (.str ⟨one.toArray⟩,0),some (T,0),some (.lst OW,1),none]) (by simp [j3,hlenL,hlo,hLl,-v_lenS]) ?_
    subst hb
    refine seq_go fun bb hb=>nxR_of (r:=[some (.str ⟨one.toArray⟩,0),some (T,0),some (.lst OW,1),some (.str ⟨(sh s one).toArray⟩,1)]) (by simp [j1,s1,s2,a2,-v_slS,-v_addS]) ?_
    subst hb
    refine seq_go fun bb hb=>nxR_of (r:=[some (.str ⟨one.toArray⟩,0),some (T,0),some (.lst OW,1),some (.str ⟨(fm one s b).toArray⟩,if b = true then 0 else 1)]) ?_ ?_
    · unfold fm
      cases b
      · simp [j2]
      · simp [j2,hrv]
    subst hb
    simp [hcomp,hjn]
  · obtain ⟨f,hf,hw⟩:=hq
    exact absurd hw (hno f hf)
theorem dedA_map {α β:Type} [DecidableEq α] [DecidableEq β] {f:α → β}:∀ {l:List α},(∀ x ∈ l,∀ y ∈ l,f x = f y → x = y) → dedA (l.map f) = (dedA l).map f
  | [],_=>rfl
  | a :: r,h=>by
    have ih:=dedA_map (l:=r) fun x hx y hy=>h x (by simp [hx]) y (by simp [hy])
    have hm:f a ∈ r.map f ↔ a ∈ r:=by
      rw [List.mem_map]
      constructor
      · rintro ⟨y,hy,e⟩
        rw [← h y (by simp [hy]) a (by simp) e]
        exact hy
      · exact fun hy=>⟨a,hy,rfl⟩
    rw [List.map_cons]
    unfold dedA
    by_cases z:a ∈ r
    · rw [if_pos z,if_pos (hm.mpr z),ih]
    · rw [if_neg z,if_neg fun y=>z (hm.mp y),ih,List.map_cons]
theorem dedA_same {α:Type} [DecidableEq α] {a b:List α} (h:∀ x,x ∈ a ↔ x ∈ b):(dedA a).length = (dedA b).length :=
  ((List.perm_ext_iff_of_nodup (dedA_nd a) (dedA_nd b)).mpr fun x=>by rw [dedA_mem,dedA_mem,h]).length_eq
def prs (t l:List Nat):List Str:=(t.zip l).map fun p=>⟨#[p.1,p.2]⟩
theorem zip_sgn:∀ t l:List Nat,zipD (t.map sgn) (l.map sgn) = (t.zip l).map fun p=>.tup [sgn p.1,sgn p.2]
  | [],_=>by simp [zipD]
  | _ :: _,[]=>by simp [zipD]
  | a :: t,b :: l=>by simp [zipD,zip_sgn t l]
theorem go_zip (o0 o1 o2 o3 o4 o5:Option Dt):∀ (ps:List (Nat × Nat)) (acc:List Dt),compGo [o0,o1,o2,o3,o4,o5] 2 (.tup [6,7]) tYes (eB addD (eV 6) (eV 7)) (ps.map fun p=>.tup [sgn p.1,sgn p.2]) acc = okR (acc ++ ps.map fun p=>.str ⟨#[p.1,p.2]⟩)
  | [],acc=>by simp [compGo]
  | p :: ps,acc=>by
    have ha:addD (sgn p.1) (sgn p.2) = some (.str ⟨#[p.1,p.2]⟩):=add_str (a:=[p.1]) (b:=[p.2]) (by simp)
    rw [List.map_cons]
    unfold compGo
    show bindR (okR true) _ = _
    rw [bindR_ok,if_pos rfl]
    show bindR (eB addD (eV 6) (eV 7) [o0,o1,o2,o3,o4,o5,some (sgn p.1),some (sgn p.2)]) _ = _
    rw [show eB addD (eV 6) (eV 7) [o0,o1,o2,o3,o4,o5,some (sgn p.1),some (sgn p.2)] = okR (.str ⟨#[p.1,p.2]⟩) by simp [ha],bindR_ok,go_zip o0 o1 o2 o3 o4 o5 ps]
    simp
theorem comp_zip (t l:List Nat) (o0 o2 o3 o5:Option Dt) (ht:∀ c ∈ t,c < 128) (hl:∀ c ∈ l,c < 128) (hz:t.length ≤ 1000):eComp (iZx (aCons (eV 4) (aCons (eV 1) aNil))) 2 (.tup [6,7]) tYes (eB addD (eV 6) (eV 7)) [o0,some (.str ⟨l.toArray⟩),o2,o3,some (.str ⟨t.toArray⟩),o5] = okR (.lst ((prs t l).map .str)):=by
  have hi:iZx (aCons (eV 4) (aCons (eV 1) aNil)) [o0,some (.str ⟨l.toArray⟩),o2,o3,some (.str ⟨t.toArray⟩),o5] = okR ((t.zip l).map fun p=>.tup [sgn p.1,sgn p.2]):=by
    unfold iZx
    simp only [x_aCons,x_aNil,x_eV,List.getElem?_cons_succ,List.getElem?_cons_zero,bindR_ok]
    rw [if_pos (by simp; exact ⟨ht,hl⟩),signsD_sgn,signsD_sgn,zip_sgn]
  unfold eComp
  rw [hi,bindR_ok,if_pos ⟨by simp; omega,rfl⟩,go_zip,bindR_ok]
  unfold prs
  rw [List.map_map]
  rfl
theorem lsetS_of (zs:List Str) (h:zs.length ≤ 1000):lsetS [.lst (zs.map .str)] = some (.int (dedA zs).length):=by
  unfold lsetS
  dsimp only
  rw [strs_map]
  dsimp only
  rw [if_pos h]
theorem lsetT_of (cs:List Nat) (h:cs.length ≤ 1000):lsetT [.str ⟨cs.toArray⟩] = some (.int (dedA cs).length):=by
  unfold lsetT
  dsimp only
  rw [if_pos (by rw [len_mk]; exact h)]
theorem wr_lt {u:List Nat} (h:(ords u).length ≤ 26):∀ c ∈ wr u,c < 128:=fun c hc=>by
  obtain ⟨x,hx,rfl⟩:=List.mem_map.mp hc
  have:=List.idxOf_lt_length_iff.mpr ((ords_mem u x).mpr hx)
  omega
theorem prs_len (t l:List Nat):(prs t l).length ≤ t.length:=by simp [prs]; omega
theorem zip_self (g:Nat → Nat):∀ u:List Nat,((u.zip (u.map g)).map fun p=>(⟨#[p.1,p.2]⟩:Str)) = u.map fun c=>(⟨#[c,g c]⟩:Str)
  | []=>rfl
  | a :: r=>by simp [zip_self g r]
theorem one_good {u w:List Nat} (hu:u ∈ forms w):(dedA (prs u (wr u))).length = (dedA w).length ∧ (dedA (wr u)).length = (dedA w).length:=by
  have h0:(dedA u).length = (dedA w).length:=dedA_same fun x=>forms_in hu x
  have h1:prs u (wr u) = u.map fun c=>(⟨#[c,97 + (ords u).idxOf c]⟩:Str):=by
    unfold prs wr
    exact zip_self _ u
  constructor
  · rw [h1,dedA_map fun x _ y _ e=>?_,List.length_map,h0]
    have:=congrArg (fun z:Str=>z.cps.toList) e
    simp at this
    exact this.1
  · unfold wr
    rw [dedA_map wr_apart,List.length_map,h0]
theorem one_prog {w u:List Nat} (g:Good w) (ha:∀ c ∈ w,c < 128) (hu:u ∈ forms w):m__law_one_for_one [.str ⟨w.toArray⟩,.str ⟨(wr u).toArray⟩] = okR (.bl true):=by
  obtain ⟨p1,p2,p3⟩:=id g
  have hul:=forms_len hu
  have hou:=ords_forms hu
  have hwl:(wr u).length = w.length:=by rw [wr_len,hul]
  have hwa:=wr_lt (u:=u) (by omega)
  generalize hL:wr u = L at hwl hwa
  have hl:=len_str1 (cs:=w) (by omega)
  have hlL:=len_str1 (cs:=L) (by omega)
  have t1:=lsetT_of w (by omega)
  have t2:=lsetT_of L (by omega)
  let cond:List Nat → Prop:=fun t=>(dedA (prs t L)).length = (dedA w).length ∧ (dedA (prs t L)).length = (dedA L).length
  let bad2:Nat → Nat → Option Dt:=fun s j=>if cond (fm w s (decide (j = 1))) then some (.bl true) else none
  have hloop:outR (firstBad (fun s=>firstBad (bad2 s) 0 2) 0 w.length) ((sForR (iR1 (aCons (eBi lenD (aCons (eV 0) aNil)) aNil)) 2 (sSeq (sSet 3 1 [0,2] (eB addD (eSl (eV 0) (oE (eV 2)) oNo) (eSl (eV 0) oNo (oE (eV 2)))))
  (sFor [3] (iSq (eTup (aCons (eV 3) (aCons (eMt joinRD (eC (.str "")) (aCons (eV 3) aNil)) aNil)))) (.one 4) (sSeq (sSet 5 0 [4,1] (eBi lsetS (aCons (eComp (iZx (aCons (eV 4) (aCons (eV 1) aNil))) 2 (.tup [6,7]) Mi.tYes (eB addD (eV 6) (eV 7))) aNil)))
  (sIf (tAn (tB (eB eqD (eBi lenD (aCons (eV 4) aNil)) (eBi lenD (aCons (eV 1) aNil)))) (tAn (tB (eB eqD (eV 5) (eBi lsetT (aCons (eV 0) aNil)))) (tB (eB eqD (eV 5) (eBi lsetT (aCons (eV 1) aNil)))))) (sRet 0 0 [] (eC (.bl true))) sNil)))) ) [some (.str ⟨w.toArray⟩,0),some (.str ⟨L.toArray⟩,0),none,none,none,none]) (fun r=>∃ o2 o3 o4 o5,r = [some (.str ⟨w.toArray⟩,0),some (.str ⟨L.toArray⟩,0),o2,o3,o4,o5]):=by
    rw [x_sForR,x_iR1 (n:=w.length) (by simp only [x_aCons,x_aNil,x_eBi,x_eV,x_full_cons,x_full_nil,Option.map_some,Option.map_none,List.getElem?_cons_zero,bindR_ok,hl,optR_some]) (by omega),bindR_ok]
    refine out_up _ _ ⟨_,_,_,_,rfl⟩ fun s hs r hr=>?_
    obtain ⟨o2,o3,o4,o5,rfl⟩:=hr
    have s1:=sl_str (a:=w) none (some (s:Int)) (by omega)
    have s2:=sl_str (a:=w) (some (s:Int)) none (by omega)
    rw [cut_to] at s1
    rw [cut_from] at s2
    have a2:addD (.str ⟨(w.drop s).toArray⟩) (.str ⟨(w.take s).toArray⟩) = some (.str ⟨(sh s w).toArray⟩):=add_str (a:=w.drop s) (b:=w.take s) (by simp; omega)
    have hrv:=rev_join (cs:=sh s w) (by rw [sh_len]; omega)
    refine seq_o (r1:=[some (.str ⟨w.toArray⟩,0),some (.str ⟨L.toArray⟩,0),some (.int (s:Int),0),some (.str ⟨(sh s w).toArray⟩,1),o4,o5]) (by simp [s1,s2,a2,-v_slS,-v_addS]) ?_
    rw [x_sFor]
    have hit:iSq (eTup (aCons (eV 3) (aCons (eMt joinRD (eC (.str "")) (aCons (eV 3) aNil)) aNil))) (frz (frzAt [3] [some (.str ⟨w.toArray⟩,0),some (.str ⟨L.toArray⟩,0),some (.int (s:Int),0),some (.str ⟨(sh s w).toArray⟩,1),o4,o5])) = okR [.str ⟨(fm w s false).toArray⟩,.str ⟨(fm w s true).toArray⟩]:=by simp [hrv,fm]
    rw [hit,bindR_ok]
    have hout:∀ (o:Option Dt) (x:R Out),outR o x (fun r=>∃ o4 o5,r = [some (.str ⟨w.toArray⟩,0),some (.str ⟨L.toArray⟩,0),some (.int (s:Int),0),some (.str ⟨(sh s w).toArray⟩,0),o4,o5]) → outR o x (fun r=>∃ o2 o3 o4 o5,r = [some (.str ⟨w.toArray⟩,0),some (.str ⟨L.toArray⟩,0),o2,o3,o4,o5]):=by
      intro o x h
      cases o with
      | some d=>exact h
      | none =>
        obtain ⟨r',g1,o4,o5,g2⟩:=nxR_iff (show nxR x _ from h)
        exact nxR_of g1 ⟨_,_,o4,o5,g2⟩
    refine hout _ _ (for_out (tg:=.one 4) _ (bad2 s) [.str ⟨(fm w s false).toArray⟩,.str ⟨(fm w s true).toArray⟩] _ ⟨o4,o5,by simp⟩ fun j d hd r hr=>?_)
    obtain ⟨o4,o5,rfl⟩:=hr
    have hd':d = .str ⟨(fm w s (decide (j = 1))).toArray⟩ ∧ j < 2:=by
      match j,hd with
      | 0,hd=>simp at hd; exact ⟨by simp [← hd],by omega⟩
      | 1,hd=>simp at hd; exact ⟨by simp [← hd],by omega⟩
      | j + 2,hd=>simp at hd
    obtain ⟨rfl,hj⟩:=hd'
    refine ⟨_,rfl,?_⟩
    show outR (if cond (fm w s (decide (j = 1))) then some (.bl true) else none) _ _
    have hfm:=fm_mem hs (decide (j = 1))
    generalize fm w s (decide (j = 1)) = t at hfm
    have htl:=forms_len hfm
    have hta:∀ c ∈ t,c < 128:=fun c hc=>ha c ((forms_in hfm c).mp hc)
    have hcz:=fun o0 o2 o3 o5=>comp_zip t L o0 o2 o3 o5 hta hwa (by omega)
    have hS:=lsetS_of (prs t L) (by have:=prs_len t L; omega)
    have hlt:=len_str1 (cs:=t) (by omega)
    refine seq_o (r1:=[some (.str ⟨w.toArray⟩,0),some (.str ⟨L.toArray⟩,0),some (.int (s:Int),0),some (.str ⟨(sh s w).toArray⟩,0),some (.str ⟨t.toArray⟩,0),some (.int ((dedA (prs t L)).length:Int),0)]) ?_ ?_
    · show sSet 5 0 [4,1] _ [some (.str ⟨w.toArray⟩,0),some (.str ⟨L.toArray⟩,0),some (.int (s:Int),0),some (.str ⟨(sh s w).toArray⟩,0),some (.str ⟨t.toArray⟩,0),o5] = _
      simp only [x_sSet,x_eBi,x_aCons,x_aNil,x_full_cons,x_full_nil,Option.map_some,Option.map_none,bindR_ok,hcz,optR_some,hS]
      simp
    · refine out_ifH (p:=cond t) ?_ (fun he=>by simp) ⟨_,_,rfl⟩
      have e1:((t.length:Int) = (L.length:Int)):=by omega
      by_cases c1:(dedA (prs t L)).length = (dedA w).length
      · by_cases c2:(dedA (prs t L)).length = (dedA L).length
        · simp [hlt,hlL,t1,t2,e1,c1,c2,cond,-v_lenSt]
          try omega
        · simp [hlt,hlL,t1,t2,e1,c1,c2,cond,-v_lenSt]
          try omega
      · simp [hlt,hlL,t1,t2,e1,c1,cond,-v_lenSt]
        try omega
  have hsome:firstBad (fun s=>firstBad (bad2 s) 0 2) 0 w.length = some (.bl true):=by
    cases hfb:firstBad (fun s=>firstBad (bad2 s) 0 2) 0 w.length with
    | some d =>
      obtain ⟨s,_,_,h1⟩:=fb_some _ _ _ hfb
      obtain ⟨j,_,_,h2⟩:=fb_some _ _ _ h1
      show some d = _
      have h2':(if cond (fm w s (decide (j = 1))) then some (Dt.bl true) else none) = some d:=h2
      split at h2'
      · exact h2'.symm
      · cases h2'
    | none =>
      exfalso
      obtain ⟨s,hs,hf⟩:=forms_mem.mp hu
      have h1:=fb_all _ _ hfb s (by omega) (by omega)
      obtain ⟨c1,c2⟩:=one_good hu
      rw [hL] at c1 c2
      rcases hf with rfl | rfl
      · have h2:=fb_all _ _ h1 0 (by omega) (by omega)
        have h2':(if cond (fm w s (decide ((0:Nat) = 1))) then some (Dt.bl true) else none) = none:=h2
        rw [if_pos (show cond (fm w s (decide ((0:Nat) = 1))) from by
          show (dedA (prs (fm w s false) L)).length = _ ∧ (dedA (prs (fm w s false) L)).length = _
          have:fm w s false = sh s w:=rfl
          rw [this]; exact ⟨c1,by omega⟩)] at h2'
        cases h2'
      · have h2:=fb_all _ _ h1 1 (by omega) (by omega)
        have h2':(if cond (fm w s (decide ((1:Nat) = 1))) then some (Dt.bl true) else none) = none:=h2
        rw [if_pos (show cond (fm w s (decide ((1:Nat) = 1))) from by
          show (dedA (prs (fm w s true) L)).length = _ ∧ (dedA (prs (fm w s true) L)).length = _
          have:fm w s true = (sh s w).reverse:=rfl
          rw [this]; exact ⟨c1,by omega⟩)] at h2'
        cases h2'
  rw [hsome] at hloop
  refine run_rt rfl ?_
  show b__law_one_for_one [some (.str ⟨w.toArray⟩,0),some (.str ⟨L.toArray⟩,0),none,none,none,none] = _
  unfold b__law_one_for_one
  exact seq_rt hloop
end Mp

namespace Mp
open Mi PySem
theorem words_prog (ns:List Int):∃ w0 w1 w2:List Nat,m__law_words [.scr ns] = okR (.lst [.str ⟨w0.toArray⟩,.str ⟨w1.toArray⟩,.str ⟨w2.toArray⟩]) ∧ (Good w0 ∧ Good w1 ∧ Good w2) ∧ (∀ c ∈ w0,c < 128) ∧ Eqv w0 w1 ∧ Eqv w0 w2:=by
  obtain ⟨r0,_,e0⟩:=raw_prog ns 0 (by omega) (by omega)
  obtain ⟨r1,_,e1⟩:=raw_prog ns 1 (by omega) (by omega)
  obtain ⟨r2,_,e2⟩:=raw_prog ns 2 (by omega) (by omega)
  obtain ⟨r3,_,e3⟩:=raw_prog ns 3 (by omega) (by omega)
  by_cases h:r0 % 2 = 1
  · obtain ⟨w0,h0,g0,a0⟩:=word_of_prog r1
    obtain ⟨w1,h1,g1,q1⟩:=moved_by_prog g0 r2
    obtain ⟨w2,h2,g2,q2⟩:=moved_by_prog g0 r3
    refine ⟨w0,w1,w2,?_,⟨g0,g1,g2⟩,fun c hc=>by have:=a0 c hc; omega,q1,q2⟩
    refine run_rt rfl ?_
    show b__law_words [some (.scr ns,0),none,none,none] = _
    unfold b__law_words
    refine seq_rt ?_
    simp [e0,e1,e2,e3,h,h0,h1,h2]
  · obtain ⟨w0,ls,h0,hp,hn,l1,l2,ha⟩:=word_perm ns 0 (by omega) (by omega) 10 (by omega) (by omega)
    have hle:=hp.length_eq
    simp at hle
    have hin:∀ x ∈ w0,x ∈ ls:=fun x hx=>by
      have:=hp.mem_iff.mp hx
      simpa using this
    have g0:Good w0:=by
      have:=ords_le hin
      exact ⟨by omega,by omega,by omega⟩
    obtain ⟨c3,p3,_,k3⟩:=cell_int ns 3 (by omega) (by omega)
    obtain ⟨c4,p4,_,k4⟩:=cell_int ns 4 (by omega) (by omega)
    obtain ⟨c5,p5,_,k5⟩:=cell_int ns 5 (by omega) (by omega)
    obtain ⟨c6,p6,_,k6⟩:=cell_int ns 6 (by omega) (by omega)
    obtain ⟨w1,h1,g1,q1⟩:=moved_eqv g0 c3 c4 p3
    obtain ⟨w2,h2,g2,q2⟩:=moved_eqv g0 c5 c6 p5
    refine ⟨w0,w1,w2,?_,⟨g0,g1,g2⟩,fun c hc=>by have:=ha c (hin c hc); omega,q1,q2⟩
    refine run_rt rfl ?_
    show b__law_words [some (.scr ns,0),none,none,none] = _
    unfold b__law_words
    refine seq_go fun bb hb=>nxR_of (r:=[some (.scr ns,0),none,none,none]) (by simp [e0,h]) ?_
    subst hb
    refine seq_go fun bb hb=>nxR_of (r:=[some (.scr ns,0),some (.str ⟨w0.toArray⟩,0),none,none]) (by simp [h0]) ?_
    subst hb
    refine seq_go fun bb hb=>nxR_of (r:=[some (.scr ns,0),some (.str ⟨w0.toArray⟩,0),some (.lst [.str ⟨w0.toArray⟩],1),none]) (by simp) ?_
    subst hb
    have hnum:nums 0 2 = [.int 0,.int 1]:=by simp [nums,List.range_succ]
    refine seq_go fun bb hb=>nxR_of (r:=[some (.scr ns,0),some (.str ⟨w0.toArray⟩,0),some (.lst [.str ⟨w0.toArray⟩,.str ⟨w1.toArray⟩,.str ⟨w2.toArray⟩],1),some (.int 1,0)]) ?_ ?_
    · rw [x_sForR,show iR1 (aCons (eC (.int 2)) aNil) (full [some (.scr ns,0),some (.str ⟨w0.toArray⟩,0),some (.lst [.str ⟨w0.toArray⟩],1),none]) = okR (nums 0 2) from x_iR1 (n:=2) (by simp) (by omega),bindR_ok,hnum]
      have s1:sApp 2 1 (eCall m__law_moved (aCons (eV 1) (aCons (eCall m__law_cell (aCons (eV 0) (aCons (eB addD (eC (.int 3)) (eB mulD (eC (.int 2)) (eV 3))) aNil))) (aCons (eCall m__law_cell (aCons (eV 0) (aCons (eB addD (eC (.int 4)) (eB mulD (eC (.int 2)) (eV 3))) aNil))) aNil)))) [some (.scr ns,0),some (.str ⟨w0.toArray⟩,0),some (.lst [.str ⟨w0.toArray⟩],1),some (.int 0,0)] = okR (.nx [some (.scr ns,0),some (.str ⟨w0.toArray⟩,0),some (.lst [.str ⟨w0.toArray⟩,.str ⟨w1.toArray⟩],1),some (.int 0,0)]) :=
        x_app (ds:=[.str ⟨w0.toArray⟩]) (k:=0) (d:=.str ⟨w1.toArray⟩) rfl (by simp [k3,k4,h1]) (by simp) (by simp) (by simp)
      have s2:sApp 2 1 (eCall m__law_moved (aCons (eV 1) (aCons (eCall m__law_cell (aCons (eV 0) (aCons (eB addD (eC (.int 3)) (eB mulD (eC (.int 2)) (eV 3))) aNil))) (aCons (eCall m__law_cell (aCons (eV 0) (aCons (eB addD (eC (.int 4)) (eB mulD (eC (.int 2)) (eV 3))) aNil))) aNil)))) [some (.scr ns,0),some (.str ⟨w0.toArray⟩,0),some (.lst [.str ⟨w0.toArray⟩,.str ⟨w1.toArray⟩],1),some (.int 1,0)] = okR (.nx [some (.scr ns,0),some (.str ⟨w0.toArray⟩,0),some (.lst [.str ⟨w0.toArray⟩,.str ⟨w1.toArray⟩,.str ⟨w2.toArray⟩],1),some (.int 1,0)]) :=
        x_app (ds:=[.str ⟨w0.toArray⟩,.str ⟨w1.toArray⟩]) (k:=0) (d:=.str ⟨w2.toArray⟩) rfl (by simp [k5,k6,h2]) (by simp) (by simp) (by simp)
      simp only [forGo,bindT,setsO,List.set_cons_succ,List.set_cons_zero]
      rw [s1,bindR_ok]
      simp only [List.set_cons_succ,List.set_cons_zero]
      rw [s2,bindR_ok]
    subst hb
    simp
theorem law_true (ns:List Int) (hl:ns.length ≤ 63) (hw:∀ i ∈ ns,i.natAbs.log2 < 2 ^ 20):m_law_Q82 [.scr ns] = okR (.bl true):=by
  obtain ⟨w0,w1,w2,hws,⟨g0,g1,g2⟩,ha,q1,q2⟩:=words_prog ns
  have p0:=g0.1
  have p1:=g1.1
  have p2:=g2.1
  have q0:Eqv w0 w0:=Eqv.rfl' (by omega)
  obtain ⟨m,r,_,hm,_⟩:=head_of (cs:=w0) (by omega)
  obtain ⟨u,hu,hmu,_⟩:=least_self w0 (by omega) hm
  have least:∀ w,Good w → Eqv w0 w → m_least_writing [.str ⟨w.toArray⟩] = okR (.str m):=fun w g q=>by
    obtain ⟨f,hf,e⟩:=q
    obtain ⟨m',r',_,hm',_⟩:=head_of (cs:=w) (by have:=g.1; omega)
    have:=same_least hf e hm hm'
    subst this
    exact least_prog w (by have:=g.2.1; omega) (by have:=g.2.2; omega) hm'
  have l0:=least w0 g0 q0
  have hone:=one_prog g0 ha hu
  have hst:Dt.str m = .str ⟨(wr u).toArray⟩:=by rw [hmu]; rfl
  have led:∀ a b,Good a → Good b → Eqv w0 a → Eqv w0 b → eB neD (eCall m__law_led (aCons (eV 3) (aCons (eCall m_compared (aCons (eV 3) (aCons (eV 4) aNil))) aNil))) (eV 4) [some (.scr ns),some (.lst [.str ⟨w0.toArray⟩,.str ⟨w1.toArray⟩,.str ⟨w2.toArray⟩]),some (.str m),some (.str ⟨a.toArray⟩),some (.str ⟨b.toArray⟩)] = okR (.bl false):=fun a b ga gb qa qb=>by
    obtain ⟨T,h1,h2⟩:=led_prog ga gb (qa.symm.trans qb)
    simp [h1,h2]
  refine run_rt rfl ?_
  show b_law_Q82 [some (.scr ns,0),none,none,none,none] = _
  unfold b_law_Q82
  generalize hW:Dt.lst [.str ⟨w0.toArray⟩,.str ⟨w1.toArray⟩,.str ⟨w2.toArray⟩] = W at hws led
  have i0:ixD W (.int 0) = some (.str ⟨w0.toArray⟩):=by rw [← hW]; exact itA_of (j:=0) rfl rfl
  have hdW:W.dep ≤ 1:=by rw [← hW]; simp
  refine seq_go fun bb hb=>nxR_of (r:=[some (.scr ns,0),some (W,1),none,none,none]) (by simp [hws,hdW]) ?_
  subst hb
  refine seq_go fun bb hb=>nxR_of (r:=[some (.scr ns,0),some (W,1),some (.str m,0),none,none]) (by simp [i0,l0]) ?_
  subst hb
  have hone':m__law_one_for_one [.str ⟨w0.toArray⟩,.str m] = okR (.bl true):=by rw [hst]; exact hone
  have hsi:isiD "str" (.str m) = some (.bl true):=rfl
  refine seq_go fun bb hb=>nxR_of (r:=[some (.scr ns,0),some (W,1),some (.str m,0),none,none]) (by simp [i0,hsi,hone']) ?_
  subst hb
  refine seq_go fun bb hb=>?_
  have hit:iSq (eV 1) [some (.scr ns),some W,some (.str m),none,none] = okR ([w0,w1,w2].map fun w=>Dt.str ⟨w.toArray⟩):=by rw [← hW]; simp
  have hmem:∀ w,w ∈ [w0,w1,w2] → Good w ∧ Eqv w0 w:=fun w hw=>by
    simp only [List.mem_cons,List.not_mem_nil,or_false] at hw
    rcases hw with rfl | rfl | rfl
    · exact ⟨g0,q0⟩
    · exact ⟨g1,q1⟩
    · exact ⟨g2,q2⟩
  suffices h:nxR (sFor [1] (iSq (eV 1)) (.one 3) (sSeq (sIf (tB (eB neD (eCall m_least_writing (aCons (eV 3) aNil)) (eV 2))) (sRet 0 0 [] (eC (.bl false))) sNil)
  (sFor [1] (iSq (eV 1)) (.one 4) (sIf (tB (eB neD (eCall m__law_led (aCons (eV 3) (aCons (eCall m_compared (aCons (eV 3) (aCons (eV 4) aNil))) aNil))) (eV 4))) (sRet 0 0 [] (eC (.bl false))) sNil))) [some (.scr ns,0),some (W,1),some (.str m,0),none,none]) (fun r=>∃ o3 o4,r = [some (.scr ns,0),some (W,0),some (.str m,0),o3,o4]) by
    obtain ⟨r',h1,o3,o4,rfl⟩:=nxR_iff h
    refine nxR_of h1 ?_
    subst hb
    simp
  rw [x_sFor,show frzAt [1] [some (.scr ns,0),some (W,1),some (.str m,0),none,none] = [some (.scr ns,0),some (W,0),some (.str m,0),none,none] by simp,show frz [some (.scr ns,0),some (W,0),some (.str m,0),none,none] = [some (.scr ns),some W,some (.str m),none,none] by simp,hit,bindR_ok]
  refine nx_each (fun w:List Nat=>Dt.str ⟨w.toArray⟩) [w0,w1,w2] (fun _ r=>∃ o3 o4,r = [some (.scr ns,0),some (W,0),some (.str m,0),o3,o4]) ⟨none,none,rfl⟩ (fun k a hk r hr=>?_) fun r h=>h
  obtain ⟨o3,o4,rfl⟩:=hr
  obtain ⟨ga,qa⟩:=hmem a (List.mem_of_getElem? hk)
  have la:=least a ga qa
  refine seq_nx fun bb hb=>nxR_of (r:=[some (.scr ns,0),some (W,0),some (.str m,0),some (.str ⟨a.toArray⟩,0),o4]) (by simp [la]) ?_
  subst hb
  have hit2:iSq (eV 1) (frz [some (.scr ns,0),some (W,0),some (.str m,0),some (.str ⟨a.toArray⟩,0),o4]) = okR ([w0,w1,w2].map fun w=>Dt.str ⟨w.toArray⟩):=by
    have:frz [some (.scr ns,0),some (W,0),some (.str m,0),some (.str ⟨a.toArray⟩,0),o4] = some (.scr ns) :: some W :: frz [some (.str m,0),some (.str ⟨a.toArray⟩,0),o4]:=by simp [frz]
    rw [this,← hW]
    simp
  rw [x_sFor,show frzAt [1] [some (.scr ns,0),some (W,0),some (.str m,0),some (.str ⟨a.toArray⟩,0),o4] = [some (.scr ns,0),some (W,0),some (.str m,0),some (.str ⟨a.toArray⟩,0),o4] by simp,hit2,bindR_ok]
  refine nx_each (fun w:List Nat=>Dt.str ⟨w.toArray⟩) [w0,w1,w2] (fun _ r=>∃ o4,r = [some (.scr ns,0),some (W,0),some (.str m,0),some (.str ⟨a.toArray⟩,0),o4]) ⟨o4,rfl⟩ (fun k2 b hk2 r hr=>?_) fun r h=>by obtain ⟨o4,rfl⟩:=h; exact ⟨_,_,rfl⟩
  obtain ⟨o4,rfl⟩:=hr
  obtain ⟨gb,qb⟩:=hmem b (List.mem_of_getElem? hk2)
  have hlab:=led a b ga gb qa qb
  refine nxR_of (r:=[some (.scr ns,0),some (W,0),some (.str m,0),some (.str ⟨a.toArray⟩,0),some (.str ⟨b.toArray⟩,0)]) ?_ ⟨_,rfl⟩
  show sIf _ _ _ [some (.scr ns,0),some (W,0),some (.str m,0),some (.str ⟨a.toArray⟩,0),some (.str ⟨b.toArray⟩,0)] = _
  rw [x_sIf,x_tB,show full [some (.scr ns,0),some (W,0),some (.str m,0),some (.str ⟨a.toArray⟩,0),some (.str ⟨b.toArray⟩,0)] = [some (.scr ns),some W,some (.str m),some (.str ⟨a.toArray⟩),some (.str ⟨b.toArray⟩)] from rfl,hlab]
  rfl
end Mp

set_option maxHeartbeats 4000000
namespace Q82
open PySem PyProof.Rows
open L2 hiding Rep RepL
open L3
open Mp
def top (i:Nat):Stmt:=PySem.Challenge.pw_fourway_k82_whole_same_however_written.main.body.getD i (.Pass ⟨0,0,0,0⟩)
abbrev s__law_whole:Stmt:=top 15
theorem S__law_whole:FnScope ["_law_thing"] ["_law_thing"] (defScope s__law_whole):=⟨rfl,rfl,rfl,by decide +kernel,rfl,by decide +kernel,by decide +kernel⟩
abbrev s__law_led:Stmt:=top 24
theorem S__law_led:FnScope ["_law_one","_law_found","_law_own","_law_seen"] ["_law_one","_law_found"] (defScope s__law_led):=⟨rfl,rfl,rfl,by decide +kernel,rfl,by decide +kernel,by decide +kernel⟩
abbrev s__law_one_for_one:Stmt:=top 25
theorem S__law_one_for_one:FnScope ["_law_word_here","_law_least","_law_at","_law_seen","_law_told","_law_many"] ["_law_word_here","_law_least"] (defScope s__law_one_for_one):=⟨rfl,rfl,rfl,by decide +kernel,rfl,by decide +kernel,by decide +kernel⟩
abbrev s__law_cell:Stmt:=top 14
theorem S__law_cell:FnScope ["_law_script","_law_k","_law_cell_here","_law_mixed"] ["_law_script","_law_k"] (defScope s__law_cell):=⟨rfl,rfl,rfl,by decide +kernel,rfl,by decide +kernel,by decide +kernel⟩
abbrev s__law_shuffled:Stmt:=top 16
theorem S__law_shuffled:FnScope ["_law_things","_law_number","_law_left","_law_found"] ["_law_things","_law_number"] (defScope s__law_shuffled):=⟨rfl,rfl,rfl,by decide +kernel,rfl,by decide +kernel,by decide +kernel⟩
abbrev s__law_moved:Stmt:=top 18
theorem S__law_moved:FnScope ["_law_word_here","_law_cell_here","_law_number","_law_at","_law_seen","_law_own","_law_fresh"] ["_law_word_here","_law_cell_here","_law_number"] (defScope s__law_moved):=⟨rfl,rfl,rfl,by decide +kernel,rfl,by decide +kernel,by decide +kernel⟩
abbrev s__law_moved_by:Stmt:=top 22
theorem S__law_moved_by:FnScope ["_law_word_here","_law_digits","_law_at","_law_seen","_law_own","_law_left","_law_fresh","_law_letter"] ["_law_word_here","_law_digits"] (defScope s__law_moved_by):=⟨rfl,rfl,rfl,by decide +kernel,rfl,by decide +kernel,by decide +kernel⟩
abbrev s__law_raw:Stmt:=top 19
theorem S__law_raw:FnScope ["_law_script","_law_k","_law_cell_here"] ["_law_script","_law_k"] (defScope s__law_raw):=⟨rfl,rfl,rfl,by decide +kernel,rfl,by decide +kernel,by decide +kernel⟩
abbrev s__law_word:Stmt:=top 17
theorem S__law_word:FnScope ["_law_script","_law_at","_law_least","_law_most","_law_small","_law_number","_law_many","_law_letters"] ["_law_script","_law_at","_law_least","_law_most"] (defScope s__law_word):=⟨rfl,rfl,rfl,by decide +kernel,rfl,by decide +kernel,by decide +kernel⟩
abbrev s__law_ordered:Stmt:=top 20
theorem S__law_ordered:FnScope ["_law_things","_law_digits","_law_left","_law_found"] ["_law_things","_law_digits"] (defScope s__law_ordered):=⟨rfl,rfl,rfl,by decide +kernel,rfl,by decide +kernel,by decide +kernel⟩
abbrev s__law_word_of:Stmt:=top 21
theorem S__law_word_of:FnScope ["_law_digits","_law_most","_law_many","_law_left","_law_letters","_law_k"] ["_law_digits","_law_most"] (defScope s__law_word_of):=⟨rfl,rfl,rfl,by decide +kernel,rfl,by decide +kernel,by decide +kernel⟩
abbrev s__law_words:Stmt:=top 23
theorem S__law_words:FnScope ["_law_script","_law_word_here","_law_words_here","_law_k"] ["_law_script"] (defScope s__law_words):=⟨rfl,rfl,rfl,by decide +kernel,rfl,by decide +kernel,by decide +kernel⟩
abbrev s_shifted:Stmt:=top 4
theorem S_shifted:FnScope ["word","by","signs"] ["word","by"] (defScope s_shifted):=⟨rfl,rfl,rfl,by decide +kernel,rfl,by decide +kernel,by decide +kernel⟩
abbrev s_form_of:Stmt:=top 10
theorem S_form_of:FnScope ["word","shift","mirrored","told"] ["word","shift","mirrored"] (defScope s_form_of):=⟨rfl,rfl,rfl,by decide +kernel,rfl,by decide +kernel,by decide +kernel⟩
abbrev s_place_order:Stmt:=top 6
theorem S_place_order:FnScope ["word"] ["word"] (defScope s_place_order):=⟨rfl,rfl,rfl,by decide +kernel,rfl,by decide +kernel,by decide +kernel⟩
abbrev s_written:Stmt:=top 11
theorem S_written:FnScope ["word","order"] ["word"] (defScope s_written):=⟨rfl,rfl,rfl,by decide +kernel,rfl,by decide +kernel,by decide +kernel⟩
abbrev s_least_writing:Stmt:=top 8
theorem S_least_writing:FnScope ["word","forward","backward"] ["word"] (defScope s_least_writing):=⟨rfl,rfl,rfl,by decide +kernel,rfl,by decide +kernel,by decide +kernel⟩
abbrev s_letters_of:Stmt:=top 2
theorem S_letters_of:FnScope ["word"] ["word"] (defScope s_letters_of):=⟨rfl,rfl,rfl,by decide +kernel,rfl,by decide +kernel,by decide +kernel⟩
abbrev s_letters_changed:Stmt:=top 12
theorem S_letters_changed:FnScope ["one","form","other"] ["one","form","other"] (defScope s_letters_changed):=⟨rfl,rfl,rfl,by decide +kernel,rfl,by decide +kernel,by decide +kernel⟩
abbrev s_compared:Stmt:=top 9
theorem S_compared:FnScope ["one","other","shift","mirrored","form"] ["one","other"] (defScope s_compared):=⟨rfl,rfl,rfl,by decide +kernel,rfl,by decide +kernel,by decide +kernel⟩
abbrev s_law:Stmt:=top 26
theorem S_law:FnScope ["_law_script","_law_words_here","_law_least","_law_one","_law_other"] ["_law_script"] (defScope s_law):=⟨rfl,rfl,rfl,by decide +kernel,rfl,by decide +kernel,by decide +kernel⟩
section
variable {P:Program} {w:World} {K:PySem.W.Frag} {mg:Str → Option Value} {base:Heap}
theorem ok__law_whole (D:Def K mg "_law_whole" s__law_whole) (b_bool:mg "bool" = none) (b_int:mg "int" = none) (b_isinstance:mg "isinstance" = none):Has P w K mg base "_law_whole" 1 ["_law_thing"] (sp0 K mg 0 m__law_whole):=by
  letI:Kc:=⟨K⟩
  refine D.ok S__law_whole (fun _ _ _ _ _ _=>uw1 fun _=>rfl) (fun vs H Q E h=>spM_len h) (fun f cdv A outer s H vs Q E hr h=>?_)
  have hu:=hr.units
  exact ⟨_,(pss_one (ps_ret (pe_am (pe_callB k_isinstance rfl b_isinstance boot_isinstance (pa_cons (pn 0) (pa_cons (pe_bltn (v:=.ty "int") rfl b_int boot_int rfl) pa_nil))) (pe_one (pe_nm (pe_callB k_isinstance rfl b_isinstance boot_isinstance (pa_cons (pn 0) (pa_cons (pe_bltn (v:=.ty "bool") rfl b_bool boot_bool rfl) pa_nil)))))))),
    (run_ok (N:=["_law_thing"]) (ds_ret (n:=0) [0] (de_and (dz (de_isi (by decide) (de_v 0))) (de_not (dz (de_isi (by decide) (de_v 0)))))) h)⟩
theorem ok__law_led (D:Def K mg "_law_led" s__law_led) (h__law_whole:Has P w K mg base "_law_whole" 1 ["_law_thing"] (sp0 K mg 0 m__law_whole)) (b_bool:mg "bool" = none) (b_isinstance:mg "isinstance" = none) (b_len:mg "len" = none) (b_reversed:mg "reversed" = none) (b_set:mg "set" = none) (b_sorted:mg "sorted" = none) (b_str:mg "str" = none) (b_tuple:mg "tuple" = none):Has P w K mg base "_law_led" 2 ["_law_one","_law_found"] (sp0 K mg 0 m__law_led):=by
  letI:Kc:=⟨K⟩
  refine D.ok S__law_led (fun _ _ _ _ _ _=>uw2 fun _ _=>rfl) (fun vs H Q E h=>spM_len h) (fun f cdv A outer s H vs Q E hr h=>?_)
  have hu:=hr.units
  exact ⟨_,(pss_cons (ps_if (pt_w (pw_or (pt_not (pt_m (pe_callB k_isinstance rfl b_isinstance boot_isinstance (pa_cons (pn 1) (pa_cons (pe_bltn (v:=.ty "tuple") rfl b_tuple boot_tuple rfl) pa_nil))))) (pw_or (pt_cm (u_ne hu) (pe_callB (k_lenK (K:=K)) rfl b_len boot_len (pa_cons (pn 1) pa_nil)) pe_int (nomark _)) (pw_or (pt_cm (u_ne hu) (pe_ix (u_ixK (K:=K)) (pn 1) pe_int (fun _ _=>rfl)) pe_str (nomark _)) (pw_or1 (pt_not (pt_m (pe_callB k_isinstance rfl b_isinstance boot_isinstance (pa_cons (pe_ix (u_ixK (K:=K)) (pn 1) pe_int (fun _ _=>rfl)) (pa_cons (pe_bltn (v:=.ty "bool") rfl b_bool boot_bool rfl) pa_nil)))))))))) (pss_one (ps_ret pe_non)) pss_nil)
      (pss_cons (ps_set (i:=2) S__law_led.nd rfl (by first | exact Or.inl rfl | exact Or.inr rfl) (pe_callB (k_sortZ rfl) rfl b_sorted boot_sorted (pa_cons (pe_callTy (k_setZ rfl) rfl b_set boot_set' (pa_cons (pn 0) pa_nil)) pa_nil)))
      (pss_cons (ps_if (pt_w (pw_or (pt_not (pt_m (pe_fn h__law_whole (by decide) hr rfl (pa_cons (pe_ix (u_ixK (K:=K)) (pn 1) pe_int (fun _ _=>rfl)) pa_nil)))) (pw_or (pt_not (pt_chm u_le u_lt pe_int (pe_ix (u_ixK (K:=K)) (pn 1) pe_int (fun _ _=>rfl)) (pe_callB (k_lenK (K:=K)) rfl b_len boot_len (pa_cons (pn 0) pa_nil)))) (pw_or1 (pt_not (pt_m (pe_callB k_isinstance rfl b_isinstance boot_isinstance (pa_cons (pe_ix (u_ixK (K:=K)) (pn 1) pe_int (fun _ _=>rfl)) (pa_cons (pe_bltn (v:=.ty "str") rfl b_str boot_str rfl) pa_nil))))))))) (pss_one (ps_ret pe_non)) pss_nil)
      (pss_cons (ps_if (pt_cm (u_ne hu) (pe_callB (k_lenK (K:=K)) rfl b_len boot_len (pa_cons (pe_ix (u_ixK (K:=K)) (pn 1) pe_int (fun _ _=>rfl)) pa_nil)) (pe_callB (k_lenK (K:=K)) rfl b_len boot_len (pa_cons (pn 2) pa_nil)) (nomark _)) (pss_one (ps_ret pe_non)) pss_nil)
      (pss_cons (ps_set (i:=3) S__law_led.nd rfl (by first | exact Or.inl rfl | exact Or.inr rfl) (pe_op u_add (pe_slice (u_sl (K:=K)) (pn 0) (po_some (pe_ix (u_ixK (K:=K)) (pn 1) pe_int (fun _ _=>rfl))) po_none) (pe_slice (u_sl (K:=K)) (pn 0) po_none (po_some (pe_ix (u_ixK (K:=K)) (pn 1) pe_int (fun _ _=>rfl))))))
      (pss_cons (ps_if (pt_m (pe_ix (u_ixK (K:=K)) (pn 1) pe_int (fun _ _=>rfl))) (pss_one (ps_set (i:=3) S__law_led.nd rfl (by first | exact Or.inl rfl | exact Or.inr rfl) (pe_bm PySem.F.plainAttrs_str PySem.F.slot_str_join PySem.F.type_str_join (mt_joinRM rfl) pe_str (pa_cons (pe_callTy (k_rev (K:=K)) rfl b_reversed boot_reversed' (pa_cons (pn 3) pa_nil)) pa_nil)))) pss_nil)
      (pss_one (ps_ret (pe_bm PySem.F.plainAttrs_str PySem.F.slot_str_join PySem.F.type_str_join mt_joinM pe_str (pa_cons (pe_comp rfl (cn ["0","_law_found","_law_own","3","_law_letter"] 1 (by kernel_rfl)) (pi_all (K:=K) (pn 3)) (fun _ _ _ _=>(pg_name (i:=4) (by show List.Nodup (["0","_law_found","_law_own","3","_law_letter"]:List Str); decide +kernel) rfl (by first | exact Or.inl rfl | exact Or.inr rfl))) (fun _ _ _ _=>pts_nil) (fun _ _ _ _=>(pe_ix (u_ixK (K:=K)) (pe_ix (u_ixK (K:=K)) (pn 1) pe_int (fun _ _=>rfl)) (pe_ml PySem.F.plainAttrs_list PySem.F.slot_list_index PySem.F.type_list_index mt_lifM (pn 2) (pa_cons (pn 4) pa_nil)) (fun _ _=>rfl)))) pa_nil)))))))))),
    (run_ok (N:=["_law_one","_law_found","_law_own","_law_seen"]) (ds_seq (ds_if (dt_or (dt_not (dt_m (dz (de_isi (by decide) (de_v 1))))) (dt_or (dt_b (dz (de_op ro_ne (dz (de_bi cb_len (da_cons (de_v 1) da_nil))) (dz de_int)))) (dt_or (dt_b (dz (de_op ro_ne (de_op ro_ix (de_v 1) (dz de_int)) (dz de_str)))) (dt_not (dt_m (dz (de_isi (by decide) (de_op ro_ix (de_v 1) (dz de_int))))))))) (ds_ret (n:=0) [] de_non) ds_nil)
      (ds_seq (ds_set (n:=1) [0] (de_sos (de_v 0)))
      (ds_seq (ds_if (dt_or (dt_not (dt_m (de_call (da_cons (de_op ro_ix (de_v 1) (dz de_int)) da_nil)))) (dt_or (dt_not (dt_b (dz (de_chain ro_cmp ro_cmp (dz de_int) (de_op ro_ix (de_v 1) (dz de_int)) (dz (de_bi cb_len (da_cons (de_v 0) da_nil))))))) (dt_not (dt_m (dz (de_isi (by decide) (de_op ro_ix (de_v 1) (dz de_int)))))))) (ds_ret (n:=0) [] de_non) ds_nil)
      (ds_seq (ds_if (dt_b (dz (de_op ro_ne (dz (de_bi cb_len (da_cons (de_op ro_ix (de_v 1) (dz de_int)) da_nil))) (dz (de_bi cb_len (da_cons (de_v 2) da_nil)))))) (ds_ret (n:=0) [] de_non) ds_nil)
      (ds_seq (ds_set (n:=1) [0,1] (de_op ro_add (de_sl (de_v 0) (do_e (de_op ro_ix (de_v 1) (dz de_int))) do_no) (de_sl (de_v 0) do_no (do_e (de_op ro_ix (de_v 1) (dz de_int))))))
      (ds_seq (ds_if (dt_m (de_op ro_ix (de_v 1) (dz de_int))) (ds_set (n:=0) [3] (de_joinR (dz de_str) (da_cons (de_v 3) da_nil))) ds_nil)
      (ds_ret (n:=0) [3,1,2] (de_mt rm_join (dz de_str) (da_cons (de_frz (de_comp (n:=0) (di_all (de_v 3)) (tg_name 4) dt_yes (de_op ro_ix (de_op ro_ix (de_v 1) (dz de_int)) (dz (de_ml rl_indexF (de_v 2) (da_cons (de_v 4) da_nil)))))) da_nil))))))))) h)⟩
theorem ok__law_one_for_one (D:Def K mg "_law_one_for_one" s__law_one_for_one) (b_len:mg "len" = none) (b_range:mg "range" = none) (b_reversed:mg "reversed" = none) (b_set:mg "set" = none) (b_zip:mg "zip" = none):Has P w K mg base "_law_one_for_one" 1 ["_law_word_here","_law_least"] (sp0 K mg 0 m__law_one_for_one):=by
  letI:Kc:=⟨K⟩
  refine D.ok S__law_one_for_one (fun _ _ _ _ _ _=>uw2 fun _ _=>rfl) (fun vs H Q E h=>spM_len h) (fun f cdv A outer s H vs Q E hr h=>?_)
  have hu:=hr.units
  exact ⟨_,(pss_cons (ps_forK PassesOwn.never rfl (pi_range1 rfl b_range (pa_cons (pe_callB (k_lenK (K:=K)) rfl b_len boot_len (pa_cons (pn 0) pa_nil)) pa_nil)) (pg_name (i:=2) S__law_one_for_one.nd rfl (by first | exact Or.inl rfl | exact Or.inr rfl)) (pss_cons (ps_set (i:=3) S__law_one_for_one.nd rfl (by first | exact Or.inl rfl | exact Or.inr rfl) (pe_op u_add (pe_slice (u_sl (K:=K)) (pn 0) (po_some (pn 2)) po_none) (pe_slice (u_sl (K:=K)) (pn 0) po_none (po_some (pn 2)))))
      (pss_one (ps_forK PassesOwn.never rfl (pi_all (K:=K) (pe_tup (pa_cons (pn 3) (pa_cons (pe_bm PySem.F.plainAttrs_str PySem.F.slot_str_join PySem.F.type_str_join (mt_joinRM rfl) pe_str (pa_cons (pe_callTy (k_rev (K:=K)) rfl b_reversed boot_reversed' (pa_cons (pn 3) pa_nil)) pa_nil)) pa_nil)))) (pg_name (i:=4) S__law_one_for_one.nd rfl (by first | exact Or.inl rfl | exact Or.inr rfl)) (pss_cons (ps_set (i:=5) S__law_one_for_one.nd rfl (by first | exact Or.inl rfl | exact Or.inr rfl) (pe_callB k_lenZ rfl b_len boot_len (pa_cons (pe_callTy (k_setS rfl) rfl b_set boot_set' (pa_cons (pe_comp rfl (cn ["0","1","2","3","4","5","_law_one","_law_other"] 2 (by kernel_rfl)) (pi_zipX (K:=K) rfl b_zip (pa_cons (pn 4) (pa_cons (pn 1) pa_nil))) (fun _ _ _ _=>pg_tupK (K:=K) rfl (pgs_cons (pg_name (i:=6) (by show List.Nodup (["0","1","2","3","4","5","_law_one","_law_other"]:List Str); decide +kernel) rfl (by first | exact Or.inl rfl | exact Or.inr rfl)) (pgs_cons (pg_name (i:=7) (by show List.Nodup (["0","1","2","3","4","5","_law_one","_law_other"]:List Str); decide +kernel) rfl (by first | exact Or.inl rfl | exact Or.inr rfl)) pgs_nil))) (fun _ _ _ _=>pts_nil) (fun _ _ _ _=>(pe_op u_add (pn 6) (pn 7)))) pa_nil)) pa_nil)))
      (pss_one (ps_if (pt_w (pw_and (pt_cm (u_eq hu) (pe_callB (k_lenK (K:=K)) rfl b_len boot_len (pa_cons (pn 4) pa_nil)) (pe_callB (k_lenK (K:=K)) rfl b_len boot_len (pa_cons (pn 1) pa_nil)) (nomark _)) (pw_and (pt_cm (u_eq hu) (pn 5) (pe_callB k_lenZ rfl b_len boot_len (pa_cons (pe_callTy (k_setZ rfl) rfl b_set boot_set' (pa_cons (pn 0) pa_nil)) pa_nil)) (nomark _)) (pw_and1 (pt_cm (u_eq hu) (pn 5) (pe_callB k_lenZ rfl b_len boot_len (pa_cons (pe_callTy (k_setZ rfl) rfl b_set boot_set' (pa_cons (pn 1) pa_nil)) pa_nil)) (nomark _)))))) (pss_one (ps_ret pe_bl)) pss_nil)))))))
      (pss_one (ps_ret pe_bl))),
    (run_ok (N:=["_law_word_here","_law_least","_law_at","_law_seen","_law_told","_law_many"]) (ds_seq (ds_forR (di_r1 (da_cons (de_bi cb_len (da_cons (de_v 0) da_nil)) da_nil)) (ds_seq (ds_set (n:=1) [0,2] (de_op ro_add (de_sl (de_v 0) (do_e (de_v 2)) do_no) (de_sl (de_v 0) do_no (do_e (de_v 2)))))
      (ds_for [3] (di_all (de_tup (n:=0) (da_cons (de_v 3) (da_cons (de_joinR (dz de_str) (da_cons (de_v 3) da_nil)) da_nil)))) (tg_name 4) (ds_seq (ds_set (n:=0) [4,1] (de_lsetS (de_comp (n:=1) (di_zipX (da_cons (de_v 4) (da_cons (de_v 1) da_nil))) (tg_tup (tgs_cons 6 (tgs_cons 7 tgs_nil)) rfl) dt_yes (de_op ro_add (de_v 6) (de_v 7)))))
      (ds_if (dt_and (dt_b (dz (de_op ro_eq (dz (de_bi cb_len (da_cons (de_v 4) da_nil))) (dz (de_bi cb_len (da_cons (de_v 1) da_nil)))))) (dt_and (dt_b (dz (de_op ro_eq (de_v 5) (dz (de_lsetT (de_v 0)))))) (dt_b (dz (de_op ro_eq (de_v 5) (dz (de_lsetT (de_v 1)))))))) (ds_ret (n:=0) [] de_bl) ds_nil)))))
      (ds_ret (n:=0) [] de_bl)) h)⟩
theorem ok__law_cell (D:Def K mg "_law_cell" s__law_cell) (b_len:mg "len" = none):Has P w K mg base "_law_cell" 1 ["_law_script","_law_k"] (sp0 K mg 0 m__law_cell):=by
  letI:Kc:=⟨K⟩
  refine D.ok S__law_cell (fun _ _ _ _ _ _=>uw2 fun _ _=>rfl) (fun vs H Q E h=>spM_len h) (fun f cdv A outer s H vs Q E hr h=>?_)
  have hu:=hr.units
  exact ⟨_,(pss_cons (ps_set (i:=2) S__law_cell.nd rfl (by first | exact Or.inl rfl | exact Or.inr rfl) pe_int)
      (pss_cons (ps_if (pt_cm u_lt (pn 1) (pe_callB (k_lenK (K:=K)) rfl b_len boot_len (pa_cons (pn 0) pa_nil)) (nomark _)) (pss_one (ps_set (i:=2) S__law_cell.nd rfl (by first | exact Or.inl rfl | exact Or.inr rfl) (pe_ix (u_ixK (K:=K)) (pn 0) (pn 1) (fun _ _=>rfl)))) pss_nil)
      (pss_cons (ps_set (i:=3) S__law_cell.nd rfl (by first | exact Or.inl rfl | exact Or.inr rfl) (pe_op u_mod (pe_op u_mulW (pe_op u_add (pe_op u_add (pe_op u_mod (pn 2) pe_int) (pe_op u_mulW pe_int (pn 1))) pe_int) pe_int) pe_int))
      (pss_one (ps_ret (pe_op u_mod (pe_op u_add (pe_op u_mulW (pn 3) pe_int) (pn 1)) pe_int)))))),
    (run_ok (N:=["_law_script","_law_k","_law_cell_here","_law_mixed"]) (ds_seq (ds_set (n:=0) [] de_int)
      (ds_seq (ds_if (dt_b (dz (de_op ro_cmp (de_v 1) (dz (de_bi cb_len (da_cons (de_v 0) da_nil)))))) (ds_set (n:=0) [0,1] (de_op ro_ix (de_v 0) (de_v 1))) ds_nil)
      (ds_seq (ds_set (n:=0) [2,1] (de_op ro_mod (dz (de_op ro_mul (de_op ro_add (de_op ro_add (dz (de_op ro_mod (de_v 2) (dz de_int))) (dz (de_op ro_mul (dz de_int) (de_v 1)))) (dz de_int)) (dz de_int))) (dz de_int)))
      (ds_ret (n:=0) [1,3] (de_op ro_mod (de_op ro_add (dz (de_op ro_mul (de_v 3) (dz de_int))) (de_v 1)) (dz de_int)))))) h)⟩
theorem ok__law_shuffled (D:Def K mg "_law_shuffled" s__law_shuffled) (b_len:mg "len" = none) (b_list:mg "list" = none):Has P w K mg base "_law_shuffled" 1 ["_law_things","_law_number"] (sp0 K mg 9 m__law_shuffled):=by
  letI:Kc:=⟨K⟩
  refine D.ok S__law_shuffled (fun _ _ _ _ _ _=>uw2 fun _ _=>rfl) (fun vs H Q E h=>spM_len h) (fun f cdv A outer s H vs Q E hr h=>?_)
  have hu:=hr.units
  exact ⟨_,(pss_cons (ps_set (i:=2) S__law_shuffled.nd rfl (by first | exact Or.inl rfl | exact Or.inr rfl) (pe_callTy (k_listK (K:=K) rfl) rfl b_list boot_list (pa_cons (pn 0) pa_nil)))
      (pss_cons (ps_set (i:=3) S__law_shuffled.nd rfl (by first | exact Or.inl rfl | exact Or.inr rfl) (pe_lst pa_nil))
      (pss_cons (ps_while PassesOwn.never (pt_cm (u_ne hu) (pn 2) (pe_lst pa_nil) (nomark _)) (pss_cons (ps_set (i:=1) S__law_shuffled.nd rfl (by first | exact Or.inl rfl | exact Or.inr rfl) (pe_op u_mod (pe_op u_add (pe_op u_mulW (pn 1) pe_int) pe_int) pe_int))
      (pss_one (ps_expr (pe_ml PySem.F.plainAttrs_list PySem.F.slot_list_append PySem.F.type_list_append mt_appM (pn 3) (pa_cons (pe_ml PySem.F.plainAttrs_list PySem.F.slot_list_pop PySem.F.type_list_pop mt_popM (pn 2) (pa_cons (pe_op u_mod (pe_op u_divW (pn 1) pe_int) (pe_callB (k_lenK (K:=K)) rfl b_len boot_len (pa_cons (pn 2) pa_nil))) pa_nil)) pa_nil))))))
      (pss_one (ps_ret (pn 3)))))),
    (run_ok (N:=["_law_things","_law_number","_law_left","_law_found"]) (ds_seq (ds_set (n:=1) [0] (de_bi cb_list (da_cons (de_v 0) da_nil)))
      (ds_seq (ds_set (n:=9) [] (de_lst (n:=8) da_nil))
      (ds_seq (ds_while (dt_b (dz (de_op ro_ne (de_v 2) (de_lst (n:=8) da_nil)))) (ds_seq (ds_set (n:=0) [1] (de_op ro_mod (de_op ro_add (dz (de_op ro_mul (de_v 1) (dz de_int))) (dz de_int)) (dz de_int)))
      (ds_appPop 3 2 (dz (de_op ro_mod (dz (de_op ro_div (de_v 1) (dz de_int))) (dz (de_bi cb_len (da_cons (de_v 2) da_nil))))))))
      (ds_retV 3)))) h)⟩
theorem ok__law_moved (D:Def K mg "_law_moved" s__law_moved) (h__law_shuffled:Has P w K mg base "_law_shuffled" 1 ["_law_things","_law_number"] (sp0 K mg 9 m__law_shuffled)) (b_len:mg "len" = none) (b_list:mg "list" = none) (b_reversed:mg "reversed" = none) (b_set:mg "set" = none) (b_sorted:mg "sorted" = none):Has P w K mg base "_law_moved" 2 ["_law_word_here","_law_cell_here","_law_number"] (sp0 K mg 1 m__law_moved):=by
  letI:Kc:=⟨K⟩
  refine D.ok S__law_moved (fun _ _ _ _ _ _=>uw3 fun _ _ _=>rfl) (fun vs H Q E h=>spM_len h) (fun f cdv A outer s H vs Q E hr h=>?_)
  have hu:=hr.units
  exact ⟨_,(pss_cons (ps_set (i:=3) S__law_moved.nd rfl (by first | exact Or.inl rfl | exact Or.inr rfl) (pe_op u_mod (pn 1) (pe_callB (k_lenK (K:=K)) rfl b_len boot_len (pa_cons (pn 0) pa_nil))))
      (pss_cons (ps_set (i:=4) S__law_moved.nd rfl (by first | exact Or.inl rfl | exact Or.inr rfl) (pe_op u_add (pe_slice (u_sl (K:=K)) (pn 0) (po_some (pn 3)) po_none) (pe_slice (u_sl (K:=K)) (pn 0) po_none (po_some (pn 3)))))
      (pss_cons (ps_if (pt_cm (u_eq hu) (pe_op u_mod (pe_op u_divW (pn 1) pe_int) pe_int) pe_int (nomark _)) (pss_one (ps_set (i:=4) S__law_moved.nd rfl (by first | exact Or.inl rfl | exact Or.inr rfl) (pe_bm PySem.F.plainAttrs_str PySem.F.slot_str_join PySem.F.type_str_join (mt_joinRM rfl) pe_str (pa_cons (pe_callTy (k_rev (K:=K)) rfl b_reversed boot_reversed' (pa_cons (pn 4) pa_nil)) pa_nil)))) pss_nil)
      (pss_cons (ps_if (pt_cm (u_eq hu) (pe_op u_mod (pe_op u_divW (pn 1) pe_int) pe_int) pe_int (nomark _)) (pss_one (ps_ret (pn 4))) pss_nil)
      (pss_cons (ps_set (i:=5) S__law_moved.nd rfl (by first | exact Or.inl rfl | exact Or.inr rfl) (pe_callB (k_sortZ rfl) rfl b_sorted boot_sorted (pa_cons (pe_callTy (k_setZ rfl) rfl b_set boot_set' (pa_cons (pn 0) pa_nil)) pa_nil)))
      (pss_cons (ps_set (i:=6) S__law_moved.nd rfl (by first | exact Or.inl rfl | exact Or.inr rfl) (pe_fn h__law_shuffled (by decide) hr rfl (pa_cons (pe_callTy (k_listX (K:=K) rfl) rfl b_list boot_list (pa_cons pe_str pa_nil)) (pa_cons (pn 2) pa_nil))))
      (pss_cons (ps_if (pt_cm (u_eq hu) (pe_op u_mod (pe_op u_divW (pn 1) pe_int) pe_int) pe_int (nomark _)) (pss_one (ps_set (i:=6) S__law_moved.nd rfl (by first | exact Or.inl rfl | exact Or.inr rfl) (pe_fn h__law_shuffled (by decide) hr rfl (pa_cons (pn 5) (pa_cons (pn 2) pa_nil))))) pss_nil)
      (pss_one (ps_ret (pe_bm PySem.F.plainAttrs_str PySem.F.slot_str_join PySem.F.type_str_join mt_joinM pe_str (pa_cons (pe_comp rfl (cn ["0","1","2","3","4","_law_own","_law_fresh","_law_letter"] 1 (by kernel_rfl)) (pi_all (K:=K) (pn 4)) (fun _ _ _ _=>(pg_name (i:=7) (by show List.Nodup (["0","1","2","3","4","_law_own","_law_fresh","_law_letter"]:List Str); decide +kernel) rfl (by first | exact Or.inl rfl | exact Or.inr rfl))) (fun _ _ _ _=>pts_nil) (fun _ _ _ _=>(pe_ix (u_ixK (K:=K)) (pn 6) (pe_ml PySem.F.plainAttrs_list PySem.F.slot_list_index PySem.F.type_list_index mt_lifM (pn 5) (pa_cons (pn 7) pa_nil)) (fun _ _=>rfl)))) pa_nil))))))))))),
    (run_ok (N:=["_law_word_here","_law_cell_here","_law_number","_law_at","_law_seen","_law_own","_law_fresh"]) (ds_seq (ds_set (n:=0) [1,0] (de_op ro_mod (de_v 1) (dz (de_bi cb_len (da_cons (de_v 0) da_nil)))))
      (ds_seq (ds_set (n:=1) [0,3] (de_op ro_add (de_sl (de_v 0) (do_e (de_v 3)) do_no) (de_sl (de_v 0) do_no (do_e (de_v 3)))))
      (ds_seq (ds_if (dt_b (dz (de_op ro_eq (dz (de_op ro_mod (dz (de_op ro_div (de_v 1) (dz de_int))) (dz de_int))) (dz de_int)))) (ds_set (n:=0) [4] (de_joinR (dz de_str) (da_cons (de_v 4) da_nil))) ds_nil)
      (ds_seq (ds_if (dt_b (dz (de_op ro_eq (dz (de_op ro_mod (dz (de_op ro_div (de_v 1) (dz de_int))) (dz de_int))) (dz de_int)))) (ds_retV 4) ds_nil)
      (ds_seq (ds_set (n:=1) [0] (de_sos (de_v 0)))
      (ds_seq (ds_set (n:=9) [2] (de_call (da_cons (de_frz (de_bi cb_listX (da_cons de_str da_nil))) (da_cons (de_v 2) da_nil))))
      (ds_seq (ds_if (dt_b (dz (de_op ro_eq (dz (de_op ro_mod (dz (de_op ro_div (de_v 1) (dz de_int))) (dz de_int))) (dz de_int)))) (ds_set (n:=9) [5,2] (de_call (da_cons (de_v 5) (da_cons (de_v 2) da_nil)))) ds_nil)
      (ds_ret (n:=1) [6,4,5] (de_mt rm_join (dz de_str) (da_cons (de_frz (de_comp (n:=0) (di_all (de_v 4)) (tg_name 7) dt_yes (de_op ro_ix (de_v 6) (dz (de_ml rl_indexF (de_v 5) (da_cons (de_v 7) da_nil)))))) da_nil)))))))))) h)⟩
theorem ok__law_moved_by (D:Def K mg "_law_moved_by" s__law_moved_by) (b_len:mg "len" = none) (b_list:mg "list" = none) (b_reversed:mg "reversed" = none) (b_set:mg "set" = none) (b_sorted:mg "sorted" = none):Has P w K mg base "_law_moved_by" 1 ["_law_word_here","_law_digits"] (sp0 K mg 0 m__law_moved_by):=by
  letI:Kc:=⟨K⟩
  refine D.ok S__law_moved_by (fun _ _ _ _ _ _=>uw2 fun _ _=>rfl) (fun vs H Q E h=>spM_len h) (fun f cdv A outer s H vs Q E hr h=>?_)
  have hu:=hr.units
  exact ⟨_,(pss_cons (ps_set (i:=2) S__law_moved_by.nd rfl (by first | exact Or.inl rfl | exact Or.inr rfl) (pe_op u_mod (pn 1) (pe_callB (k_lenK (K:=K)) rfl b_len boot_len (pa_cons (pn 0) pa_nil))))
      (pss_cons (ps_set (i:=1) S__law_moved_by.nd rfl (by first | exact Or.inl rfl | exact Or.inr rfl) (pe_op u_divW (pn 1) (pe_callB (k_lenK (K:=K)) rfl b_len boot_len (pa_cons (pn 0) pa_nil))))
      (pss_cons (ps_set (i:=3) S__law_moved_by.nd rfl (by first | exact Or.inl rfl | exact Or.inr rfl) (pe_op u_add (pe_slice (u_sl (K:=K)) (pn 0) (po_some (pn 2)) po_none) (pe_slice (u_sl (K:=K)) (pn 0) po_none (po_some (pn 2)))))
      (pss_cons (ps_if (pt_cm (u_eq hu) (pe_op u_mod (pn 1) pe_int) pe_int (nomark _)) (pss_one (ps_set (i:=3) S__law_moved_by.nd rfl (by first | exact Or.inl rfl | exact Or.inr rfl) (pe_bm PySem.F.plainAttrs_str PySem.F.slot_str_join PySem.F.type_str_join (mt_joinRM rfl) pe_str (pa_cons (pe_callTy (k_rev (K:=K)) rfl b_reversed boot_reversed' (pa_cons (pn 3) pa_nil)) pa_nil)))) pss_nil)
      (pss_cons (ps_set (i:=1) S__law_moved_by.nd rfl (by first | exact Or.inl rfl | exact Or.inr rfl) (pe_op u_divW (pn 1) pe_int))
      (pss_cons (ps_set (i:=4) S__law_moved_by.nd rfl (by first | exact Or.inl rfl | exact Or.inr rfl) (pe_callB (k_sortZ rfl) rfl b_sorted boot_sorted (pa_cons (pe_callTy (k_setZ rfl) rfl b_set boot_set' (pa_cons (pn 0) pa_nil)) pa_nil)))
      (pss_cons (ps_set (i:=5) S__law_moved_by.nd rfl (by first | exact Or.inl rfl | exact Or.inr rfl) (pe_callTy (k_listX (K:=K) rfl) rfl b_list boot_list (pa_cons pe_str pa_nil)))
      (pss_cons (ps_set (i:=6) S__law_moved_by.nd rfl (by first | exact Or.inl rfl | exact Or.inr rfl) (pe_lst pa_nil))
      (pss_cons (ps_forK PassesOwn.never rfl (pi_all (K:=K) (pn 4)) (pg_name (i:=7) S__law_moved_by.nd rfl (by first | exact Or.inl rfl | exact Or.inr rfl)) (pss_cons (ps_expr (pe_ml PySem.F.plainAttrs_list PySem.F.slot_list_append PySem.F.type_list_append mt_appM (pn 6) (pa_cons (pe_ml PySem.F.plainAttrs_list PySem.F.slot_list_pop PySem.F.type_list_pop mt_popM (pn 5) (pa_cons (pe_op u_mod (pn 1) (pe_callB (k_lenK (K:=K)) rfl b_len boot_len (pa_cons (pn 5) pa_nil))) pa_nil)) pa_nil)))
      (pss_one (ps_set (i:=1) S__law_moved_by.nd rfl (by first | exact Or.inl rfl | exact Or.inr rfl) (pe_op u_divW (pn 1) (pe_op u_add (pe_callB (k_lenK (K:=K)) rfl b_len boot_len (pa_cons (pn 5) pa_nil)) pe_int))))))
      (pss_one (ps_ret (pe_bm PySem.F.plainAttrs_str PySem.F.slot_str_join PySem.F.type_str_join mt_joinM pe_str (pa_cons (pe_comp rfl (cn ["0","1","2","3","_law_own","5","_law_fresh","7","_law_letter"] 1 (by kernel_rfl)) (pi_all (K:=K) (pn 3)) (fun _ _ _ _=>(pg_name (i:=8) (by show List.Nodup (["0","1","2","3","_law_own","5","_law_fresh","7","_law_letter"]:List Str); decide +kernel) rfl (by first | exact Or.inl rfl | exact Or.inr rfl))) (fun _ _ _ _=>pts_nil) (fun _ _ _ _=>(pe_ix (u_ixK (K:=K)) (pn 6) (pe_ml PySem.F.plainAttrs_list PySem.F.slot_list_index PySem.F.type_list_index mt_lifM (pn 4) (pa_cons (pn 8) pa_nil)) (fun _ _=>rfl)))) pa_nil))))))))))))),
    (run_ok (N:=["_law_word_here","_law_digits","_law_at","_law_seen","_law_own","_law_left","_law_fresh","_law_letter"]) (ds_seq (ds_set (n:=0) [1,0] (de_op ro_mod (de_v 1) (dz (de_bi cb_len (da_cons (de_v 0) da_nil)))))
      (ds_seq (ds_set (n:=0) [1,0] (de_op ro_div (de_v 1) (dz (de_bi cb_len (da_cons (de_v 0) da_nil)))))
      (ds_seq (ds_set (n:=1) [0,2] (de_op ro_add (de_sl (de_v 0) (do_e (de_v 2)) do_no) (de_sl (de_v 0) do_no (do_e (de_v 2)))))
      (ds_seq (ds_if (dt_b (dz (de_op ro_eq (dz (de_op ro_mod (de_v 1) (dz de_int))) (dz de_int)))) (ds_set (n:=0) [3] (de_joinR (dz de_str) (da_cons (de_v 3) da_nil))) ds_nil)
      (ds_seq (ds_set (n:=0) [1] (de_op ro_div (de_v 1) (dz de_int)))
      (ds_seq (ds_set (n:=1) [0] (de_sos (de_v 0)))
      (ds_seq (ds_set (n:=1) [] (de_bi cb_listX (da_cons de_str da_nil)))
      (ds_seq (ds_set (n:=9) [] (de_lst (n:=8) da_nil))
      (ds_seq (ds_for [4] (di_all (de_v 4)) (tg_name 7) (ds_seq (ds_appPop 6 5 (dz (de_op ro_mod (de_v 1) (dz (de_bi cb_len (da_cons (de_v 5) da_nil))))))
      (ds_set (n:=0) [1,5] (de_op ro_div (de_v 1) (de_op ro_add (dz (de_bi cb_len (da_cons (de_v 5) da_nil))) (dz de_int))))))
      (ds_ret (n:=0) [6,7,3,4] (de_mt rm_join (dz de_str) (da_cons (de_frz (de_comp (n:=0) (di_all (de_v 3)) (tg_name 8) dt_yes (de_op ro_ix (de_v 6) (dz (de_ml rl_indexF (de_v 4) (da_cons (de_v 8) da_nil)))))) da_nil)))))))))))) h)⟩
theorem ok__law_raw (D:Def K mg "_law_raw" s__law_raw) (b_len:mg "len" = none):Has P w K mg base "_law_raw" 1 ["_law_script","_law_k"] (sp0 K mg 0 m__law_raw):=by
  letI:Kc:=⟨K⟩
  refine D.ok S__law_raw (fun _ _ _ _ _ _=>uw2 fun _ _=>rfl) (fun vs H Q E h=>spM_len h) (fun f cdv A outer s H vs Q E hr h=>?_)
  have hu:=hr.units
  exact ⟨_,(pss_cons (ps_set (i:=2) S__law_raw.nd rfl (by first | exact Or.inl rfl | exact Or.inr rfl) pe_int)
      (pss_cons (ps_if (pt_cm u_gt (pe_callB (k_lenK (K:=K)) rfl b_len boot_len (pa_cons (pn 0) pa_nil)) pe_int (nomark _)) (pss_one (ps_set (i:=2) S__law_raw.nd rfl (by first | exact Or.inl rfl | exact Or.inr rfl) (pe_ix (u_ixK (K:=K)) (pn 0) (pe_op u_mod (pn 1) (pe_callB (k_lenK (K:=K)) rfl b_len boot_len (pa_cons (pn 0) pa_nil))) (fun _ _=>rfl)))) pss_nil)
      (pss_one (ps_ret (pe_op u_mod (pn 2) (pe_op u_pow pe_int pe_int)))))),
    (run_ok (N:=["_law_script","_law_k","_law_cell_here"]) (ds_seq (ds_set (n:=0) [] de_int)
      (ds_seq (ds_if (dt_b (dz (de_op ro_cmp (dz (de_bi cb_len (da_cons (de_v 0) da_nil))) (dz de_int)))) (ds_set (n:=0) [0,1] (de_op ro_ix (de_v 0) (dz (de_op ro_mod (de_v 1) (dz (de_bi cb_len (da_cons (de_v 0) da_nil))))))) ds_nil)
      (ds_ret (n:=0) [2] (de_op ro_mod (de_v 2) (dz (de_op ro_pow (dz de_int) (dz de_int))))))) h)⟩
theorem ok__law_word (D:Def K mg "_law_word" s__law_word) (h__law_cell:Has P w K mg base "_law_cell" 1 ["_law_script","_law_k"] (sp0 K mg 0 m__law_cell)) (h__law_shuffled:Has P w K mg base "_law_shuffled" 1 ["_law_things","_law_number"] (sp0 K mg 9 m__law_shuffled)) (b_list:mg "list" = none):Has P w K mg base "_law_word" 2 ["_law_script","_law_at","_law_least","_law_most"] (sp0 K mg 0 m__law_word):=by
  letI:Kc:=⟨K⟩
  refine D.ok S__law_word (fun _ _ _ _ _ _=>uw4 fun _ _ _ _=>rfl) (fun vs H Q E h=>spM_len h) (fun f cdv A outer s H vs Q E hr h=>?_)
  have hu:=hr.units
  exact ⟨_,(pss_cons (ps_set (i:=4) S__law_word.nd rfl (by first | exact Or.inl rfl | exact Or.inr rfl) pe_str)
      (pss_cons (ps_set (i:=5) S__law_word.nd rfl (by first | exact Or.inl rfl | exact Or.inr rfl) (pe_fn h__law_cell (by decide) hr rfl (pa_cons (pn 0) (pa_cons (pn 1) pa_nil))))
      (pss_cons (ps_set (i:=6) S__law_word.nd rfl (by first | exact Or.inl rfl | exact Or.inr rfl) (pe_op u_add (pn 2) (pe_op u_mod (pn 5) (pe_op u_add (pe_op u_sub (pn 3) (pn 2)) pe_int))))
      (pss_cons (ps_set (i:=7) S__law_word.nd rfl (by first | exact Or.inl rfl | exact Or.inr rfl) (pe_slice (u_sl (K:=K)) (pe_fn h__law_shuffled (by decide) hr rfl (pa_cons (pe_callTy (k_listX (K:=K) rfl) rfl b_list boot_list (pa_cons (pn 4) pa_nil)) (pa_cons (pe_fn h__law_cell (by decide) hr rfl (pa_cons (pn 0) (pa_cons (pe_op u_add (pn 1) pe_int) pa_nil))) pa_nil))) po_none (po_some (pn 6))))
      (pss_cons (ps_if (pt_cm (u_eq hu) (pe_op u_mod (pe_op u_divW (pn 5) pe_int) pe_int) pe_int (nomark _)) (pss_one (ps_set (i:=7) S__law_word.nd rfl (by first | exact Or.inl rfl | exact Or.inr rfl) (pe_callTy (k_listX (K:=K) rfl) rfl b_list boot_list (pa_cons (pe_slice (u_sl (K:=K)) (pn 4) po_none (po_some (pn 6))) pa_nil)))) pss_nil)
      (pss_one (ps_ret (pe_bm PySem.F.plainAttrs_str PySem.F.slot_str_join PySem.F.type_str_join mt_joinM pe_str (pa_cons (pe_fn h__law_shuffled (by decide) hr rfl (pa_cons (pe_op u_add (pn 7) (pn 7)) (pa_cons (pe_fn h__law_cell (by decide) hr rfl (pa_cons (pn 0) (pa_cons (pe_op u_add (pn 1) pe_int) pa_nil))) pa_nil))) pa_nil))))))))),
    (run_ok (N:=["_law_script","_law_at","_law_least","_law_most","_law_small","_law_number","_law_many","_law_letters"]) (ds_seq (ds_set (n:=0) [] de_str)
      (ds_seq (ds_set (n:=0) [0,1] (de_call (da_cons (de_v 0) (da_cons (de_v 1) da_nil))))
      (ds_seq (ds_set (n:=1) [2,5,3] (de_op ro_add (de_v 2) (dz (de_op ro_mod (de_v 5) (de_op ro_add (dz (de_op ro_sub (de_v 3) (de_v 2))) (dz de_int))))))
      (ds_seq (ds_set (n:=1) [6,4,0,1] (de_sl (de_call (da_cons (de_frz (de_bi cb_listX (da_cons (de_v 4) da_nil))) (da_cons (de_call (da_cons (de_v 0) (da_cons (de_frz (de_op ro_add (de_v 1) (dz de_int))) da_nil))) da_nil))) do_no (do_e (de_v 6))))
      (ds_seq (ds_if (dt_b (dz (de_op ro_eq (dz (de_op ro_mod (dz (de_op ro_div (de_v 5) (dz de_int))) (dz de_int))) (dz de_int)))) (ds_set (n:=1) [4,6] (de_bi cb_listX (da_cons (de_frz (de_sl (de_v 4) do_no (do_e (de_v 6)))) da_nil))) ds_nil)
      (ds_ret (n:=0) [7,0,1] (de_mt rm_join (dz de_str) (da_cons (de_frz (de_call (da_cons (de_frz (de_op ro_add (de_v 7) (de_v 7))) (da_cons (de_call (da_cons (de_v 0) (da_cons (de_frz (de_op ro_add (de_v 1) (dz de_int))) da_nil))) da_nil)))) da_nil)))))))) h)⟩
theorem ok__law_ordered (D:Def K mg "_law_ordered" s__law_ordered) (b_len:mg "len" = none) (b_list:mg "list" = none):Has P w K mg base "_law_ordered" 1 ["_law_things","_law_digits"] (sp0 K mg 9 m__law_ordered_v2):=by
  letI:Kc:=⟨K⟩
  refine D.ok S__law_ordered (fun _ _ _ _ _ _=>uw2 fun _ _=>rfl) (fun vs H Q E h=>spM_len h) (fun f cdv A outer s H vs Q E hr h=>?_)
  have hu:=hr.units
  exact ⟨_,(pss_cons (ps_set (i:=2) S__law_ordered.nd rfl (by first | exact Or.inl rfl | exact Or.inr rfl) (pe_callTy (k_listK (K:=K) rfl) rfl b_list boot_list (pa_cons (pn 0) pa_nil)))
      (pss_cons (ps_set (i:=3) S__law_ordered.nd rfl (by first | exact Or.inl rfl | exact Or.inr rfl) (pe_lst pa_nil))
      (pss_cons (ps_while PassesOwn.never (pt_cm (u_ne hu) (pn 2) (pe_lst pa_nil) (nomark _)) (pss_cons (ps_expr (pe_ml PySem.F.plainAttrs_list PySem.F.slot_list_append PySem.F.type_list_append mt_appM (pn 3) (pa_cons (pe_ml PySem.F.plainAttrs_list PySem.F.slot_list_pop PySem.F.type_list_pop mt_popM (pn 2) (pa_cons (pe_op u_mod (pn 1) (pe_callB (k_lenK (K:=K)) rfl b_len boot_len (pa_cons (pn 2) pa_nil))) pa_nil)) pa_nil)))
      (pss_one (ps_set (i:=1) S__law_ordered.nd rfl (by first | exact Or.inl rfl | exact Or.inr rfl) (pe_op u_divW (pn 1) (pe_op u_add (pe_callB (k_lenK (K:=K)) rfl b_len boot_len (pa_cons (pn 2) pa_nil)) pe_int))))))
      (pss_one (ps_ret (pn 3)))))),
    (run_ok (N:=["_law_things","_law_digits","_law_left","_law_found"]) (ds_seq (ds_set (n:=1) [0] (de_bi cb_list (da_cons (de_v 0) da_nil)))
      (ds_seq (ds_set (n:=9) [] (de_lst (n:=8) da_nil))
      (ds_seq (ds_while (dt_b (dz (de_op ro_ne (de_v 2) (de_lst (n:=8) da_nil)))) (ds_seq (ds_appPop 3 2 (dz (de_op ro_mod (de_v 1) (dz (de_bi cb_len (da_cons (de_v 2) da_nil))))))
      (ds_set (n:=0) [1,2] (de_op ro_div (de_v 1) (de_op ro_add (dz (de_bi cb_len (da_cons (de_v 2) da_nil))) (dz de_int))))))
      (ds_retV 3)))) h)⟩
theorem ok__law_word_of (D:Def K mg "_law_word_of" s__law_word_of) (h__law_ordered:Has P w K mg base "_law_ordered" 1 ["_law_things","_law_digits"] (sp0 K mg 9 m__law_ordered_v2)) (b_len:mg "len" = none) (b_list:mg "list" = none) (b_range:mg "range" = none):Has P w K mg base "_law_word_of" 2 ["_law_digits","_law_most"] (sp0 K mg 0 m__law_word_of):=by
  letI:Kc:=⟨K⟩
  refine D.ok S__law_word_of (fun _ _ _ _ _ _=>uw2 fun _ _=>rfl) (fun vs H Q E h=>spM_len h) (fun f cdv A outer s H vs Q E hr h=>?_)
  have hu:=hr.units
  exact ⟨_,(pss_cons (ps_set (i:=2) S__law_word_of.nd rfl (by first | exact Or.inl rfl | exact Or.inr rfl) (pe_op u_add pe_int (pe_op u_mod (pn 0) (pn 1))))
      (pss_cons (ps_set (i:=0) S__law_word_of.nd rfl (by first | exact Or.inl rfl | exact Or.inr rfl) (pe_op u_divW (pn 0) (pn 1)))
      (pss_cons (ps_set (i:=3) S__law_word_of.nd rfl (by first | exact Or.inl rfl | exact Or.inr rfl) (pe_callTy (k_listX (K:=K) rfl) rfl b_list boot_list (pa_cons pe_str pa_nil)))
      (pss_cons (ps_set (i:=4) S__law_word_of.nd rfl (by first | exact Or.inl rfl | exact Or.inr rfl) (pe_lst pa_nil))
      (pss_cons (ps_forK PassesOwn.never rfl (pi_range1 rfl b_range (pa_cons (pn 2) pa_nil)) (pg_name (i:=5) S__law_word_of.nd rfl (by first | exact Or.inl rfl | exact Or.inr rfl)) (pss_cons (ps_expr (pe_ml PySem.F.plainAttrs_list PySem.F.slot_list_append PySem.F.type_list_append mt_appM (pn 4) (pa_cons (pe_ml PySem.F.plainAttrs_list PySem.F.slot_list_pop PySem.F.type_list_pop mt_popM (pn 3) (pa_cons (pe_op u_mod (pn 0) (pe_callB (k_lenK (K:=K)) rfl b_len boot_len (pa_cons (pn 3) pa_nil))) pa_nil)) pa_nil)))
      (pss_one (ps_set (i:=0) S__law_word_of.nd rfl (by first | exact Or.inl rfl | exact Or.inr rfl) (pe_op u_divW (pn 0) (pe_op u_add (pe_callB (k_lenK (K:=K)) rfl b_len boot_len (pa_cons (pn 3) pa_nil)) pe_int))))))
      (pss_one (ps_ret (pe_bm PySem.F.plainAttrs_str PySem.F.slot_str_join PySem.F.type_str_join mt_joinM pe_str (pa_cons (pe_fn h__law_ordered (by decide) hr rfl (pa_cons (pe_op u_add (pn 4) (pn 4)) (pa_cons (pn 0) pa_nil))) pa_nil))))))))),
    (run_ok (N:=["_law_digits","_law_most","_law_many","_law_left","_law_letters","_law_k"]) (ds_seq (ds_set (n:=1) [0,1] (de_op ro_add (dz de_int) (dz (de_op ro_mod (de_v 0) (de_v 1)))))
      (ds_seq (ds_set (n:=0) [0,1] (de_op ro_div (de_v 0) (de_v 1)))
      (ds_seq (ds_set (n:=1) [] (de_bi cb_listX (da_cons de_str da_nil)))
      (ds_seq (ds_set (n:=9) [] (de_lst (n:=8) da_nil))
      (ds_seq (ds_forR (di_r1 (da_cons (de_v 2) da_nil)) (ds_seq (ds_appPop 4 3 (dz (de_op ro_mod (de_v 0) (dz (de_bi cb_len (da_cons (de_v 3) da_nil))))))
      (ds_set (n:=0) [0,3] (de_op ro_div (de_v 0) (de_op ro_add (dz (de_bi cb_len (da_cons (de_v 3) da_nil))) (dz de_int))))))
      (ds_ret (n:=0) [0,4] (de_mt rm_join (dz de_str) (da_cons (de_frz (de_call (da_cons (de_frz (de_op ro_add (de_v 4) (de_v 4))) (da_cons (de_v 0) da_nil)))) da_nil)))))))) h)⟩
theorem ok__law_words (D:Def K mg "_law_words" s__law_words) (h__law_cell:Has P w K mg base "_law_cell" 1 ["_law_script","_law_k"] (sp0 K mg 0 m__law_cell)) (h__law_moved:Has P w K mg base "_law_moved" 2 ["_law_word_here","_law_cell_here","_law_number"] (sp0 K mg 1 m__law_moved)) (h__law_moved_by:Has P w K mg base "_law_moved_by" 1 ["_law_word_here","_law_digits"] (sp0 K mg 0 m__law_moved_by)) (h__law_raw:Has P w K mg base "_law_raw" 1 ["_law_script","_law_k"] (sp0 K mg 0 m__law_raw)) (h__law_word:Has P w K mg base "_law_word" 2 ["_law_script","_law_at","_law_least","_law_most"] (sp0 K mg 0 m__law_word)) (h__law_word_of:Has P w K mg base "_law_word_of" 2 ["_law_digits","_law_most"] (sp0 K mg 0 m__law_word_of)) (b_range:mg "range" = none):Has P w K mg base "_law_words" 3 ["_law_script"] (sp0 K mg 1 m__law_words):=by
  letI:Kc:=⟨K⟩
  refine D.ok S__law_words (fun _ _ _ _ _ _=>uw1 fun _=>rfl) (fun vs H Q E h=>spM_len h) (fun f cdv A outer s H vs Q E hr h=>?_)
  have hu:=hr.units
  exact ⟨_,(pss_cons (ps_if (pt_cm (u_eq hu) (pe_op u_mod (pe_fn h__law_raw (by decide) hr rfl (pa_cons (pn 0) (pa_cons pe_int pa_nil))) pe_int) pe_int (nomark _)) (pss_cons (ps_set (i:=1) S__law_words.nd rfl (by first | exact Or.inl rfl | exact Or.inr rfl) (pe_fn h__law_word_of (by decide) hr rfl (pa_cons (pe_fn h__law_raw (by decide) hr rfl (pa_cons (pn 0) (pa_cons pe_int pa_nil))) (pa_cons pe_int pa_nil))))
      (pss_one (ps_ret (pe_lst (pa_cons (pn 1) (pa_cons (pe_fn h__law_moved_by (by decide) hr rfl (pa_cons (pn 1) (pa_cons (pe_fn h__law_raw (by decide) hr rfl (pa_cons (pn 0) (pa_cons pe_int pa_nil))) pa_nil))) (pa_cons (pe_fn h__law_moved_by (by decide) hr rfl (pa_cons (pn 1) (pa_cons (pe_fn h__law_raw (by decide) hr rfl (pa_cons (pn 0) (pa_cons pe_int pa_nil))) pa_nil))) pa_nil))))))) pss_nil)
      (pss_cons (ps_set (i:=1) S__law_words.nd rfl (by first | exact Or.inl rfl | exact Or.inr rfl) (pe_fn h__law_word (by decide) hr rfl (pa_cons (pn 0) (pa_cons pe_int (pa_cons pe_int (pa_cons pe_int pa_nil))))))
      (pss_cons (ps_set (i:=2) S__law_words.nd rfl (by first | exact Or.inl rfl | exact Or.inr rfl) (pe_lst (pa_cons (pn 1) pa_nil)))
      (pss_cons (ps_forK PassesOwn.never rfl (pi_range1 rfl b_range (pa_cons pe_int pa_nil)) (pg_name (i:=3) S__law_words.nd rfl (by first | exact Or.inl rfl | exact Or.inr rfl)) (pss_one (ps_expr (pe_ml PySem.F.plainAttrs_list PySem.F.slot_list_append PySem.F.type_list_append mt_appM (pn 2) (pa_cons (pe_fn h__law_moved (by decide) hr rfl (pa_cons (pn 1) (pa_cons (pe_fn h__law_cell (by decide) hr rfl (pa_cons (pn 0) (pa_cons (pe_op u_add pe_int (pe_op u_mulW pe_int (pn 3))) pa_nil))) (pa_cons (pe_fn h__law_cell (by decide) hr rfl (pa_cons (pn 0) (pa_cons (pe_op u_add pe_int (pe_op u_mulW pe_int (pn 3))) pa_nil))) pa_nil)))) pa_nil)))))
      (pss_one (ps_ret (pn 2))))))),
    (run_ok (N:=["_law_script","_law_word_here","_law_words_here","_law_k"]) (ds_seq (ds_if (dt_b (dz (de_op ro_eq (dz (de_op ro_mod (de_call (da_cons (de_v 0) (da_cons de_int da_nil))) (dz de_int))) (dz de_int)))) (ds_seq (ds_set (n:=0) [0] (de_call (da_cons (de_call (da_cons (de_v 0) (da_cons de_int da_nil))) (da_cons de_int da_nil))))
      (ds_ret (n:=1) [1,0] (de_lst (n:=0) (da_cons (de_v 1) (da_cons (de_call (da_cons (de_v 1) (da_cons (de_call (da_cons (de_v 0) (da_cons de_int da_nil))) da_nil))) (da_cons (de_call (da_cons (de_v 1) (da_cons (de_call (da_cons (de_v 0) (da_cons de_int da_nil))) da_nil))) da_nil)))))) ds_nil)
      (ds_seq (ds_set (n:=0) [0] (de_call (da_cons (de_v 0) (da_cons de_int (da_cons de_int (da_cons de_int da_nil))))))
      (ds_seq (ds_set (n:=1) [1] (de_lst (n:=0) (da_cons (de_v 1) da_nil)))
      (ds_seq (ds_forR (di_r1 (da_cons de_int da_nil)) (ds_app 2 (n:=1) (de_call (da_cons (de_v 1) (da_cons (de_call (da_cons (de_v 0) (da_cons (de_frz (de_op ro_add (dz de_int) (dz (de_op ro_mul (dz de_int) (de_v 3))))) da_nil))) (da_cons (de_call (da_cons (de_v 0) (da_cons (de_frz (de_op ro_add (dz de_int) (dz (de_op ro_mul (dz de_int) (de_v 3))))) da_nil))) da_nil))))))
      (ds_retV 2))))) h)⟩
theorem ok_shifted (D:Def K mg "shifted" s_shifted) (b_len:mg "len" = none):Has P w K mg base "shifted" 1 ["word","by"] (sp0 K mg 1 m_shifted):=by
  letI:Kc:=⟨K⟩
  refine D.ok S_shifted (fun _ _ _ _ _ _=>uw2 fun _ _=>rfl) (fun vs H Q E h=>spM_len h) (fun f cdv A outer s H vs Q E hr h=>?_)
  have hu:=hr.units
  exact ⟨_,(pss_cons (ps_set (i:=2) S_shifted.nd rfl (by first | exact Or.inl rfl | exact Or.inr rfl) (pe_op u_mod (pn 1) (pe_callB (k_lenK (K:=K)) rfl b_len boot_len (pa_cons (pn 0) pa_nil))))
      (pss_one (ps_ret (pe_op u_add (pe_slice (u_sl (K:=K)) (pn 0) (po_some (pn 2)) po_none) (pe_slice (u_sl (K:=K)) (pn 0) po_none (po_some (pn 2))))))),
    (run_ok (N:=["word","by","signs"]) (ds_seq (ds_set (n:=0) [1,0] (de_op ro_mod (de_v 1) (dz (de_bi cb_len (da_cons (de_v 0) da_nil)))))
      (ds_ret (n:=1) [0,2] (de_op ro_add (de_sl (de_v 0) (do_e (de_v 2)) do_no) (de_sl (de_v 0) do_no (do_e (de_v 2)))))) h)⟩
theorem ok_form_of (D:Def K mg "form_of" s_form_of) (h_shifted:Has P w K mg base "shifted" 1 ["word","by"] (sp0 K mg 1 m_shifted)):Has P w K mg base "form_of" 2 ["word","shift","mirrored"] (sp0 K mg 0 m_form_of):=by
  letI:Kc:=⟨K⟩
  refine D.ok S_form_of (fun _ _ _ _ _ _=>uw3 fun _ _ _=>rfl) (fun vs H Q E h=>spM_len h) (fun f cdv A outer s H vs Q E hr h=>?_)
  have hu:=hr.units
  exact ⟨_,(pss_cons (ps_set (i:=3) S_form_of.nd rfl (by first | exact Or.inl rfl | exact Or.inr rfl) (pe_fn h_shifted (by decide) hr rfl (pa_cons (pn 0) (pa_cons (pn 1) pa_nil))))
      (pss_one (ps_ret (pe_ifExp (pt_m (pn 2)) (pe_revS (pn 3) (pe_un u_neg pe_int)) (pn 3))))),
    (run_ok (N:=["word","shift","mirrored","told"]) (ds_seq (ds_set (n:=1) [0,1] (de_call (da_cons (de_v 0) (da_cons (de_v 1) da_nil))))
      (ds_ret (n:=0) [2,3] (de_ifx (dt_m (de_v 2)) (de_op ro_rev (de_v 3) (dz (de_un ro_neg (dz de_int)))) (de_v 3)))) h)⟩
theorem ok_place_order (D:Def K mg "place_order" s_place_order) (b_enumerate:mg "enumerate" = none):Has P w K mg base "place_order" 1 ["word"] (sp0 K mg 0 m_place_order):=by
  letI:Kc:=⟨K⟩
  refine D.ok S_place_order (fun _ _ _ _ _ _=>uw1 fun _=>rfl) (fun vs H Q E h=>spM_len h) (fun f cdv A outer s H vs Q E hr h=>?_)
  have hu:=hr.units
  exact ⟨_,(pss_one (ps_ret (pe_bm PySem.F.plainAttrs_str PySem.F.slot_str_join PySem.F.type_str_join mt_joinM pe_str (pa_cons (pe_comp rfl (cn ["word","at","sign"] 2 (by kernel_rfl)) (pi_enumX (K:=K) rfl b_enumerate (pa_cons (pn 0) pa_nil)) (fun _ _ _ _=>pg_tupK (K:=K) rfl (pgs_cons (pg_name (i:=1) (by show List.Nodup (["word","at","sign"]:List Str); decide +kernel) rfl (by first | exact Or.inl rfl | exact Or.inr rfl)) (pgs_cons (pg_name (i:=2) (by show List.Nodup (["word","at","sign"]:List Str); decide +kernel) rfl (by first | exact Or.inl rfl | exact Or.inr rfl)) pgs_nil))) (fun _ _ _ _=>pts_one (pt_cm (u_eq hu) (pe_bm PySem.F.plainAttrs_str PySem.F.slot_str_find PySem.F.type_str_find mt_findM (pn 0) (pa_cons (pn 2) pa_nil)) (pn 1) (nomark _))) (fun _ _ _ _=>(pn 2))) pa_nil)))),
    (run_ok (N:=["word"]) (ds_ret (n:=0) [0] (de_mt rm_join (dz de_str) (da_cons (de_frz (de_comp (n:=0) (di_enX (da_cons (de_v 0) da_nil)) (tg_tup (tgs_cons 1 (tgs_cons 2 tgs_nil)) rfl) (dt_b (dz (de_op ro_eq (dz (de_mt rm_find (de_v 0) (da_cons (de_v 2) da_nil))) (de_v 1)))) (de_v 2))) da_nil))) h)⟩
theorem ok_written (D:Def K mg "written" s_written) (h_place_order:Has P w K mg base "place_order" 1 ["word"] (sp0 K mg 0 m_place_order)) {u_SMALL_LETTERS:Value} (c_SMALL_LETTERS:RelV (V.str "abcdefghijklmnopqrstuvwxyz") u_SMALL_LETTERS ∧ mg "SMALL_LETTERS" = some u_SMALL_LETTERS):Has P w K mg base "written" 2 ["word"] (sp0 K mg 0 m_written):=by
  letI:Kc:=⟨K⟩
  refine D.ok S_written (fun _ _ _ _ _ _=>uw1 fun _=>rfl) (fun vs H Q E h=>spM_len h) (fun f cdv A outer s H vs Q E hr h=>?_)
  have hu:=hr.units
  exact ⟨_,(pss_cons (ps_set (i:=1) S_written.nd rfl (by first | exact Or.inl rfl | exact Or.inr rfl) (pe_fn h_place_order (by decide) hr rfl (pa_cons (pn 0) pa_nil)))
      (pss_one (ps_ret (pe_bm PySem.F.plainAttrs_str PySem.F.slot_str_join PySem.F.type_str_join mt_joinM pe_str (pa_cons (pe_comp rfl (cn ["0","order","sign"] 1 (by kernel_rfl)) (pi_all (K:=K) (pn 0)) (fun _ _ _ _=>(pg_name (i:=2) (by show List.Nodup (["0","order","sign"]:List Str); decide +kernel) rfl (by first | exact Or.inl rfl | exact Or.inr rfl))) (fun _ _ _ _=>pts_nil) (fun _ _ _ _=>(pe_ix (u_ixK (K:=K)) (pe_glob rfl c_SMALL_LETTERS.2 c_SMALL_LETTERS.1) (pe_bm PySem.F.plainAttrs_str PySem.F.slot_str_find PySem.F.type_str_find mt_findM (pn 1) (pa_cons (pn 2) pa_nil)) (fun _ _=>rfl)))) pa_nil))))),
    (run_ok (N:=["word","order"]) (ds_seq (ds_set (n:=0) [0] (de_call (da_cons (de_v 0) da_nil)))
      (ds_ret (n:=0) [0,1] (de_mt rm_join (dz de_str) (da_cons (de_frz (de_comp (n:=0) (di_all (de_v 0)) (tg_name 2) dt_yes (de_op ro_ix (dz de_str) (dz (de_mt rm_find (de_v 1) (da_cons (de_v 2) da_nil)))))) da_nil)))) h)⟩
theorem ok_least_writing (D:Def K mg "least_writing" s_least_writing) (h_form_of:Has P w K mg base "form_of" 2 ["word","shift","mirrored"] (sp0 K mg 0 m_form_of)) (h_written:Has P w K mg base "written" 2 ["word"] (sp0 K mg 0 m_written)) (b_len:mg "len" = none) (b_min:mg "min" = none) (b_range:mg "range" = none):Has P w K mg base "least_writing" 3 ["word"] (sp0 K mg 0 m_least_writing):=by
  letI:Kc:=⟨K⟩
  refine D.ok S_least_writing (fun _ _ _ _ _ _=>uw1 fun _=>rfl) (fun vs H Q E h=>spM_len h) (fun f cdv A outer s H vs Q E hr h=>?_)
  have hu:=hr.units
  exact ⟨_,(pss_cons (ps_setComp (i:=1) S_least_writing.nd rfl (by first | exact Or.inl rfl | exact Or.inr rfl) rfl (cn ["word","1","2","shift"] 1 (by kernel_rfl)) (pi_range1 rfl b_range (pa_cons (pe_callB (k_lenK (K:=K)) rfl b_len boot_len (pa_cons (pn 0) pa_nil)) pa_nil)) (fun _ _ _ _=>(pg_name (i:=3) (by show List.Nodup (["word","1","2","shift"]:List Str); decide +kernel) rfl (by first | exact Or.inl rfl | exact Or.inr rfl))) (fun _ _ _ _=>pts_nil) (fun _ _ _ _=>(pe_fn h_written (by decide) hr rfl (pa_cons (pe_fn h_form_of (by decide) hr rfl (pa_cons (pn 0) (pa_cons (pn 3) (pa_cons pe_bl pa_nil)))) pa_nil))))
      (pss_cons (ps_setComp (i:=2) S_least_writing.nd rfl (by first | exact Or.inl rfl | exact Or.inr rfl) rfl (cn ["word","1","2","shift"] 1 (by kernel_rfl)) (pi_range1 rfl b_range (pa_cons (pe_callB (k_lenK (K:=K)) rfl b_len boot_len (pa_cons (pn 0) pa_nil)) pa_nil)) (fun _ _ _ _=>(pg_name (i:=3) (by show List.Nodup (["word","1","2","shift"]:List Str); decide +kernel) rfl (by first | exact Or.inl rfl | exact Or.inr rfl))) (fun _ _ _ _=>pts_nil) (fun _ _ _ _=>(pe_fn h_written (by decide) hr rfl (pa_cons (pe_fn h_form_of (by decide) hr rfl (pa_cons (pn 0) (pa_cons (pn 3) (pa_cons pe_bl pa_nil)))) pa_nil))))
      (pss_one (ps_ret (pe_callB (k_minS rfl) rfl b_min boot_min (pa_cons (pe_op u_add (pn 1) (pn 2)) pa_nil)))))),
    (run_ok (N:=["word","forward","backward"]) (ds_seq (ds_set (n:=1) [0] (de_comp (n:=0) (di_r1 (da_cons (de_bi cb_len (da_cons (de_v 0) da_nil)) da_nil)) (tg_name 3) dt_yes (de_call (da_cons (de_call (da_cons (de_v 0) (da_cons (de_v 3) (da_cons de_bl da_nil)))) da_nil))))
      (ds_seq (ds_set (n:=1) [0] (de_comp (n:=0) (di_r1 (da_cons (de_bi cb_len (da_cons (de_v 0) da_nil)) da_nil)) (tg_name 3) dt_yes (de_call (da_cons (de_call (da_cons (de_v 0) (da_cons (de_v 3) (da_cons de_bl da_nil)))) da_nil))))
      (ds_ret (n:=0) [1,2] (de_bi cb_minS (da_cons (de_frz (de_op ro_add (de_v 1) (de_v 2))) da_nil))))) h)⟩
theorem ok_letters_of (D:Def K mg "letters_of" s_letters_of) (b_set:mg "set" = none) (b_sorted:mg "sorted" = none):Has P w K mg base "letters_of" 1 ["word"] (sp0 K mg 0 m_letters_of):=by
  letI:Kc:=⟨K⟩
  refine D.ok S_letters_of (fun _ _ _ _ _ _=>uw1 fun _=>rfl) (fun vs H Q E h=>spM_len h) (fun f cdv A outer s H vs Q E hr h=>?_)
  have hu:=hr.units
  exact ⟨_,(pss_one (ps_ret (pe_bm PySem.F.plainAttrs_str PySem.F.slot_str_join PySem.F.type_str_join mt_joinM pe_str (pa_cons (pe_callB (k_sortZ rfl) rfl b_sorted boot_sorted (pa_cons (pe_callTy (k_setZ rfl) rfl b_set boot_set' (pa_cons (pn 0) pa_nil)) pa_nil)) pa_nil)))),
    (run_ok (N:=["word"]) (ds_ret (n:=0) [0] (de_mt rm_join (dz de_str) (da_cons (de_frz (de_sos (de_v 0))) da_nil))) h)⟩
theorem ok_letters_changed (D:Def K mg "letters_changed" s_letters_changed) (h_letters_of:Has P w K mg base "letters_of" 1 ["word"] (sp0 K mg 0 m_letters_of)):Has P w K mg base "letters_changed" 2 ["one","form","other"] (sp0 K mg 0 m_letters_changed):=by
  letI:Kc:=⟨K⟩
  refine D.ok S_letters_changed (fun _ _ _ _ _ _=>uw3 fun _ _ _=>rfl) (fun vs H Q E h=>spM_len h) (fun f cdv A outer s H vs Q E hr h=>?_)
  have hu:=hr.units
  exact ⟨_,(pss_one (ps_ret (pe_bm PySem.F.plainAttrs_str PySem.F.slot_str_join PySem.F.type_str_join mt_joinM pe_str (pa_cons (pe_comp rfl (cn ["0","form","other","letter"] 1 (by kernel_rfl)) (pi_all (K:=K) (pe_fn h_letters_of (by decide) hr rfl (pa_cons (pn 0) pa_nil))) (fun _ _ _ _=>(pg_name (i:=3) (by show List.Nodup (["0","form","other","letter"]:List Str); decide +kernel) rfl (by first | exact Or.inl rfl | exact Or.inr rfl))) (fun _ _ _ _=>pts_nil) (fun _ _ _ _=>(pe_ix (u_ixK (K:=K)) (pn 2) (pe_bm PySem.F.plainAttrs_str PySem.F.slot_str_find PySem.F.type_str_find mt_findM (pn 1) (pa_cons (pn 3) pa_nil)) (fun _ _=>rfl)))) pa_nil)))),
    (run_ok (N:=["one","form","other"]) (ds_ret (n:=0) [2,0,1] (de_mt rm_join (dz de_str) (da_cons (de_frz (de_comp (n:=0) (di_all (de_call (da_cons (de_v 0) da_nil))) (tg_name 3) dt_yes (de_op ro_ix (de_v 2) (dz (de_mt rm_find (de_v 1) (da_cons (de_v 3) da_nil)))))) da_nil))) h)⟩
theorem ok_compared (D:Def K mg "compared" s_compared) (h_form_of:Has P w K mg base "form_of" 2 ["word","shift","mirrored"] (sp0 K mg 0 m_form_of)) (h_least_writing:Has P w K mg base "least_writing" 3 ["word"] (sp0 K mg 0 m_least_writing)) (h_letters_changed:Has P w K mg base "letters_changed" 2 ["one","form","other"] (sp0 K mg 0 m_letters_changed)) (h_written:Has P w K mg base "written" 2 ["word"] (sp0 K mg 0 m_written)) (b_len:mg "len" = none) (b_range:mg "range" = none):Has P w K mg base "compared" 4 ["one","other"] (sp0 K mg 1 m_compared):=by
  letI:Kc:=⟨K⟩
  refine D.ok S_compared (fun _ _ _ _ _ _=>uw2 fun _ _=>rfl) (fun vs H Q E h=>spM_len h) (fun f cdv A outer s H vs Q E hr h=>?_)
  have hu:=hr.units
  exact ⟨_,(pss_cons (ps_forK PassesOwn.never rfl (pi_range1 rfl b_range (pa_cons (pe_callB (k_lenK (K:=K)) rfl b_len boot_len (pa_cons (pn 0) pa_nil)) pa_nil)) (pg_name (i:=2) S_compared.nd rfl (by first | exact Or.inl rfl | exact Or.inr rfl)) (pss_one (ps_forK PassesOwn.never rfl (pi_all (K:=K) (pe_tup (pa_cons pe_bl (pa_cons pe_bl pa_nil)))) (pg_name (i:=3) S_compared.nd rfl (by first | exact Or.inl rfl | exact Or.inr rfl)) (pss_cons (ps_set (i:=4) S_compared.nd rfl (by first | exact Or.inl rfl | exact Or.inr rfl) (pe_fn h_form_of (by decide) hr rfl (pa_cons (pn 0) (pa_cons (pn 2) (pa_cons (pn 3) pa_nil)))))
      (pss_one (ps_if (pt_cm (u_eq hu) (pe_fn h_written (by decide) hr rfl (pa_cons (pn 4) pa_nil)) (pe_fn h_written (by decide) hr rfl (pa_cons (pn 1) pa_nil)) (nomark _)) (pss_one (ps_ret (pe_tup (pa_cons pe_str (pa_cons (pn 2) (pa_cons (pn 3) (pa_cons (pe_fn h_letters_changed (by decide) hr rfl (pa_cons (pn 0) (pa_cons (pn 4) (pa_cons (pn 1) pa_nil)))) pa_nil))))))) pss_nil))))))
      (pss_one (ps_ret (pe_tup (pa_cons pe_str (pa_cons (pe_fn h_least_writing (by decide) hr rfl (pa_cons (pn 0) pa_nil)) (pa_cons (pe_fn h_least_writing (by decide) hr rfl (pa_cons (pn 1) pa_nil)) pa_nil))))))),
    (run_ok (N:=["one","other","shift","mirrored","form"]) (ds_seq (ds_forR (di_r1 (da_cons (de_bi cb_len (da_cons (de_v 0) da_nil)) da_nil)) (ds_for [] (di_all (de_tup (n:=0) (da_cons de_bl (da_cons de_bl da_nil)))) (tg_name 3) (ds_seq (ds_set (n:=0) [0,2,3] (de_call (da_cons (de_v 0) (da_cons (de_v 2) (da_cons (de_v 3) da_nil)))))
      (ds_if (dt_b (dz (de_op ro_eq (de_call (da_cons (de_v 4) da_nil)) (de_call (da_cons (de_v 1) da_nil))))) (ds_ret (n:=1) [2,3,0,4,1] (de_tup (n:=0) (da_cons de_str (da_cons (de_v 2) (da_cons (de_v 3) (da_cons (de_call (da_cons (de_v 0) (da_cons (de_v 4) (da_cons (de_v 1) da_nil)))) da_nil)))))) ds_nil))))
      (ds_ret (n:=1) [0,1] (de_tup (n:=0) (da_cons de_str (da_cons (de_call (da_cons (de_v 0) da_nil)) (da_cons (de_call (da_cons (de_v 1) da_nil)) da_nil)))))) h)⟩
theorem ok_law {f:Addr} {fd:FuncData} (F:Fun K "law" "law" s_law f fd) (h__law_led:Has P w K mg base "_law_led" 2 ["_law_one","_law_found"] (sp0 K mg 0 m__law_led)) (h__law_one_for_one:Has P w K mg base "_law_one_for_one" 1 ["_law_word_here","_law_least"] (sp0 K mg 0 m__law_one_for_one)) (h__law_words:Has P w K mg base "_law_words" 3 ["_law_script"] (sp0 K mg 1 m__law_words)) (h_compared:Has P w K mg base "compared" 4 ["one","other"] (sp0 K mg 1 m_compared)) (h_least_writing:Has P w K mg base "least_writing" 3 ["word"] (sp0 K mg 0 m_least_writing)) (b_isinstance:mg "isinstance" = none) (b_str:mg "str" = none):FnOk P w K mg base CX0 5 f fd ["_law_script"] (spLawW K):=by
  letI:Kc:=⟨K⟩
  refine (F.ok S_law (sp:=sp0 K mg 0 m_law_Q82) (fun vs H Q E h=>spM_len h) (fun cdv A outer s H vs Q E hr h=>?_)).imp (law_impW law_true)
  have hu:=hr.units
  exact ⟨_,(pss_cons (ps_set (i:=1) S_law.nd rfl (by first | exact Or.inl rfl | exact Or.inr rfl) (pe_fn h__law_words (by decide) hr rfl (pa_cons (pn 0) pa_nil)))
      (pss_cons (ps_set (i:=2) S_law.nd rfl (by first | exact Or.inl rfl | exact Or.inr rfl) (pe_fn h_least_writing (by decide) hr rfl (pa_cons (pe_ix (u_ixK (K:=K)) (pn 1) pe_int (fun _ _=>rfl)) pa_nil)))
      (pss_cons (ps_if (pt_w (pw_or (pt_not (pt_m (pe_callB k_isinstance rfl b_isinstance boot_isinstance (pa_cons (pn 2) (pa_cons (pe_bltn (v:=.ty "str") rfl b_str boot_str rfl) pa_nil))))) (pw_or1 (pt_not (pt_m (pe_fn h__law_one_for_one (by decide) hr rfl (pa_cons (pe_ix (u_ixK (K:=K)) (pn 1) pe_int (fun _ _=>rfl)) (pa_cons (pn 2) pa_nil)))))))) (pss_one (ps_ret pe_bl)) pss_nil)
      (pss_cons (ps_forK PassesOwn.never rfl (pi_all (K:=K) (pn 1)) (pg_name (i:=3) S_law.nd rfl (by first | exact Or.inl rfl | exact Or.inr rfl)) (pss_cons (ps_if (pt_cm (u_ne hu) (pe_fn h_least_writing (by decide) hr rfl (pa_cons (pn 3) pa_nil)) (pn 2) (nomark _)) (pss_one (ps_ret pe_bl)) pss_nil)
      (pss_one (ps_forK PassesOwn.never rfl (pi_all (K:=K) (pn 1)) (pg_name (i:=4) S_law.nd rfl (by first | exact Or.inl rfl | exact Or.inr rfl)) (pss_one (ps_if (pt_cm (u_ne hu) (pe_fn h__law_led (by decide) hr rfl (pa_cons (pn 3) (pa_cons (pe_fn h_compared (by decide) hr rfl (pa_cons (pn 3) (pa_cons (pn 4) pa_nil))) pa_nil))) (pn 4) (nomark _)) (pss_one (ps_ret pe_bl)) pss_nil))))))
      (pss_one (ps_ret pe_bl)))))),
    run_ok (N:=["_law_script","_law_words_here","_law_least","_law_one","_law_other"]) (ds_seq (ds_set (n:=1) [0] (de_call (da_cons (de_v 0) da_nil)))
      (ds_seq (ds_set (n:=0) [1] (de_call (da_cons (de_op ro_ix (de_v 1) (dz de_int)) da_nil)))
      (ds_seq (ds_if (dt_or (dt_not (dt_m (dz (de_isi (by decide) (de_v 2))))) (dt_not (dt_m (de_call (da_cons (de_op ro_ix (de_v 1) (dz de_int)) (da_cons (de_v 2) da_nil)))))) (ds_ret (n:=0) [] de_bl) ds_nil)
      (ds_seq (ds_for [1] (di_all (de_v 1)) (tg_name 3) (ds_seq (ds_if (dt_b (dz (de_op ro_ne (de_call (da_cons (de_v 3) da_nil)) (de_v 2)))) (ds_ret (n:=0) [] de_bl) ds_nil)
      (ds_for [1] (di_all (de_v 1)) (tg_name 4) (ds_if (dt_b (dz (de_op ro_ne (de_call (da_cons (de_v 3) (da_cons (de_frz (de_call (da_cons (de_v 3) (da_cons (de_v 4) da_nil)))) da_nil))) (de_v 4)))) (ds_ret (n:=0) [] de_bl) ds_nil))))
      (ds_ret (n:=0) [] de_bl))))) h⟩
end
theorem all_mk {l:PySem.W.OpenLaw} {w:World} {K:PySem.W.Frag} {h:Heap} {mg:Str → Option Value} {fa f0 f1 f2 f3 f4 f5 f6 f7 f8 f9 f10 f11 f12 f13 f14 f15 f16 f17 f18 f19 f20:Addr} (X:K.In h) (G:h.Ns mainGlobals mg) (hfa:mg "law" = some (.ref fa))
    {od0 an0 od1 an1 od2 an2 od3 an3 od4 an4 od5 an5 od6 an6 od7 an7 od8 an8 od9 an9 od10 an10 od11 an11 od12 an12 od13 an13 od14 an14 od15 an15 od16 an16 od17 an17 od18 an18 od19 an19 od20 an20:Option Addr} {sl0 sl1 sl2 sl3 sl4 sl5 sl6 sl7 sl8 sl9 sl10 sl11 sl12 sl13 sl14 sl15 sl16 sl17 sl18 sl19 sl20:Array (Option Value)} {oc0 kV0 dc0 pm0 cd0 ct0 oc1 kV1 dc1 pm1 cd1 ct1 oc2 kV2 dc2 pm2 cd2 ct2 oc3 kV3 dc3 pm3 cd3 ct3 oc4 kV4 dc4 pm4 cd4 ct4 oc5 kV5 dc5 pm5 cd5 ct5 oc6 kV6 dc6 pm6 cd6 ct6 oc7 kV7 dc7 pm7 cd7 ct7 oc8 kV8 dc8 pm8 cd8 ct8 oc9 kV9 dc9 pm9 cd9 ct9 oc10 kV10 dc10 pm10 cd10 ct10 oc11 kV11 dc11 pm11 cd11 ct11 oc12 kV12 dc12 pm12 cd12 ct12 oc13 kV13 dc13 pm13 cd13 ct13 oc14 kV14 dc14 pm14 cd14 ct14 oc15 kV15 dc15 pm15 cd15 ct15 oc16 kV16 dc16 pm16 cd16 ct16 oc17 kV17 dc17 pm17 cd17 ct17 oc18 kV18 dc18 pm18 cd18 ct18 oc19 kV19 dc19 pm19 cd19 ct19 oc20 kV20 dc20 pm20 cd20 ct20:Value} {t0:Tok}
    (a0:PySem.W.nsIn K mainGlobals "_law_whole" = some (some (.ref f0)))
    (l0:K.lookup f0 = some ⟨oc0,od0,.func (PySem.W.fnOf "_law_whole" "_law_whole" (defArgs s__law_whole) (defBody s__law_whole) (defScope s__law_whole) .none kV0 dc0 pm0 an0 cd0 ct0),sl0⟩)
    (c0:PySem.W.codeIn K cd0 "_law_whole" = true)
    (k0:PySem.W.keepIn K (.ref f0) = true)
    (a1:PySem.W.nsIn K mainGlobals "_law_led" = some (some (.ref f1)))
    (l1:K.lookup f1 = some ⟨oc1,od1,.func (PySem.W.fnOf "_law_led" "_law_led" (defArgs s__law_led) (defBody s__law_led) (defScope s__law_led) .none kV1 dc1 pm1 an1 cd1 ct1),sl1⟩)
    (c1:PySem.W.codeIn K cd1 "_law_led" = true)
    (k1:PySem.W.keepIn K (.ref f1) = true)
    (a2:PySem.W.nsIn K mainGlobals "_law_one_for_one" = some (some (.ref f2)))
    (l2:K.lookup f2 = some ⟨oc2,od2,.func (PySem.W.fnOf "_law_one_for_one" "_law_one_for_one" (defArgs s__law_one_for_one) (defBody s__law_one_for_one) (defScope s__law_one_for_one) .none kV2 dc2 pm2 an2 cd2 ct2),sl2⟩)
    (c2:PySem.W.codeIn K cd2 "_law_one_for_one" = true)
    (k2:PySem.W.keepIn K (.ref f2) = true)
    (a3:PySem.W.nsIn K mainGlobals "_law_cell" = some (some (.ref f3)))
    (l3:K.lookup f3 = some ⟨oc3,od3,.func (PySem.W.fnOf "_law_cell" "_law_cell" (defArgs s__law_cell) (defBody s__law_cell) (defScope s__law_cell) .none kV3 dc3 pm3 an3 cd3 ct3),sl3⟩)
    (c3:PySem.W.codeIn K cd3 "_law_cell" = true)
    (k3:PySem.W.keepIn K (.ref f3) = true)
    (a4:PySem.W.nsIn K mainGlobals "_law_shuffled" = some (some (.ref f4)))
    (l4:K.lookup f4 = some ⟨oc4,od4,.func (PySem.W.fnOf "_law_shuffled" "_law_shuffled" (defArgs s__law_shuffled) (defBody s__law_shuffled) (defScope s__law_shuffled) .none kV4 dc4 pm4 an4 cd4 ct4),sl4⟩)
    (c4:PySem.W.codeIn K cd4 "_law_shuffled" = true)
    (k4:PySem.W.keepIn K (.ref f4) = true)
    (a5:PySem.W.nsIn K mainGlobals "_law_moved" = some (some (.ref f5)))
    (l5:K.lookup f5 = some ⟨oc5,od5,.func (PySem.W.fnOf "_law_moved" "_law_moved" (defArgs s__law_moved) (defBody s__law_moved) (defScope s__law_moved) .none kV5 dc5 pm5 an5 cd5 ct5),sl5⟩)
    (c5:PySem.W.codeIn K cd5 "_law_moved" = true)
    (k5:PySem.W.keepIn K (.ref f5) = true)
    (a6:PySem.W.nsIn K mainGlobals "_law_moved_by" = some (some (.ref f6)))
    (l6:K.lookup f6 = some ⟨oc6,od6,.func (PySem.W.fnOf "_law_moved_by" "_law_moved_by" (defArgs s__law_moved_by) (defBody s__law_moved_by) (defScope s__law_moved_by) .none kV6 dc6 pm6 an6 cd6 ct6),sl6⟩)
    (c6:PySem.W.codeIn K cd6 "_law_moved_by" = true)
    (k6:PySem.W.keepIn K (.ref f6) = true)
    (a7:PySem.W.nsIn K mainGlobals "_law_raw" = some (some (.ref f7)))
    (l7:K.lookup f7 = some ⟨oc7,od7,.func (PySem.W.fnOf "_law_raw" "_law_raw" (defArgs s__law_raw) (defBody s__law_raw) (defScope s__law_raw) .none kV7 dc7 pm7 an7 cd7 ct7),sl7⟩)
    (c7:PySem.W.codeIn K cd7 "_law_raw" = true)
    (k7:PySem.W.keepIn K (.ref f7) = true)
    (a8:PySem.W.nsIn K mainGlobals "_law_word" = some (some (.ref f8)))
    (l8:K.lookup f8 = some ⟨oc8,od8,.func (PySem.W.fnOf "_law_word" "_law_word" (defArgs s__law_word) (defBody s__law_word) (defScope s__law_word) .none kV8 dc8 pm8 an8 cd8 ct8),sl8⟩)
    (c8:PySem.W.codeIn K cd8 "_law_word" = true)
    (k8:PySem.W.keepIn K (.ref f8) = true)
    (a9:PySem.W.nsIn K mainGlobals "_law_ordered" = some (some (.ref f9)))
    (l9:K.lookup f9 = some ⟨oc9,od9,.func (PySem.W.fnOf "_law_ordered" "_law_ordered" (defArgs s__law_ordered) (defBody s__law_ordered) (defScope s__law_ordered) .none kV9 dc9 pm9 an9 cd9 ct9),sl9⟩)
    (c9:PySem.W.codeIn K cd9 "_law_ordered" = true)
    (k9:PySem.W.keepIn K (.ref f9) = true)
    (a10:PySem.W.nsIn K mainGlobals "_law_word_of" = some (some (.ref f10)))
    (l10:K.lookup f10 = some ⟨oc10,od10,.func (PySem.W.fnOf "_law_word_of" "_law_word_of" (defArgs s__law_word_of) (defBody s__law_word_of) (defScope s__law_word_of) .none kV10 dc10 pm10 an10 cd10 ct10),sl10⟩)
    (c10:PySem.W.codeIn K cd10 "_law_word_of" = true)
    (k10:PySem.W.keepIn K (.ref f10) = true)
    (a11:PySem.W.nsIn K mainGlobals "_law_words" = some (some (.ref f11)))
    (l11:K.lookup f11 = some ⟨oc11,od11,.func (PySem.W.fnOf "_law_words" "_law_words" (defArgs s__law_words) (defBody s__law_words) (defScope s__law_words) .none kV11 dc11 pm11 an11 cd11 ct11),sl11⟩)
    (c11:PySem.W.codeIn K cd11 "_law_words" = true)
    (k11:PySem.W.keepIn K (.ref f11) = true)
    (a12:PySem.W.nsIn K mainGlobals "shifted" = some (some (.ref f12)))
    (l12:K.lookup f12 = some ⟨oc12,od12,.func (PySem.W.fnOf "shifted" "shifted" (defArgs s_shifted) (defBody s_shifted) (defScope s_shifted) .none kV12 dc12 pm12 an12 cd12 ct12),sl12⟩)
    (c12:PySem.W.codeIn K cd12 "shifted" = true)
    (k12:PySem.W.keepIn K (.ref f12) = true)
    (a13:PySem.W.nsIn K mainGlobals "form_of" = some (some (.ref f13)))
    (l13:K.lookup f13 = some ⟨oc13,od13,.func (PySem.W.fnOf "form_of" "form_of" (defArgs s_form_of) (defBody s_form_of) (defScope s_form_of) .none kV13 dc13 pm13 an13 cd13 ct13),sl13⟩)
    (c13:PySem.W.codeIn K cd13 "form_of" = true)
    (k13:PySem.W.keepIn K (.ref f13) = true)
    (a14:PySem.W.nsIn K mainGlobals "place_order" = some (some (.ref f14)))
    (l14:K.lookup f14 = some ⟨oc14,od14,.func (PySem.W.fnOf "place_order" "place_order" (defArgs s_place_order) (defBody s_place_order) (defScope s_place_order) .none kV14 dc14 pm14 an14 cd14 ct14),sl14⟩)
    (c14:PySem.W.codeIn K cd14 "place_order" = true)
    (k14:PySem.W.keepIn K (.ref f14) = true)
    (a15:PySem.W.nsIn K mainGlobals "written" = some (some (.ref f15)))
    (l15:K.lookup f15 = some ⟨oc15,od15,.func (PySem.W.fnOf "written" "written" (defArgs s_written) (defBody s_written) (defScope s_written) .none kV15 dc15 pm15 an15 cd15 ct15),sl15⟩)
    (c15:PySem.W.codeIn K cd15 "written" = true)
    (k15:PySem.W.keepIn K (.ref f15) = true)
    (a16:PySem.W.nsIn K mainGlobals "least_writing" = some (some (.ref f16)))
    (l16:K.lookup f16 = some ⟨oc16,od16,.func (PySem.W.fnOf "least_writing" "least_writing" (defArgs s_least_writing) (defBody s_least_writing) (defScope s_least_writing) .none kV16 dc16 pm16 an16 cd16 ct16),sl16⟩)
    (c16:PySem.W.codeIn K cd16 "least_writing" = true)
    (k16:PySem.W.keepIn K (.ref f16) = true)
    (a17:PySem.W.nsIn K mainGlobals "letters_of" = some (some (.ref f17)))
    (l17:K.lookup f17 = some ⟨oc17,od17,.func (PySem.W.fnOf "letters_of" "letters_of" (defArgs s_letters_of) (defBody s_letters_of) (defScope s_letters_of) .none kV17 dc17 pm17 an17 cd17 ct17),sl17⟩)
    (c17:PySem.W.codeIn K cd17 "letters_of" = true)
    (k17:PySem.W.keepIn K (.ref f17) = true)
    (a18:PySem.W.nsIn K mainGlobals "letters_changed" = some (some (.ref f18)))
    (l18:K.lookup f18 = some ⟨oc18,od18,.func (PySem.W.fnOf "letters_changed" "letters_changed" (defArgs s_letters_changed) (defBody s_letters_changed) (defScope s_letters_changed) .none kV18 dc18 pm18 an18 cd18 ct18),sl18⟩)
    (c18:PySem.W.codeIn K cd18 "letters_changed" = true)
    (k18:PySem.W.keepIn K (.ref f18) = true)
    (a19:PySem.W.nsIn K mainGlobals "compared" = some (some (.ref f19)))
    (l19:K.lookup f19 = some ⟨oc19,od19,.func (PySem.W.fnOf "compared" "compared" (defArgs s_compared) (defBody s_compared) (defScope s_compared) .none kV19 dc19 pm19 an19 cd19 ct19),sl19⟩)
    (c19:PySem.W.codeIn K cd19 "compared" = true)
    (k19:PySem.W.keepIn K (.ref f19) = true)
    (a20:PySem.W.nsIn K mainGlobals "law" = some (some (.ref f20)))
    (l20:K.lookup f20 = some ⟨oc20,od20,.func (PySem.W.fnOf "law" "law" (defArgs s_law) (defBody s_law) (defScope s_law) .none kV20 dc20 pm20 an20 cd20 ct20),sl20⟩)
    (c20:PySem.W.codeIn K cd20 "law" = true)
    (k20:PySem.W.keepIn K (.ref f20) = true)
    (z0:PySem.W.nsIn K mainGlobals "bool" = some none)
    (z1:PySem.W.nsIn K mainGlobals "enumerate" = some none)
    (z2:PySem.W.nsIn K mainGlobals "int" = some none)
    (z3:PySem.W.nsIn K mainGlobals "isinstance" = some none)
    (z4:PySem.W.nsIn K mainGlobals "len" = some none)
    (z5:PySem.W.nsIn K mainGlobals "list" = some none)
    (z6:PySem.W.nsIn K mainGlobals "min" = some none)
    (z7:PySem.W.nsIn K mainGlobals "range" = some none)
    (z8:PySem.W.nsIn K mainGlobals "reversed" = some none)
    (z9:PySem.W.nsIn K mainGlobals "set" = some none)
    (z10:PySem.W.nsIn K mainGlobals "sorted" = some none)
    (z11:PySem.W.nsIn K mainGlobals "str" = some none)
    (z12:PySem.W.nsIn K mainGlobals "tuple" = some none)
    (z13:PySem.W.nsIn K mainGlobals "zip" = some none)
    (y0:PySem.W.nsIn K mainGlobals "SMALL_LETTERS" = some (some (.str "abcdefghijklmnopqrstuvwxyz" t0)))
   :∃ fd:FuncData,(∀ (s:Shared) (v:Value),BindsTo s fd ⟨[v],[]⟩ [("_law_script",v)]) ∧ ∀ base:Heap,K.In base → base.Ns mainGlobals mg → FnOk l.prog w K mg base CX0 5 fa fd ["_law_script"] (spLawW K):=by
  have e:=hfa.symm.trans (PySem.W.mg_of X G a20)
  cases e
  have D0:Def K mg "_law_whole" s__law_whole:=⟨f0,_,fun_mk (st:=s__law_whole) l0 c0 k0,PySem.W.mg_of X G a0⟩
  have D1:Def K mg "_law_led" s__law_led:=⟨f1,_,fun_mk (st:=s__law_led) l1 c1 k1,PySem.W.mg_of X G a1⟩
  have D2:Def K mg "_law_one_for_one" s__law_one_for_one:=⟨f2,_,fun_mk (st:=s__law_one_for_one) l2 c2 k2,PySem.W.mg_of X G a2⟩
  have D3:Def K mg "_law_cell" s__law_cell:=⟨f3,_,fun_mk (st:=s__law_cell) l3 c3 k3,PySem.W.mg_of X G a3⟩
  have D4:Def K mg "_law_shuffled" s__law_shuffled:=⟨f4,_,fun_mk (st:=s__law_shuffled) l4 c4 k4,PySem.W.mg_of X G a4⟩
  have D5:Def K mg "_law_moved" s__law_moved:=⟨f5,_,fun_mk (st:=s__law_moved) l5 c5 k5,PySem.W.mg_of X G a5⟩
  have D6:Def K mg "_law_moved_by" s__law_moved_by:=⟨f6,_,fun_mk (st:=s__law_moved_by) l6 c6 k6,PySem.W.mg_of X G a6⟩
  have D7:Def K mg "_law_raw" s__law_raw:=⟨f7,_,fun_mk (st:=s__law_raw) l7 c7 k7,PySem.W.mg_of X G a7⟩
  have D8:Def K mg "_law_word" s__law_word:=⟨f8,_,fun_mk (st:=s__law_word) l8 c8 k8,PySem.W.mg_of X G a8⟩
  have D9:Def K mg "_law_ordered" s__law_ordered:=⟨f9,_,fun_mk (st:=s__law_ordered) l9 c9 k9,PySem.W.mg_of X G a9⟩
  have D10:Def K mg "_law_word_of" s__law_word_of:=⟨f10,_,fun_mk (st:=s__law_word_of) l10 c10 k10,PySem.W.mg_of X G a10⟩
  have D11:Def K mg "_law_words" s__law_words:=⟨f11,_,fun_mk (st:=s__law_words) l11 c11 k11,PySem.W.mg_of X G a11⟩
  have D12:Def K mg "shifted" s_shifted:=⟨f12,_,fun_mk (st:=s_shifted) l12 c12 k12,PySem.W.mg_of X G a12⟩
  have D13:Def K mg "form_of" s_form_of:=⟨f13,_,fun_mk (st:=s_form_of) l13 c13 k13,PySem.W.mg_of X G a13⟩
  have D14:Def K mg "place_order" s_place_order:=⟨f14,_,fun_mk (st:=s_place_order) l14 c14 k14,PySem.W.mg_of X G a14⟩
  have D15:Def K mg "written" s_written:=⟨f15,_,fun_mk (st:=s_written) l15 c15 k15,PySem.W.mg_of X G a15⟩
  have D16:Def K mg "least_writing" s_least_writing:=⟨f16,_,fun_mk (st:=s_least_writing) l16 c16 k16,PySem.W.mg_of X G a16⟩
  have D17:Def K mg "letters_of" s_letters_of:=⟨f17,_,fun_mk (st:=s_letters_of) l17 c17 k17,PySem.W.mg_of X G a17⟩
  have D18:Def K mg "letters_changed" s_letters_changed:=⟨f18,_,fun_mk (st:=s_letters_changed) l18 c18 k18,PySem.W.mg_of X G a18⟩
  have D19:Def K mg "compared" s_compared:=⟨f19,_,fun_mk (st:=s_compared) l19 c19 k19,PySem.W.mg_of X G a19⟩
  have b_bool:=PySem.W.mg_none_of X G z0
  have b_enumerate:=PySem.W.mg_none_of X G z1
  have b_int:=PySem.W.mg_none_of X G z2
  have b_isinstance:=PySem.W.mg_none_of X G z3
  have b_len:=PySem.W.mg_none_of X G z4
  have b_list:=PySem.W.mg_none_of X G z5
  have b_min:=PySem.W.mg_none_of X G z6
  have b_range:=PySem.W.mg_none_of X G z7
  have b_reversed:=PySem.W.mg_none_of X G z8
  have b_set:=PySem.W.mg_none_of X G z9
  have b_sorted:=PySem.W.mg_none_of X G z10
  have b_str:=PySem.W.mg_none_of X G z11
  have b_tuple:=PySem.W.mg_none_of X G z12
  have b_zip:=PySem.W.mg_none_of X G z13
  have c_SMALL_LETTERS:RelV (V.str "abcdefghijklmnopqrstuvwxyz") (.str "abcdefghijklmnopqrstuvwxyz" t0) ∧ mg "SMALL_LETTERS" = some (.str "abcdefghijklmnopqrstuvwxyz" t0):=⟨⟨_,rfl⟩,PySem.W.mg_of X G y0⟩
  refine ⟨PySem.W.fnOf "law" "law" (defArgs s_law) (defBody s_law) (defScope s_law) .none kV20 dc20 pm20 an20 cd20 ct20,fun s v=>.of_eq rfl,fun base _ _=>?_⟩
  have h__law_whole:=ok__law_whole (P:=l.prog) (w:=w) (base:=base) D0 b_bool b_int b_isinstance
  have h__law_led:=ok__law_led (P:=l.prog) (w:=w) (base:=base) D1 h__law_whole b_bool b_isinstance b_len b_reversed b_set b_sorted b_str b_tuple
  have h__law_one_for_one:=ok__law_one_for_one (P:=l.prog) (w:=w) (base:=base) D2 b_len b_range b_reversed b_set b_zip
  have h__law_cell:=ok__law_cell (P:=l.prog) (w:=w) (base:=base) D3 b_len
  have h__law_shuffled:=ok__law_shuffled (P:=l.prog) (w:=w) (base:=base) D4 b_len b_list
  have h__law_moved:=ok__law_moved (P:=l.prog) (w:=w) (base:=base) D5 h__law_shuffled b_len b_list b_reversed b_set b_sorted
  have h__law_moved_by:=ok__law_moved_by (P:=l.prog) (w:=w) (base:=base) D6 b_len b_list b_reversed b_set b_sorted
  have h__law_raw:=ok__law_raw (P:=l.prog) (w:=w) (base:=base) D7 b_len
  have h__law_word:=ok__law_word (P:=l.prog) (w:=w) (base:=base) D8 h__law_cell h__law_shuffled b_list
  have h__law_ordered:=ok__law_ordered (P:=l.prog) (w:=w) (base:=base) D9 b_len b_list
  have h__law_word_of:=ok__law_word_of (P:=l.prog) (w:=w) (base:=base) D10 h__law_ordered b_len b_list b_range
  have h__law_words:=ok__law_words (P:=l.prog) (w:=w) (base:=base) D11 h__law_cell h__law_moved h__law_moved_by h__law_raw h__law_word h__law_word_of b_range
  have h_shifted:=ok_shifted (P:=l.prog) (w:=w) (base:=base) D12 b_len
  have h_form_of:=ok_form_of (P:=l.prog) (w:=w) (base:=base) D13 h_shifted
  have h_place_order:=ok_place_order (P:=l.prog) (w:=w) (base:=base) D14 b_enumerate
  have h_written:=ok_written (P:=l.prog) (w:=w) (base:=base) D15 h_place_order c_SMALL_LETTERS
  have h_least_writing:=ok_least_writing (P:=l.prog) (w:=w) (base:=base) D16 h_form_of h_written b_len b_min b_range
  have h_letters_of:=ok_letters_of (P:=l.prog) (w:=w) (base:=base) D17 b_set b_sorted
  have h_letters_changed:=ok_letters_changed (P:=l.prog) (w:=w) (base:=base) D18 h_letters_of
  have h_compared:=ok_compared (P:=l.prog) (w:=w) (base:=base) D19 h_form_of h_least_writing h_letters_changed h_written b_len b_range
  exact ok_law (fun_mk (st:=s_law) l20 c20 k20) h__law_led h__law_one_for_one h__law_words h_compared h_least_writing b_isinstance b_str
theorem walk {l:PySem.W.OpenLaw} {q:Program} {loose:List Str} {XP:(Str → Option Value) → Heap → Prop} {YP:World → Heap → Prop} {d:DefRec} {K:Params → PySem.W.Frag} (hn:l.most = some 63) (hdf:d.params.defaults = [])
    (hY:∀ (w:World) (h:Heap),YP w h → (K w.params).In h)
    (F:∀ (w:World) (mg:Str → Option Value) (fa:Addr) (h:Heap),(K w.params).In h → h.Ns mainGlobals mg → mg d.name = some (.ref fa) →
      ∃ fd:FuncData,(∀ (s:Shared) (u:Value),BindsTo s fd ⟨[u],[]⟩ [("_law_script",u)]) ∧ ∀ base:Heap,(K w.params).In base → base.Ns mainGlobals mg → FnOk l.prog w (K w.params) mg base CX0 5 fa fd ["_law_script"] (spLawW (K w.params))) :
    PySem.W.WalkO q loose XP YP l.row.toRowW d [] (fun f vs=>PySem.call f vs) :=
  L2.walk_ofW (n:=63) (k:=5) (x:="_law_script") (CX:=fun _=>CX0) (sp:=fun w=>spLawW (K w.params)) hn (by decide) hdf ⟨rfl,by decide,by decide⟩ hY F (fun _ _ a ns hl hw _ hS=>⟨a,ns,rfl,hS,hl,hw,fun _=>rfl⟩) fun _ _ _ _ _ z=>z
end Q82
open PySem PySem.W PyProof.Rows
set_option maxRecDepth 100000 in
set_option maxHeartbeats 0 in
theorem PySem.Challenge.cw_fourway_k82_whole_same_however_written_holds : PySem.Challenge.rw_fourway_k82_whole_same_however_written.Holds := by
  w_on; o_law; k_head; (case hw=>w_witness2)
  k_fill
  refine Q82.walk (l:=PySem.Challenge.rw_fourway_k82_whole_same_however_written) rfl rfl (fun w h Y=>PySem.W.kIn_of Y) ?F
  case F =>
    intro w mg fa h KX G hmg
    refine' Q82.all_mk KX G hmg ?a0 ?l0 ?c0 ?k0 ?a1 ?l1 ?c1 ?k1 ?a2 ?l2 ?c2 ?k2 ?a3 ?l3 ?c3 ?k3 ?a4 ?l4 ?c4 ?k4 ?a5 ?l5 ?c5 ?k5 ?a6 ?l6 ?c6 ?k6 ?a7 ?l7 ?c7 ?k7 ?a8 ?l8 ?c8 ?k8 ?a9 ?l9 ?c9 ?k9 ?a10 ?l10 ?c10 ?k10 ?a11 ?l11 ?c11 ?k11 ?a12 ?l12 ?c12 ?k12 ?a13 ?l13 ?c13 ?k13 ?a14 ?l14 ?c14 ?k14 ?a15 ?l15 ?c15 ?k15 ?a16 ?l16 ?c16 ?k16 ?a17 ?l17 ?c17 ?k17 ?a18 ?l18 ?c18 ?k18 ?a19 ?l19 ?c19 ?k19 ?a20 ?l20 ?c20 ?k20 ?z0 ?z1 ?z2 ?z3 ?z4 ?z5 ?z6 ?z7 ?z8 ?z9 ?z10 ?z11 ?z12 ?z13 ?y0
    (case a0=>k_is)
    (case l0=>k_is)
    (case c0=>k_is)
    (case k0=>k_is)
    (case a1=>k_is)
    (case l1=>k_is)
    (case c1=>k_is)
    (case k1=>k_is)
    (case a2=>k_is)
    (case l2=>k_is)
    (case c2=>k_is)
    (case k2=>k_is)
    (case a3=>k_is)
    (case l3=>k_is)
    (case c3=>k_is)
    (case k3=>k_is)
    (case a4=>k_is)
    (case l4=>k_is)
    (case c4=>k_is)
    (case k4=>k_is)
    (case a5=>k_is)
    (case l5=>k_is)
    (case c5=>k_is)
    (case k5=>k_is)
    (case a6=>k_is)
    (case l6=>k_is)
    (case c6=>k_is)
    (case k6=>k_is)
    (case a7=>k_is)
    (case l7=>k_is)
    (case c7=>k_is)
    (case k7=>k_is)
    (case a8=>k_is)
    (case l8=>k_is)
    (case c8=>k_is)
    (case k8=>k_is)
    (case a9=>k_is)
    (case l9=>k_is)
    (case c9=>k_is)
    (case k9=>k_is)
    (case a10=>k_is)
    (case l10=>k_is)
    (case c10=>k_is)
    (case k10=>k_is)
    (case a11=>k_is)
    (case l11=>k_is)
    (case c11=>k_is)
    (case k11=>k_is)
    (case a12=>k_is)
    (case l12=>k_is)
    (case c12=>k_is)
    (case k12=>k_is)
    (case a13=>k_is)
    (case l13=>k_is)
    (case c13=>k_is)
    (case k13=>k_is)
    (case a14=>k_is)
    (case l14=>k_is)
    (case c14=>k_is)
    (case k14=>k_is)
    (case a15=>k_is)
    (case l15=>k_is)
    (case c15=>k_is)
    (case k15=>k_is)
    (case a16=>k_is)
    (case l16=>k_is)
    (case c16=>k_is)
    (case k16=>k_is)
    (case a17=>k_is)
    (case l17=>k_is)
    (case c17=>k_is)
    (case k17=>k_is)
    (case a18=>k_is)
    (case l18=>k_is)
    (case c18=>k_is)
    (case k18=>k_is)
    (case a19=>k_is)
    (case l19=>k_is)
    (case c19=>k_is)
    (case k19=>k_is)
    (case a20=>k_is)
    (case l20=>k_is)
    (case c20=>k_is)
    (case k20=>k_is)
    (case z0=>k_is)
    (case z1=>k_is)
    (case z2=>k_is)
    (case z3=>k_is)
    (case z4=>k_is)
    (case z5=>k_is)
    (case z6=>k_is)
    (case z7=>k_is)
    (case z8=>k_is)
    (case z9=>k_is)
    (case z10=>k_is)
    (case z11=>k_is)
    (case z12=>k_is)
    (case z13=>k_is)
    (case y0=>k_is)

