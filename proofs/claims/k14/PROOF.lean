import PyProof.Rows.All
import Wide.All
import OpenK.AllK
import Wide.FinOn
import Lean
import PyProof.EqAt
import PyProof.EqKinds
import PyProof.TupleCall
import PyProof.NeKinds
import PySem.Challenge.RW_fourway_k14_whole_each_end_once
set_option Elab.async false
set_option linter.all false
set_option maxRecDepth 100000
namespace L2
open PySem PySem.Spec PyProof.Rows
abbrev Key := Sum Int Str
def keyIs : Key → Value → Bool
  | .inl k, v => Value.isInt k v
  | .inr x, v => Value.isStrOf x v
def keyH (w : World) : Key → Int
  | .inl k => hashInt k
  | .inr x => hashStr w x
theorem keyIs_shape : ∀ {k : Key} {v : Value}, keyIs k v = true → (∃ i t, k = Sum.inl i ∧ v = Value.int i t) ∨ (∃ x t, k = Sum.inr x ∧ v = Value.str x t)
  | .inl i, v, h => by
    obtain ⟨t, e⟩ := Value.isInt_shape (k := i) (v := v) h
    exact .inl ⟨i, t, rfl, e⟩
  | .inr x, v, h => by
    obtain ⟨t, e⟩ := Value.isStrOf_shape (x := x) (v := v) h
    exact .inr ⟨x, t, rfl, e⟩
theorem keyIs_int (i : Int) (t : Tok) : keyIs (.inl i) (.int i t) = true := by simp [keyIs, Value.isInt]
theorem keyIs_str (x : Str) (t : Tok) : keyIs (.inr x) (.str x t) = true := by simp [keyIs, Value.isStrOf]
theorem key_ll (a b : Int) : decide ((Sum.inl a : Key) = Sum.inl b) = (a == b) := by
  by_cases e : a = b
  · subst e; simp
  · have h : ¬ (Sum.inl a : Key) = Sum.inl b := fun q => e (Sum.inl.inj q)
    rw [decide_eq_false h]
    exact (beq_eq_false_iff_ne.mpr e).symm
theorem key_rr (a b : Str) : decide ((Sum.inr a : Key) = Sum.inr b) = decide (a = b) := by
  by_cases e : a = b
  · subst e; simp
  · have h : ¬ (Sum.inr a : Key) = Sum.inr b := fun q => e (Sum.inr.inj q)
    rw [decide_eq_false h, decide_eq_false e]
theorem key_lr (a : Int) (b : Str) : decide ((Sum.inl a : Key) = Sum.inr b) = false := decide_eq_false (fun q => nomatch q)
theorem key_rl (a : Str) (b : Int) : decide ((Sum.inr a : Key) = Sum.inl b) = false := decide_eq_false (fun q => nomatch q)
def mixKind (prog : Program) (w : World) : PySem.KeyKind prog w Key where
  is := keyIs
  hash := keyH w
  inj := fun v a b ha hb => by
    rcases keyIs_shape ha with ⟨i, t, rfl, rfl⟩ | ⟨x, t, rfl, rfl⟩
    · rcases keyIs_shape hb with ⟨j, u, rfl, e⟩ | ⟨y, u, rfl, e⟩
      · injection e with e1 _; rw [e1]
      · exact nomatch e
    · rcases keyIs_shape hb with ⟨j, u, rfl, e⟩ | ⟨y, u, rfl, e⟩
      · exact nomatch e
      · injection e with e1 _; rw [e1]
  byValue := fun k v h => by
    rcases keyIs_shape h with ⟨i, t, rfl, rfl⟩ | ⟨x, t, rfl, rfl⟩ <;> rfl
  pyHash := fun hv h => by
    rcases keyIs_shape hv with ⟨i, t, rfl, rfl⟩ | ⟨x, t, rfl, rfl⟩
    · exact wpAny_pyHash_int h
    · exact wpAny_pyHash_str h
  eqBool := fun hu hv h => by
    rcases keyIs_shape hu with ⟨i, t, rfl, rfl⟩ | ⟨x, t, rfl, rfl⟩
    · rcases keyIs_shape hv with ⟨j, u, rfl, rfl⟩ | ⟨y, u, rfl, rfl⟩
      · rw [key_ll] at h; exact wpAny_eqBool_int h
      · rw [key_lr] at h; exact SeqAt.EqAt.int_str i t y u _ _ _ _ h
    · rcases keyIs_shape hv with ⟨j, u, rfl, rfl⟩ | ⟨y, u, rfl, rfl⟩
      · rw [key_rl] at h; exact SeqAt.EqAt.str_int x t j u _ _ _ _ h
      · rw [key_rr] at h; exact wpAny_eqBool_str h
  «strs» := fun k x t v h => by
    rcases keyIs_shape h with ⟨i, u, rfl, e⟩ | ⟨y, u, rfl, e⟩
    · exact nomatch e
    · injection e with e1 _
      subst e1
      cases v <;> rfl
theorem mixKind_int (prog : Program) (w : World) (i : Int) (t : Tok) : (mixKind prog w).is (.inl i) (.int i t) = true := keyIs_int i t
theorem mixKind_str (prog : Program) (w : World) (x : Str) (t : Tok) : (mixKind prog w).is (.inr x) (.str x t) = true := keyIs_str x t
end L2
namespace L2
open PySem PySem.Spec PyProof.Rows
inductive V where
  | non | bl (b : Bool) | int (i : Int) | str (x : Str) | byt (b : Array UInt8) | flt (b : UInt64) | ref (a : Addr) | ty (n : String)
  deriving DecidableEq
def RelV : V → Value → Prop
  | .non, u => u = Value.none
  | .bl b, u => u = Value.bool b
  | .int i, u => ∃ t, u = Value.int i t
  | .str x, u => ∃ t, u = Value.str x t
  | .byt b, u => ∃ t, u = Value.bytes b t
  | .flt b, u => ∃ t, u = Value.float b t
  | .ref a, u => u = Value.ref a
  | .ty n, u => u = Value.type n
abbrev Vals : List V → List Value → Prop := Paired RelV
theorem Vals.length {xs : List V} {us : List Value} (r : Vals xs us) : xs.length = us.length := Paired.length r
theorem Vals.get : ∀ {xs : List V} {us : List Value} {i : Nat} {x : V}, Vals xs us → xs[i]? = some x → ∃ u, us[i]? = some u ∧ RelV x u
  | _, _, _, _, .nil, e => by simp at e
  | _, _, 0, _, .cons r _, e => by simp at e; subst e; exact ⟨_, rfl, r⟩
  | _, _, i + 1, x, .cons _ t, e => by
    obtain ⟨u, h1, h2⟩ := Vals.get (i := i) (x := x) t (by simpa using e)
    exact ⟨u, by simpa using h1, h2⟩
theorem Vals.set {x : V} {u : Value} (r : RelV x u) : ∀ {xs : List V} {us : List Value} (i : Nat), Vals xs us → Vals (xs.set i x) (us.set i u)
  | _, _, _, .nil => .nil
  | _, _, 0, .cons _ t => .cons r t
  | _, _, i + 1, .cons q t => .cons q (Vals.set r i t)
theorem Vals.append : ∀ {xs ys : List V} {us ws : List Value}, Vals xs us → Vals ys ws → Vals (xs ++ ys) (us ++ ws)
  | _, _, _, _, .nil, s => s
  | _, _, _, _, .cons r t, s => .cons r (Vals.append t s)
theorem Vals.take : ∀ {xs : List V} {us : List Value} (n : Nat), Vals xs us → Vals (xs.take n) (us.take n)
  | _, _, 0, _ => .nil
  | _, _, _ + 1, .nil => .nil
  | _, _, n + 1, .cons r t => .cons r (Vals.take n t)
theorem Vals.drop : ∀ {xs : List V} {us : List Value} (n : Nat), Vals xs us → Vals (xs.drop n) (us.drop n)
  | _, _, 0, r => r
  | _, _, _ + 1, .nil => .nil
  | _, _, n + 1, .cons _ t => Vals.drop n t
def RelO : Option V → Option Value → Prop
  | some v, some u => RelV v u
  | none, none => True
  | _, _ => False
def KV {κ : Type} : List (κ × V) → List (κ × Value) → Prop := Paired fun (p : κ × V) (q : κ × Value) => p.1 = q.1 ∧ RelV p.2 q.2
def kV : Key → V
  | .inl i => .int i
  | .inr x => .str x
inductive HO where
  | lst (xs : List V)
  | tup (xs : List V)
  | dK (kvs : List (Key × V)) | dT (kvs : List (List Key × V))
  | set (S : Int → Bool) (n : Nat)
  | ins (C dx : Addr) (fs : List (Str × V))
  | own (x : Addr)
  | xd (fs : List (Str × V))
  | met (f x : Addr)
  | rng (lo hi : Int)
  | frz (o : Obj) (u : HO)
  | tbl (ps : Array Value)
  | ext (φ : Heap → Prop)
abbrev Hp := Addr → Option HO
def upd (H : Hp) (a : Addr) (o : HO) : Hp := fun b => if b = a then some o else H b
theorem upd_same {H : Hp} {a : Addr} {o : HO} : upd H a o a = some o := by unfold upd; rw [if_pos rfl]
theorem upd_ne {H : Hp} {a b : Addr} {o : HO} (h : b ≠ a) : upd H a o b = H b := by unfold upd; rw [if_neg h]
theorem ne_of {H : Hp} {a b : Addr} {o u : HO} (h : H a = some o) (h' : H b = some u) (d : o ≠ u) : a ≠ b := by
  intro e; subst e; rw [h] at h'; exact d (Option.some.inj h')
theorem ne_of_none {H : Hp} {a b : Addr} {o : HO} (h : H a = some o) (h' : H b = none) : a ≠ b := by
  intro e; subst e; rw [h] at h'; cases h'
section
variable (P : Program) (w : World)
def ObjOk (H : Hp) (h : Heap) (a : Addr) : HO → Prop
  | .lst xs => xs.length ≤ sizeLine ∧ ∃ (its : List Value) (n : Nat), Vals xs its ∧ h.get? a = some { cls := .type "list", data := .seq its.toArray n }
  | .tup xs => xs.length ≤ sizeLine ∧ ∃ its : List Value, Vals xs its ∧ IsTup h a its.toArray
  | .dK kvs => kvs.length ≤ sizeLine ∧ (a == sysModules) = false ∧ ∃ vs, KV kvs vs ∧ h.DictOf (mixKind P w) a vs
  | .dT kvs => kvs.length ≤ sizeLine ∧ (a == sysModules) = false ∧ ∃ xs : List (List Key × Addr × Value),
      Paired (fun (p : List Key × V) (q : List Key × Addr × Value) => p.1 = q.1 ∧ H q.2.1 = some (.tup (p.1.map kV)) ∧ RelV p.2 q.2.2) kvs xs ∧
      ∃ o es ep, h.get? a = some o ∧ o.ExactDict ∧ o.data = .dict es ep ∧ es.toList = xs.map (entryOfKey (tupleKind (mixKind P w))) ∧ (xs.map (·.1)).Nodup
  | .set S n => h.SetOf (intKind P w) a S n
  | .ins C dx fs => H dx = some (.own a) ∧ fs.length ≤ 1000 ∧ dx ≠ a ∧ h.get? a = some (PySem.W.instObj C dx) ∧
      ∃ mA, h.Ns1 dx mA ∧ (∀ f, RelO (fs.lookup f) (mA f)) ∧ PySem.Within mA (fs.map (·.1))
  | .own _ => ∃ o, h.get? a = some o
  | .xd fs => ∃ mA, h.Ns1 a mA ∧ ∀ f, RelO (fs.lookup f) (mA f)
  | .rng lo hi => ∃ t u v, h.get? a = some { cls := .type "range", data := .fields #[.int lo t, .int hi u, .int 1 v] }
  | .frz o u => h.get? a = some o ∧ ObjOk H h a u
  | .tbl ps => h.get? a = some { cls := .none, data := .fields ps }
  | .met f x => h.get? a = some (PySem.W.methodObj (.ref f) (.ref x))
  | .ext φ => φ h ∧ (∃ o, h.get? a = some o) ∧ ∀ h1 h2 : Heap, φ h1 → (∀ o, h1.get? a = some o → h2.get? a = some o) → φ h2
def HOk (H : Hp) (h : Heap) : Prop := ∀ a o, H a = some o → ObjOk P w H h a o
end
section
variable {P : Program} {w : World} {H H' : Hp} {h h' : Heap} {a : Addr} {o : HO}
theorem ObjOk.lt (x : ObjOk P w H h a o) : a < h.objs.size := by
  cases o with
  | lst xs => obtain ⟨_, _, _, _, e⟩ := x; exact Heap.lt_size e
  | tup xs => obtain ⟨_, _, _, p⟩ := x; exact p.lt
  | dK kvs => obtain ⟨_, _, _, _, o, _, _, e, _⟩ := x; exact Heap.lt_size e
  | dT kvs => obtain ⟨_, _, _, _, o, _, _, e, _⟩ := x; exact Heap.lt_size e
  | set S n => obtain ⟨o, _, _, _, e, _⟩ := x; exact Heap.lt_size e
  | ins C dx fs => obtain ⟨_, _, _, e, _⟩ := x; exact Heap.lt_size e
  | own y => obtain ⟨_, e⟩ := x; exact Heap.lt_size e
  | xd fs => obtain ⟨_, ⟨_, _, _, e, _⟩, _⟩ := x; exact Heap.lt_size e
  | rng lo hi => obtain ⟨_, _, _, e⟩ := x; exact Heap.lt_size e
  | frz ob u => obtain ⟨e, _⟩ := x; exact Heap.lt_size e
  | tbl ps => exact Heap.lt_size (show h.get? a = some _ from x)
  | met f y => exact Heap.lt_size (show h.get? a = some _ from x)
  | ext φ => obtain ⟨_, ⟨_, e⟩, _⟩ := x; exact Heap.lt_size e
theorem Paired.mapP {α β : Type} {F G : α → β → Prop} : ∀ {l₁ : List α} {l₂ : List β}, Paired F l₁ l₂ → (∀ a b, F a b → G a b) → Paired G l₁ l₂
  | _, _, .nil, _ => .nil
  | _, _, .cons r t, f => .cons (f _ _ r) (Paired.mapP t f)
theorem ObjOk.stay (x : ObjOk P w H h a o) (k : ∀ b u, (b = a ∨ H b = some (.own a)) → h.get? b = some u → h'.get? b = some u)
    (ho : ∀ b, H b = some (.own a) → H' b = some (.own a)) (ht : ∀ b xs, H b = some (.tup xs) → H' b = some (.tup xs)) : ObjOk P w H' h' a o := by
  induction o with
  | lst xs => obtain ⟨z, its, n, r, e⟩ := x; exact ⟨z, its, n, r, k _ _ (.inl rfl) e⟩
  | tup xs => obtain ⟨z, its, r, ob, e, c⟩ := x; exact ⟨z, its, r, ob, k _ _ (.inl rfl) e, c⟩
  | dK kvs => obtain ⟨z, y, vs, r, ob, es, ep, e, c⟩ := x; exact ⟨z, y, vs, r, ob, es, ep, k _ _ (.inl rfl) e, c⟩
  | dT kvs =>
    obtain ⟨z, y, xs, r, ob, es, ep, e, c⟩ := x
    exact ⟨z, y, xs, Paired.mapP r fun p q z => ⟨z.1, ht _ _ z.2.1, z.2.2⟩, ob, es, ep, k _ _ (.inl rfl) e, c⟩
  | set S n => obtain ⟨ob, es, ep, t, e, c⟩ := x; exact ⟨ob, es, ep, t, k _ _ (.inl rfl) e, c⟩
  | ins C dx fs =>
    obtain ⟨d, z, ne, e, mA, ⟨od, es, ep, e2, c⟩, r⟩ := x
    exact ⟨ho _ d, z, ne, k _ _ (.inl rfl) e, mA, ⟨od, es, ep, k _ _ (.inr d) e2, c⟩, r⟩
  | own y => obtain ⟨ob, e⟩ := x; exact ⟨ob, k _ _ (.inl rfl) e⟩
  | xd fs => obtain ⟨mA, ⟨od, es, ep, e, c⟩, r⟩ := x; exact ⟨mA, ⟨od, es, ep, k _ _ (.inl rfl) e, c⟩, r⟩
  | rng lo hi => obtain ⟨t, u, v, e⟩ := x; exact ⟨t, u, v, k _ _ (.inl rfl) e⟩
  | frz ob u ih => obtain ⟨e, q⟩ := x; exact ⟨k _ _ (.inl rfl) e, ih q⟩
  | tbl ps =>
    have e : h.get? a = some { cls := .none, data := .fields ps } := x
    show h'.get? a = some { cls := .none, data := .fields ps }
    exact k a _ (.inl rfl) e
  | met f y =>
    have e : h.get? a = some (PySem.W.methodObj (.ref f) (.ref y)) := x
    show h'.get? a = some (PySem.W.methodObj (.ref f) (.ref y))
    exact k a _ (.inl rfl) e
  | ext φ => obtain ⟨p, ⟨o, e⟩, st⟩ := x; exact ⟨st _ _ p fun o q => k _ _ (.inl rfl) q, ⟨o, k _ _ (.inl rfl) e⟩, st⟩
theorem HOk.lt (x : HOk P w H h) (e : H a = some o) : a < h.objs.size := (x a o e).lt
theorem HOk.fresh (x : HOk P w H h) (e : h.objs.size ≤ a) : H a = none := by
  cases q : H a with
  | none => rfl
  | some u => exact absurd (Nat.lt_of_lt_of_le (x.lt q) e) (Nat.lt_irrefl _)
theorem HOk.kept (x : HOk P w H h) (k : ∀ b u, h.get? b = some u → h'.get? b = some u) : HOk P w H h' := fun a o e =>
  (x a o e).stay (fun b u _ q => k b u q) (fun _ q => q) fun _ _ q => q
theorem HOk.laid (x : HOk P w H h) (k : ∀ b u, h.get? b = some u → h'.get? b = some u) (hp : h.objs.size ≤ a) (new : ObjOk P w (upd H a o) h' a o) : HOk P w (upd H a o) h' := fun b u e => by
  have hn := x.fresh hp
  by_cases hb : b = a
  · subst hb; rw [upd_same] at e; cases e; exact new
  · rw [upd_ne hb] at e
    exact (x b u e).stay (fun c v _ q => k c v q) (fun c q => by rw [upd_ne (ne_of_none q hn)]; exact q) fun c xs q => by rw [upd_ne (ne_of_none q hn)]; exact q
end
def Rd (H : Hp) (a : Addr) (u : HO) : Prop := H a = some u ∨ ∃ o, H a = some (.frz o u)
theorem Rd.ok {P : Program} {w : World} {H : Hp} {h : Heap} {a : Addr} {u : HO} (r : Rd H a u) (x : HOk P w H h) : ObjOk P w H h a u := by
  rcases r with r | ⟨o, r⟩
  · exact x a u r
  · obtain ⟨_, q⟩ := x a _ r
    exact q
def Mut : Option HO → Prop
  | some (.lst _) => True
  | some (.dK _) => True
  | some (.dT _) => True
  | some (.set _ _) => True
  | some (.ins _ _ _) => True
  | some (.ext _) => True
  | _ => False
section
variable {P : Program} {w : World} {H : Hp} {h h' : Heap} {x e : Addr} {o' : HO}
theorem HOk.write (ok : HOk P w H h) (mu : Mut (H x)) (he : e = x ∨ H e = some (.own x)) (k : ∀ b u, b ≠ e → h.get? b = some u → h'.get? b = some u) (heo : ∃ u, h'.get? e = some u)
    (new : ObjOk P w (upd H x o') h' x o') : HOk P w (upd H x o') h' := fun b u q => by
  have nown : ∀ c y, H c = some (.own y) → c ≠ x := fun c y r z => by subst z; rw [r] at mu; exact mu
  have ntup : ∀ c xs, H c = some (.tup xs) → c ≠ x := fun c xs r z => by subst z; rw [r] at mu; exact mu
  by_cases hb : b = x
  · subst hb; rw [upd_same] at q; cases q; exact new
  · rw [upd_ne hb] at q
    by_cases hbe : b = e
    · have q' : H b = some (.own x) := by
        rcases he with z | z
        · exact absurd (hbe.trans z) hb
        · rw [hbe]; exact z
      rw [q] at q'; cases q'
      obtain ⟨v, hv⟩ := heo
      exact ⟨v, by rw [hbe]; exact hv⟩
    · refine (ok b u q).stay (fun c v hc r => k c v ?_ r) (fun c r => by rw [upd_ne (nown c b r)]; exact r) fun c xs r => by rw [upd_ne (ntup c xs r)]; exact r
      rcases hc with rfl | hc
      · exact hbe
      · rintro rfl
        rcases he with z | z
        · exact nown c b hc z
        · rw [hc] at z; cases z; exact hb rfl
end
structure Un (fs ex : List Addr) (H H' : Hp) (h h' : Heap) : Prop where
  keep : ∀ b o, h.get? b = some o → H b = none → b ∉ fs → b ∉ ex → h'.get? b = some o
  slot : ∀ b o, h.get? b = some o → H b = none → b ∈ fs → b ∉ ex → ∃ sl, h'.get? b = some { o with slots := sl }
  free : ∀ b o, h.get? b = some o → H b = none → b ∉ ex → H' b = none
  there : ∀ b o, h.get? b = some o → b ∉ ex → ∃ o', h'.get? b = some o'
  tups : ∀ b xs, H b = some (.tup xs) → H' b = some (.tup xs)
  frzs : ∀ b o u, H b = some (.frz o u) → H' b = some (.frz o u)
  tbls : ∀ b ps, H b = some (.tbl ps) → ∃ more, H' b = some (.tbl (ps ++ more))
section
variable {fs fs' ex ex' : List Addr} {H H1 H2 : Hp} {h h1 h2 h' : Heap} {a x e : Addr} {o : HO}
theorem Un.any (u : Un fs ex H H1 h h1) {b : Addr} {ob : Obj} (q : h.get? b = some ob) (n : H b = none) (hx : b ∉ ex) : ∃ sl, h1.get? b = some { ob with slots := sl } := by
  by_cases hb : b ∈ fs
  · exact u.slot b ob q n hb hx
  · exact ⟨ob.slots, u.keep b ob q n hb hx⟩
theorem Un.kept (k : ∀ b u, h.get? b = some u → h'.get? b = some u) : Un fs ex H H h h' :=
  ⟨fun b ob q _ _ _ => k b ob q, fun b ob q _ _ _ => ⟨ob.slots, k b ob q⟩, fun _ _ _ n _ => n, fun b ob q _ => ⟨ob, k b ob q⟩, fun _ _ q => q, fun _ _ _ q => q, fun _ ps q => ⟨#[], by rw [q]; simp⟩⟩
theorem Un.refl : Un fs ex H H h h := Un.kept fun _ _ q => q
theorem Un.laid (k : ∀ b u, h.get? b = some u → h'.get? b = some u) (hp : h.objs.size ≤ a) (hn : H a = none) : Un fs ex H (upd H a o) h h' where
  keep := fun b u q _ _ _ => k b u q
  slot := fun b u q _ _ _ => ⟨u.slots, k b u q⟩
  free := fun b u q n _ => by rw [upd_ne (Nat.ne_of_lt (Nat.lt_of_lt_of_le (Heap.lt_size q) hp))]; exact n
  there := fun b u q _ => ⟨u, k b u q⟩
  tups := fun b xs q => by rw [upd_ne (ne_of_none q hn)]; exact q
  frzs := fun b u xs q => by rw [upd_ne (ne_of_none q hn)]; exact q
  tbls := fun b ps q => ⟨#[], by rw [upd_ne (ne_of_none q hn), q]; simp⟩
theorem Un.write (mu : Mut (H x)) (he : e = x ∨ H e = some (.own x)) (k : ∀ b u, b ≠ e → h.get? b = some u → h'.get? b = some u) (heo : ∃ u, h'.get? e = some u) : Un fs ex H (upd H x o) h h' := by
  have hx : ∀ b, H b = none → b ≠ x := fun b n z => by subst z; rw [n] at mu; exact mu
  have hb : ∀ b, H b = none → b ≠ e := fun b n z => by
    subst z
    rcases he with r | r
    · exact hx b n r
    · rw [n] at r; cases r
  have hm : ∀ b u, H b = some u → ¬ Mut (some u) → b ≠ x := fun b u q nm z => by subst z; rw [q] at mu; exact nm mu
  refine ⟨fun b u q n _ _ => k b u (hb b n) q, fun b u q n _ _ => ⟨u.slots, k b u (hb b n) q⟩, fun b u q n _ => by rw [upd_ne (hx b n)]; exact n, fun b u q _ => ?_,
    fun b xs q => by rw [upd_ne (hm b _ q fun z => z)]; exact q, fun b u xs q => by rw [upd_ne (hm b _ q fun z => z)]; exact q, fun b ps q => ⟨#[], by rw [upd_ne (hm b _ q fun z => z), q]; simp⟩⟩
  by_cases hbe : b = e
  · subst hbe; exact heo
  · exact ⟨u, k b u hbe q⟩
end
def trk (h : Heap) (H : Hp) : List Addr := (List.range h.objs.size).filter fun a => (H a).isSome
def hidT (h : Heap) (H : Hp) : Heap := PySem.W.hideAll h (trk h H)
theorem hidT_size (h : Heap) (H : Hp) : (hidT h H).objs.size = h.objs.size := PySem.W.hideAll_size _ _
theorem hidT_get {h : Heap} {H : Hp} {b : Addr} {o : Obj} (e : h.get? b = some o) (n : H b = none) : (hidT h H).get? b = some o :=
  PySem.W.hideAll_get _ e fun hm => by
    have q : (H b).isSome = true := (List.mem_filter.mp hm).2
    rw [n] at q; simp at q
theorem of_hidT {h : Heap} {H : Hp} {b : Addr} {o : Obj} (e : (hidT h H).get? b = some o) : h.get? b = some o ∧ H b = none := by
  have e' : h.get? b = some o := PySem.W.of_hideAll (trk h H) e
  refine ⟨e', ?_⟩
  cases q : H b with
  | none => rfl
  | some x =>
    have hm : b ∈ trk h H := List.mem_filter.mpr ⟨List.mem_range.mpr (Heap.lt_size e'), by simp [q]⟩
    have z : (hidT h H).get? b = none := PySem.W.hideAll_none (trk h H) hm
    rw [z] at e; cases e
def allNews (g h : Heap) (L : Addr) : List (Addr × Obj) := (List.range h.objs.size).filterMap fun a => if a = L ∨ (g.get? a).isSome = true then none else (h.get? a).map fun o => (a, o)
def rest (g h : Heap) (L d : Addr) : List (Addr × Obj) := (allNews g h L).filter fun p => decide (p.1 ≠ d)
end L2
namespace L2
open PySem PySem.Spec PyProof.Rows
structure Mod (K : PySem.W.Frag) (mg : Str → Option Value) (base : Heap) : Prop where
  kin : K.In base
  glob : base.Ns mainGlobals mg
  blt : ∃ mb, base.Ns builtinsNs mb ∧ ∀ x : Str, x ≠ "__name__" → mb x = bootBuiltins x
  nolimit : base.NoLimit
structure Cx where
  prog : Program
  w : World
  K : PySem.W.Frag
  mg : Str → Option Value
  base : Heap
  A : Around
  N : List Str
  s₀ : Shared
  H₀ : Hp
  env : Env
  outer : List Env
  stack : List Env
  ex : List Addr
  fn : Str → Bool
  calm : Bool
  pn : List (Addr × Obj)
  xe : Value → Shared → Prop
def frs (l : List Env) : List Addr := l.filterMap (·.frame)
abbrev Cx.fs (X : Cx) : List Addr := frs X.outer
def Vis (sc : Scope) (x : Str) : Prop := sc.names.lookup x = some .local ∨ sc.names.lookup x = some .cell ∨ sc.names.lookup x = some .free
def Loc (sc : Scope) (x : Str) : Prop := sc.names.lookup x = some .local ∨ sc.names.lookup x = some .cell
def Look (env : Env) (h : Heap) (m : Str → Option Value) (x : Str) (u : Value) : Prop :=
  (env.kindOf x = some .local ∧ m x = some u) ∨ ((env.kindOf x = some .cell ∨ env.kindOf x = some .free) ∧ ∃ c, env.cells.lookup x = some c ∧ h.IsCell c (some u))
structure Cx.Ok (X : Cx) : Prop where
  mod : Mod X.K X.mg X.base
  kind : X.env.scope.kind = .function
  glob : X.env.globals = mainGlobals
  blt : X.env.builtins = builtinsNs
  above : X.s₀.heap.objs.size ≤ X.env.locals
  inj : ∀ x y c, X.env.cells.lookup x = some c → X.env.cells.lookup y = some c → x = y
  has : ∀ x, (X.env.kindOf x = some .cell ∨ X.env.kindOf x = some .free) → ∃ c, X.env.cells.lookup x = some c
  cab : ∀ x c, X.fn x = true → X.env.cells.lookup x = some c → X.s₀.heap.objs.size ≤ c
  hd : X.calm = true → X.A.handled = none
  frames : X.A.frames = some X.stack
  stk : X.stack = X.outer ∨ (X.stack = X.env :: X.outer ∧ X.env.frame = some X.env.locals)
  exf : ∀ b ∈ X.ex, b ≠ X.env.locals ∧ ∀ x c, X.env.cells.lookup x = some c → c ≠ b
  bs : ∀ b o, X.base.get? b = some o → X.s₀.heap.get? b = some o ∧ X.H₀ b = none
  bsz : X.base.objs.size ≤ X.s₀.heap.objs.size
  noex : ∀ b o, X.base.get? b = some o → b ∉ X.ex
  exfs : ∀ b ∈ X.ex, b ∉ X.fs
  funs : X.s₀.heap.FunFrames X.base X.outer
  frf : ∀ b ∈ X.fs, X.H₀ b = none
structure Inv (X : Cx) (pins : List (Addr × Obj)) (σ : List (Option V)) (H : Hp) (s : Shared) : Prop where
  ok : X.Ok
  os : s.os = X.s₀.os
  bare : AllBare s.gens
  base : Un X.fs X.ex X.H₀ H X.s₀.heap s.heap
  loc : ∃ m, s.heap.Ns X.env.locals m ∧ ∀ (i : Nat) (x : Str) (v : V), X.N[i]? = some x → σ[i]? = some (some v) → Vis X.env.scope x → ∃ u, RelV v u ∧ Look X.env s.heap m x u
  cell : ∀ x c, X.env.cells.lookup x = some c → ∃ v, s.heap.IsCell c v
  free : H X.env.locals = none
  freeC : ∀ x c, X.env.cells.lookup x = some c → H c = none
  pin : ∀ p ∈ X.pn ++ pins, s.heap.get? p.1 = some p.2 ∧ H p.1 = none ∧ p.1 ≠ X.env.locals ∧ p.1 ∉ X.fs ∧ ∀ v, p.2.data ≠ .cell v
  hok : HOk X.prog X.w H s.heap
  len : σ.length = X.N.length
section
variable {X : Cx} {pins : List (Addr × Obj)} {σ : List (Option V)} {H H' : Hp} {s : Shared} {h' : Heap}
theorem Cx.Ok.nofr (ok : X.Ok) {b : Addr} {o : Obj} (e : X.base.get? b = some o) : b ∉ X.fs := fun hb => by
  have := (ok.funs.mem hb).1
  rw [e] at this; cases this
theorem Inv.bs (I : Inv X pins σ H s) : ∀ b o, X.base.get? b = some o → s.heap.get? b = some o ∧ H b = none := fun b o e =>
  ⟨I.base.keep b o (I.ok.bs b o e).1 (I.ok.bs b o e).2 (I.ok.nofr e) (I.ok.noex b o e), I.base.free b o (I.ok.bs b o e).1 (I.ok.bs b o e).2 (I.ok.noex b o e)⟩
theorem Inv.bk (I : Inv X pins σ H s) : ∀ b o, X.base.get? b = some o → s.heap.get? b = some o := fun b o e => (I.bs b o e).1
theorem Inv.mod (I : Inv X pins σ H s) : Mod X.K X.mg X.base := I.ok.mod
theorem Inv.kIn (I : Inv X pins σ H s) : X.K.In s.heap := I.ok.mod.kin.keeps I.bk
theorem Inv.fr (I : Inv X pins σ H s) : ∃ m, Fr X.base X.env.locals s.heap m :=
  let ⟨m, hn, _⟩ := I.loc
  ⟨m, hn, I.bk, Nat.le_trans I.ok.bsz I.ok.above⟩
theorem Inv.lt (I : Inv X pins σ H s) : X.env.locals < s.heap.objs.size := let ⟨_, hn, _⟩ := I.loc; hn.lt
theorem Inv.sz (I : Inv X pins σ H s) : X.s₀.heap.objs.size ≤ s.heap.objs.size := Nat.le_trans I.ok.above (Nat.le_of_lt I.lt)
theorem Inv.nofs (I : Inv X pins σ H s) {a : Addr} (h : s.heap.objs.size ≤ a) : a ∉ X.fs := fun hb => by
  obtain ⟨_, o, ho, _⟩ := I.ok.funs.mem hb
  exact absurd (Nat.lt_of_lt_of_le (Heap.lt_size ho) (Nat.le_trans I.sz h)) (Nat.lt_irrefl _)
theorem Inv.cne (I : Inv X pins σ H s) : ∀ x c, X.env.cells.lookup x = some c → c ≠ X.env.locals := fun x c e z => by
  obtain ⟨v, o, ho, hd⟩ := I.cell x c e
  obtain ⟨m, ⟨o', es, ep, ho', hd', _⟩, _⟩ := I.loc
  rw [z, ho'] at ho; cases ho; rw [hd'] at hd; cases hd
theorem Inv.funs (I : Inv X pins σ H s) : s.heap.FunFrames X.base X.outer := by
  have all : ∀ (l : List Env), (∀ b ∈ frs l, b ∈ X.fs) → X.s₀.heap.FunFrames X.base l → s.heap.FunFrames X.base l := by
    intro l
    induction l with
    | nil => intro _ _; trivial
    | cons env r ih =>
      intro hs hl
      obtain ⟨hk, ⟨L, o, hf, hn, ho, hd⟩, hr⟩ := hl
      have hL : L ∈ X.fs := hs L (by unfold frs; rw [List.filterMap_cons, hf]; exact List.mem_cons_self)
      obtain ⟨sl, e⟩ := I.base.slot L o ho (I.ok.frf L hL) hL fun z => I.ok.exfs L z hL
      exact ⟨hk, ⟨L, _, hf, hn, e, hd⟩, ih (fun b hb => hs b (by unfold frs; rw [List.filterMap_cons, hf]; exact List.mem_cons_of_mem _ hb)) hr⟩
  exact all X.outer (fun _ hb => hb) I.ok.funs
theorem Inv.stack (I : Inv X pins σ H s) : s.heap.FunFrames X.base X.stack := by
  rcases I.ok.stk with e | ⟨e, hf⟩
  · rw [e]; exact I.funs
  · rw [e]
    obtain ⟨m, hn, _⟩ := I.loc
    refine .cons (by rw [I.ok.kind]; decide) hf hn ?_ I.funs
    exact Heap.get?_none_of_le (Nat.le_trans I.ok.bsz I.ok.above)
theorem Inv.stkSub (I : Inv X pins σ H s) : ∀ b ∈ frs X.stack, b ∈ X.env.locals :: X.fs := fun b hb => by
  rcases I.ok.stk with e | ⟨e, hf⟩
  · rw [e] at hb; exact List.mem_cons_of_mem _ hb
  · rw [e] at hb
    unfold frs at hb
    rw [List.filterMap_cons, hf] at hb
    exact hb
theorem Inv.stkFree (I : Inv X pins σ H s) : ∀ b ∈ frs X.stack, H b = none := fun b hb => by
  rcases List.mem_cons.mp (I.stkSub b hb) with e | hb
  · rw [e]; exact I.free
  · obtain ⟨_, o, ho, _⟩ := I.ok.funs.mem hb
    exact I.base.free b o ho (I.ok.frf b hb) fun z => I.ok.exfs b z hb
theorem Inv.step {g' : Array GenState} {t' : Nat} {d' : Drawn} {ch : List Addr} (I : Inv X pins σ H s)
    (hch : ∀ b ∈ ch, (b ∈ X.ex ∨ X.s₀.heap.objs.size ≤ b) ∧ b ≠ X.env.locals ∧ (∀ x c, X.env.cells.lookup x = some c → c ≠ b) ∧ ∀ p ∈ X.pn ++ pins, p.1 ≠ b)
    (keep : ∀ b o, b ≠ X.env.locals → b ∉ X.fs → b ∉ ch → s.heap.get? b = some o → H b = none → h'.get? b = some o)
    (slot : ∀ b o, b ≠ X.env.locals → b ∈ X.fs → b ∉ ch → s.heap.get? b = some o → H b = none → ∃ sl, h'.get? b = some { o with slots := sl }) (free : ∀ b o, b ∉ ch → s.heap.get? b = some o → H b = none → H' b = none)
    (there : ∀ b o, b ∉ ch → s.heap.get? b = some o → ∃ o', h'.get? b = some o')
    (tups : ∀ b xs, H b = some (.tup xs) → H' b = some (.tup xs)) (frzs : ∀ b o u, H b = some (.frz o u) → H' b = some (.frz o u)) (tbls : ∀ b ps, H b = some (.tbl ps) → ∃ more, H' b = some (.tbl (ps ++ more)))
    (ns : ∀ m, s.heap.Ns X.env.locals m → h'.Ns X.env.locals m) (hok : HOk X.prog X.w H' h') (hg : AllBare g') :
    Inv X pins σ H' { s with heap := h', gens := g', drawn := d', toks := t' } := by
  have neL : ∀ b o, X.s₀.heap.get? b = some o → b ≠ X.env.locals := fun b o e => Nat.ne_of_lt (Nat.lt_of_lt_of_le (Heap.lt_size e) I.ok.above)
  have neC : ∀ b o, X.s₀.heap.get? b = some o → b ∉ X.ex → b ∉ ch := fun b o e hx hb => by
    rcases (hch b hb).1 with z | z
    · exact hx z
    · exact absurd (Nat.lt_of_lt_of_le (Heap.lt_size e) z) (Nat.lt_irrefl _)
  have cellK : ∀ x c, X.env.cells.lookup x = some c → ∀ v, s.heap.IsCell c v → h'.IsCell c v := fun x c e v ⟨o, ho, hd⟩ => by
    have nch : c ∉ ch := fun z => (hch c z).2.2.1 x c e rfl
    by_cases hc : c ∈ X.fs
    · obtain ⟨sl, q⟩ := slot c o (I.cne x c e) hc nch ho (I.freeC x c e)
      exact ⟨_, q, hd⟩
    · exact ⟨o, keep c o (I.cne x c e) hc nch ho (I.freeC x c e), hd⟩
  refine ⟨I.ok, I.os, hg, ⟨fun b o e n hb hx => ?_, fun b o e n hb hx => ?_, fun b o e n hx => ?_, fun b o e hx => ?_, fun b xs e => tups b xs (I.base.tups b xs e), fun b o xs e => frzs b o xs (I.base.frzs b o xs e), fun b ps e => ?_⟩, ?_, fun x c e => ?_, ?_, fun x c e => ?_, fun p hp => ?_, hok, I.len⟩
  · exact keep b o (neL b o e) hb (neC b o e hx) (I.base.keep b o e n hb hx) (I.base.free b o e n hx)
  · obtain ⟨sl, e1⟩ := I.base.slot b o e n hb hx
    obtain ⟨sl', e2⟩ := slot b _ (neL b o e) hb (neC b o e hx) e1 (I.base.free b o e n hx)
    exact ⟨sl', e2⟩
  · obtain ⟨o', e1⟩ := I.base.there b o e hx
    exact free b o' (neC b o e hx) e1 (I.base.free b o e n hx)
  · obtain ⟨o', e1⟩ := I.base.there b o e hx
    exact there b o' (neC b o e hx) e1
  · obtain ⟨m1, e1⟩ := I.base.tbls b ps e
    obtain ⟨m2, e2⟩ := tbls b _ e1
    exact ⟨m1 ++ m2, by rw [e2, Array.append_assoc]⟩
  · obtain ⟨m, hn, hl⟩ := I.loc
    refine ⟨m, ns m hn, fun i x v e1 e2 e3 => ?_⟩
    obtain ⟨u, r, l⟩ := hl i x v e1 e2 e3
    refine ⟨u, r, ?_⟩
    rcases l with l | ⟨k, c, e, z⟩
    · exact .inl l
    · exact .inr ⟨k, c, e, cellK x c e _ z⟩
  · obtain ⟨v, z⟩ := I.cell x c e
    exact ⟨v, cellK x c e v z⟩
  · obtain ⟨m, ⟨o, _, _, ho, _⟩, _⟩ := I.loc
    exact free _ o (fun z => (hch _ z).2.1 rfl) ho I.free
  · obtain ⟨v, o, ho, hd⟩ := I.cell x c e
    exact free c o (fun z => (hch c z).2.2.1 x c e rfl) ho (I.freeC x c e)
  · obtain ⟨e, n, ne, nf, d⟩ := I.pin p hp
    have nch : p.1 ∉ ch := fun z => (hch p.1 z).2.2.2 p hp rfl
    exact ⟨keep p.1 p.2 ne nf nch e n, free p.1 p.2 nch e n, ne, nf, d⟩
theorem Inv.un {t' : Nat} (I : Inv X pins σ H s) (u : Un X.fs [] H H' s.heap h') (hok : HOk X.prog X.w H' h') : Inv X pins σ H' { s with heap := h', toks := t' } := by
  obtain ⟨m, ⟨o, es, ep, ho, r⟩, _⟩ := id I.loc
  obtain ⟨sl, hL⟩ := u.any ho I.free (by simp)
  exact I.step (g' := s.gens) (d' := s.drawn) (ch := []) (fun _ z => nomatch z) (fun b o _ hb _ e n => u.keep b o e n hb (by simp)) (fun b o _ hb _ e n => u.slot b o e n hb (by simp)) (fun b o _ e n => u.free b o e n (by simp)) (fun b o _ e => u.there b o e (by simp)) u.tups u.frzs u.tbls (fun m' hm => by
    obtain ⟨o', es', ep', ho', r'⟩ := hm
    rw [ho] at ho'; cases ho'
    exact ⟨_, es', ep', hL, r'⟩) hok I.bare
theorem Inv.call {g' : Array GenState} {t' : Nat} {d' : Drawn} {ch : List Addr} (I : Inv X pins σ H s) (u : Un (frs X.stack) ch H H' s.heap h') (hok : HOk X.prog X.w H' h') (hg : AllBare g')
    (hch : ∀ b ∈ ch, (b ∈ X.ex ∨ X.s₀.heap.objs.size ≤ b) ∧ b ≠ X.env.locals ∧ (∀ x c, X.env.cells.lookup x = some c → c ≠ b) ∧ ∀ p ∈ X.pn ++ pins, p.1 ≠ b) :
    Inv X pins σ H' { s with heap := h', gens := g', drawn := d', toks := t' } := by
  obtain ⟨m, ⟨o, es, ep, ho, r⟩, _⟩ := id I.loc
  obtain ⟨sl, hL⟩ := u.any ho I.free fun z => (hch _ z).2.1 rfl
  exact I.step (ch := ch) hch (fun b o hL hb hc e n => u.keep b o e n (fun z => (List.mem_cons.mp (I.stkSub b z)).elim hL hb) hc) (fun b o _ _ hc e n => u.any e n hc) (fun b o hc e n => u.free b o e n hc) (fun b o hc e => u.there b o e hc) u.tups u.frzs u.tbls (fun m' hm => by
    obtain ⟨o', es', ep', ho', r'⟩ := hm
    rw [ho] at ho'; cases ho'
    exact ⟨_, es', ep', hL, r'⟩) hok hg
theorem Inv.turned {t' : Nat} {it : Addr} (I : Inv X pins σ H s) (k : ∀ b o, b ≠ it → s.heap.get? b = some o → h'.get? b = some o) (hn : H it = none) (hL : it ≠ X.env.locals)
    (h1 : it ∈ X.ex ∨ X.s₀.heap.objs.size ≤ it) (h2 : ∀ x c, X.env.cells.lookup x = some c → c ≠ it) (h3 : ∀ p ∈ X.pn ++ pins, p.1 ≠ it) : Inv X pins σ H { s with heap := h', toks := t' } := by
  have nit : ∀ b u, H b = some u → b ≠ it := fun b u e z => by rw [z, hn] at e; cases e
  refine I.step (g' := s.gens) (d' := s.drawn) (ch := [it]) (fun b hb => ?_) (fun b o _ _ hc e _ => k b o (fun z => hc (by simp [z])) e) (fun b o _ _ hc e _ => ⟨o.slots, k b o (fun z => hc (by simp [z])) e⟩) (fun _ _ _ _ n => n)
    (fun b o hc e => ⟨o, k b o (fun z => hc (by simp [z])) e⟩) (fun _ _ e => e) (fun _ _ _ e => e) (fun b ps e => ⟨#[], by rw [e]; simp⟩) (fun m hm => ?_) (fun b u e => ?_) I.bare
  · have e : b = it := by simpa using hb
    subst e
    exact ⟨h1, hL, h2, h3⟩
  · obtain ⟨o, es, ep, ho, r⟩ := hm
    exact ⟨o, es, ep, k _ o (Ne.symm hL) ho, r⟩
  · refine (I.hok b u e).stay (fun c v hc q => k c v ?_ q) (fun _ q => q) fun _ _ q => q
    rcases hc with z | z
    · rw [z]; exact nit b u e
    · exact nit c _ z
theorem Inv.tok (I : Inv X pins σ H s) (t : Nat) : Inv X pins σ H { s with toks := t } := I.un (h' := s.heap) (t' := t) Un.refl I.hok
theorem Inv.kept {t' : Nat} (I : Inv X pins σ H s) (k : ∀ b u, s.heap.get? b = some u → h'.get? b = some u) : Inv X pins σ H { s with heap := h', toks := t' } := I.un (Un.kept k) (I.hok.kept k)
theorem Inv.laid {a : Addr} {o : HO} {t' : Nat} (I : Inv X pins σ H s) (k : ∀ b u, s.heap.get? b = some u → h'.get? b = some u) (hp : s.heap.objs.size ≤ a) (new : ObjOk X.prog X.w (upd H a o) h' a o) :
    Inv X pins σ (upd H a o) { s with heap := h', toks := t' } := I.un (Un.laid k hp (I.hok.fresh hp)) (I.hok.laid k hp new)
theorem Inv.write {x e : Addr} {o : HO} {t' : Nat} (I : Inv X pins σ H s) (mu : Mut (H x)) (he : e = x ∨ H e = some (.own x)) (k : ∀ b u, b ≠ e → s.heap.get? b = some u → h'.get? b = some u) (heo : ∃ u, h'.get? e = some u)
    (new : ObjOk X.prog X.w (upd H x o) h' x o) : Inv X pins σ (upd H x o) { s with heap := h', toks := t' } := I.un (Un.write mu he k heo) (I.hok.write mu he k heo new)
theorem Inv.weak {σ' : List (Option V)} (I : Inv X pins σ H s) (hl : σ'.length = σ.length) (w : ∀ (i : Nat) v, σ'[i]? = some (some v) → σ[i]? = some (some v)) : Inv X pins σ' H s :=
  ⟨I.ok, I.os, I.bare, I.base, let ⟨m, hn, hl'⟩ := I.loc; ⟨m, hn, fun i x v e1 e2 e3 => hl' i x v e1 (w i v e2) e3⟩, I.cell, I.free, I.freeC, I.pin, I.hok, hl.trans I.len⟩
theorem Inv.pins_of {pins' : List (Addr × Obj)} (I : Inv X pins σ H s) (h : ∀ p ∈ pins', s.heap.get? p.1 = some p.2 ∧ H p.1 = none ∧ p.1 ≠ X.env.locals ∧ p.1 ∉ X.fs ∧ ∀ v, p.2.data ≠ .cell v) : Inv X pins' σ H s :=
  ⟨I.ok, I.os, I.bare, I.base, I.loc, I.cell, I.free, I.freeC, fun p hp => (List.mem_append.mp hp).elim (fun z => I.pin p (List.mem_append_left _ z)) (h p), I.hok, I.len⟩
theorem nodup_ix {N : List Str} (hN : N.Nodup) {i j : Nat} {x : Str} (a : N[i]? = some x) (b : N[j]? = some x) : i = j := by
  obtain ⟨h1, e1⟩ := List.getElem?_eq_some_iff.mp a
  obtain ⟨h2, e2⟩ := List.getElem?_eq_some_iff.mp b
  exact (List.getElem_inj hN).mp (e1.trans e2.symm)
theorem store_ok2 {M : Model} {A : Around} {E : Value → Shared → Prop} {i : Nat} {x : Str} {v : V} {u : Value} {Q : Unit → Shared → Prop} (I : Inv X pins σ H s) (hN : X.N.Nodup) (hi : X.N[i]? = some x) (hx : Loc X.env.scope x) (r : RelV v u)
    (h : ∀ s', Inv X pins (σ.set i (some v)) H s' → (∃ a, Heap.SameBut a s.heap s'.heap ∧ (a = X.env.locals ∨ X.env.cells.lookup x = some a)) → Q () s') (hf : X.fn x = true ∨ X.env.scope.names.lookup x = some .local := by first | exact .inl rfl | exact .inr rfl | assumption) : wpAny M A (storeName X.env x u) Q E s := by
  obtain ⟨m, hn, hl⟩ := id I.loc
  have hcls : (X.env.scope.kind == .class || (X.env.scope.kind == .module && X.env.locals != X.env.globals)) = false := by rw [I.ok.kind]; rfl
  have hiσ : i < σ.length := by rw [I.len]; exact (List.getElem?_eq_some_iff.mp hi).1
  have cne := I.cne
  have tracked : ∀ {a : Addr} {h' : Heap}, (∃ o, s.heap.get? a = some o ∧ H a = none) → Heap.SameBut a s.heap h' → HOk X.prog X.w H h' := fun {a h'} ha hs b ob e => by
    obtain ⟨_, _, hfree⟩ := ha
    refine (I.hok b ob e).stay (fun c w' hc q => (hs.2 c ?_).trans q) (fun _ q => q) fun _ _ q => q
    rintro rfl
    rcases hc with rfl | hc
    · rw [hfree] at e; cases e
    · rw [hfree] at hc; cases hc
  rcases hx with hk | hk
  · refine wpAny_storeName_local hk hn (fun h' hn' hs => ?_) hcls
    obtain ⟨oL, _, _, hoL, _⟩ := id hn
    refine h _ ⟨I.ok, I.os, I.bare, ⟨fun b o e n hb hx => ?_, fun b o e n hb hx => ?_, I.base.free, fun b o e hx => ?_, I.base.tups, I.base.frzs, I.base.tbls⟩, ⟨_, hn', fun j y v' e1 e2 e3 => ?_⟩, fun y c e => ?_, I.free, I.freeC, fun p hp => ?_, tracked ⟨oL, hoL, I.free⟩ hs, by simpa using I.len⟩ ⟨_, hs, .inl rfl⟩
    · exact (hs.2 b (Nat.ne_of_lt (Nat.lt_of_lt_of_le (Heap.lt_size e) I.ok.above))).trans (I.base.keep b o e n hb hx)
    · obtain ⟨sl, e1⟩ := I.base.slot b o e n hb hx
      exact ⟨sl, (hs.2 b (Nat.ne_of_lt (Nat.lt_of_lt_of_le (Heap.lt_size e) I.ok.above))).trans e1⟩
    · obtain ⟨o', e1⟩ := I.base.there b o e hx
      exact ⟨o', (hs.2 b (Nat.ne_of_lt (Nat.lt_of_lt_of_le (Heap.lt_size e) I.ok.above))).trans e1⟩
    · by_cases hj : j = i
      · subst hj
        rw [hi] at e1; cases e1
        rw [List.getElem?_set_self hiσ] at e2
        cases e2
        exact ⟨u, r, .inl ⟨hk, by simp⟩⟩
      · rw [List.getElem?_set_ne (Ne.symm hj)] at e2
        obtain ⟨u', r', q⟩ := hl j y v' e1 e2 e3
        refine ⟨u', r', ?_⟩
        rcases q with ⟨k, e⟩ | ⟨k, c, e, z⟩
        · refine .inl ⟨k, ?_⟩
          have : y ≠ x := fun e => hj (nodup_ix hN e1 (e ▸ hi))
          simp [this, e]
        · exact .inr ⟨k, c, e, z.sameBut hs (cne y c e)⟩
    · obtain ⟨w', z⟩ := I.cell y c e
      exact ⟨w', z.sameBut hs (cne y c e)⟩
    · obtain ⟨e, n, ne, nf, d⟩ := I.pin p hp
      exact ⟨(hs.2 p.1 ne).trans e, n, ne, nf, d⟩
  · have hfn : X.fn x = true := by
      rcases hf with z | z
      · exact z
      · rw [z] at hk; cases hk
    obtain ⟨c, hc⟩ := I.ok.has x (.inl hk)
    obtain ⟨w', z⟩ := I.cell x c hc
    refine wpAny_storeName_cell I.ok.kind hk hc z (fun h' hc' hs => ?_)
    obtain ⟨oc, hoc, hocd⟩ := id z
    refine h { s with heap := h' } ⟨I.ok, I.os, I.bare, ⟨fun b o e n hb hx => ?_, fun b o e n hb hx => ?_, I.base.free, fun b o e hx => ?_, I.base.tups, I.base.frzs, I.base.tbls⟩, ⟨m, hn.sameBut hs (Ne.symm (cne x c hc)), fun j y v' e1 e2 e3 => ?_⟩, fun y c' e => ?_, I.free, I.freeC, fun p hp => ?_, tracked ⟨oc, hoc, I.freeC x c hc⟩ hs, by simpa using I.len⟩ ⟨c, hs, .inr hc⟩
    · exact (hs.2 b (Nat.ne_of_lt (Nat.lt_of_lt_of_le (Heap.lt_size e) (I.ok.cab x c hfn hc)))).trans (I.base.keep b o e n hb hx)
    · obtain ⟨sl, e1⟩ := I.base.slot b o e n hb hx
      exact ⟨sl, (hs.2 b (Nat.ne_of_lt (Nat.lt_of_lt_of_le (Heap.lt_size e) (I.ok.cab x c hfn hc)))).trans e1⟩
    · obtain ⟨o', e1⟩ := I.base.there b o e hx
      exact ⟨o', (hs.2 b (Nat.ne_of_lt (Nat.lt_of_lt_of_le (Heap.lt_size e) (I.ok.cab x c hfn hc)))).trans e1⟩
    · by_cases hj : j = i
      · subst hj
        rw [hi] at e1; cases e1
        rw [List.getElem?_set_self hiσ] at e2
        cases e2
        exact ⟨u, r, .inr ⟨.inl hk, c, hc, hc'⟩⟩
      · rw [List.getElem?_set_ne (Ne.symm hj)] at e2
        obtain ⟨u', r', q⟩ := hl j y v' e1 e2 e3
        refine ⟨u', r', ?_⟩
        rcases q with q | ⟨k, c', e, z'⟩
        · exact .inl q
        · refine .inr ⟨k, c', e, z'.sameBut hs ?_⟩
          rintro rfl
          exact hj (nodup_ix hN e1 (I.ok.inj _ _ _ e hc ▸ hi))
    · by_cases hcc : c' = c
      · subst hcc; exact ⟨_, hc'⟩
      · obtain ⟨w2, z2⟩ := I.cell y c' e
        exact ⟨w2, z2.sameBut hs hcc⟩
    · obtain ⟨e, n, ne, nf, d⟩ := I.pin p hp
      refine ⟨(hs.2 p.1 ?_).trans e, n, ne, nf, d⟩
      intro q
      rw [q, hoc] at e
      have q' : oc = p.2 := Option.some.inj e
      exact d w' (by rw [← q']; exact hocd)
theorem store_ok {M : Model} {A : Around} {E : Value → Shared → Prop} {i : Nat} {x : Str} {v : V} {u : Value} {Q : Unit → Shared → Prop} (I : Inv X pins σ H s) (hN : X.N.Nodup) (hi : X.N[i]? = some x) (hx : Loc X.env.scope x) (r : RelV v u)
    (h : ∀ s', Inv X pins (σ.set i (some v)) H s' → Q () s') (hf : X.fn x = true ∨ X.env.scope.names.lookup x = some .local := by first | exact .inl rfl | exact .inr rfl | assumption) : wpAny M A (storeName X.env x u) Q E s :=
  store_ok2 I hN hi hx r (fun s' I' _ => h s' I') hf
theorem Inv.call' {s' : Shared} {ch : List Addr} (I : Inv X pins σ H s) (ho : s'.os = s.os) (u : Un (frs X.stack) ch H H' s.heap s'.heap) (hok : HOk X.prog X.w H' s'.heap) (hg : AllBare s'.gens)
    (hch : ∀ b ∈ ch, (b ∈ X.ex ∨ X.s₀.heap.objs.size ≤ b) ∧ b ≠ X.env.locals ∧ (∀ x c, X.env.cells.lookup x = some c → c ≠ b) ∧ ∀ p ∈ X.pn ++ pins, p.1 ≠ b) : Inv X pins σ H' s' := by
  obtain ⟨h', g', d', t', o'⟩ := s'
  have e : o' = s.os := ho
  subst e
  exact I.call (g' := g') (t' := t') (d' := d') u hok hg hch
end
abbrev XK := Value → Option Addr → Hp → Prop
abbrev St := List (Option V)
abbrev VK := V → Hp → Prop
abbrev TE := St → Hp → VK → Prop
abbrev TT := St → Hp → (Bool → Hp → Prop) → Prop
abbrev TA := St → Hp → (List V → Hp → Prop) → Prop
structure Ends where
  nx : St → Hp → Prop
  rt : VK
  bk : St → Hp → Prop := fun _ _ => False
  ct : St → Hp → Prop := fun _ _ => False
abbrev TS := Ends → St → Hp → Prop
def EP (X : Cx) (pins : List (Addr × Obj)) (σ : St) (Q : VK) (u : Value) (s' : Shared) : Prop := ∃ v H', Inv X pins σ H' s' ∧ RelV v u ∧ Q v H'
def TP (X : Cx) (pins : List (Addr × Obj)) (σ : St) (Q : Bool → Hp → Prop) (b : Bool) (s' : Shared) : Prop := ∃ H', Inv X pins σ H' s' ∧ Q b H'
def AP (X : Cx) (pins : List (Addr × Obj)) (σ : St) (Q : List V → Hp → Prop) (us : List Value) (s' : Shared) : Prop := ∃ vs H', Inv X pins σ H' s' ∧ Vals vs us ∧ Q vs H'
def SP (X : Cx) (pins : List (Addr × Obj)) (D : Ends) (f : Flow) (s' : Shared) : Prop :=
  match f with
  | .next => ∃ σ' H', Inv X pins σ' H' s' ∧ D.nx σ' H'
  | .brk => ∃ σ' H', Inv X pins σ' H' s' ∧ D.bk σ' H'
  | .cont => ∃ σ' H', Inv X pins σ' H' s' ∧ D.ct σ' H'
  | .ret u => ∃ v σ' H', Inv X pins σ' H' s' ∧ RelV v u ∧ D.rt v H'
def PE (X : Cx) (e : Expr) (t : TE) : Prop :=
  ∀ (pins : List (Addr × Obj)) (s : Shared) (σ : St) (H : Hp) (Q : VK), Inv X pins σ H s → t σ H Q → wpAny (model X.prog X.w) X.A (eval e X.env) (EP X pins σ Q) X.xe s
def PT (X : Cx) (e : Expr) (t : TT) : Prop :=
  ∀ (pins : List (Addr × Obj)) (s : Shared) (σ : St) (H : Hp) (Q : Bool → Hp → Prop), Inv X pins σ H s → t σ H Q → wpAny (model X.prog X.w) X.A (isTrue e X.env (eval e X.env)) (TP X pins σ Q) X.xe s
def PW (X : Cx) (e : Expr) (t : TT) : Prop :=
  ∀ (whole : Sem Value) (pins : List (Addr × Obj)) (s : Shared) (σ : St) (H : Hp) (Q : Bool → Hp → Prop), Inv X pins σ H s → t σ H Q → wpAny (model X.prog X.w) X.A (isTrue e X.env whole) (TP X pins σ Q) X.xe s
theorem PW.pt {X : Cx} {e : Expr} {t : TT} (h : PW X e t) : PT X e t := h _
def PA (X : Cx) (es : List Expr) (t : TA) : Prop :=
  ∀ (pos : Pos) (pins : List (Addr × Obj)) (s : Shared) (σ : St) (H : Hp) (Q : List V → Hp → Prop), Inv X pins σ H s → t σ H Q → wpAny (model X.prog X.w) X.A (spliced (backTo pos (starEach es X.env))) (AP X pins σ Q) X.xe s
def PS (X : Cx) (st : Stmt) (t : TS) : Prop :=
  ∀ (pins : List (Addr × Obj)) (s : Shared) (σ : St) (H : Hp) (D : Ends), Inv X pins σ H s → t D σ H → wpAny (model X.prog X.w) X.A (exec st X.env) (SP X pins D) X.xe s
def PSs (X : Cx) (st : List Stmt) (t : TS) : Prop :=
  ∀ (pins : List (Addr × Obj)) (s : Shared) (σ : St) (H : Hp) (D : Ends), Inv X pins σ H s → t D σ H → wpAny (model X.prog X.w) X.A (execs st X.env) (SP X pins D) X.xe s
theorem thn {α : Type} {t : Sem α} {Q Q' : α → Shared → Prop} {M : Model} {A : Around} {E : Value → Shared → Prop} {s : Shared} (h : wpAny M A t Q E s) (hQ : ∀ a s, Q a s → Q' a s) : wpAny M A t Q' E s := wpAny_mono h hQ fun _ _ x => x
end L2
namespace L2
open PySem PySem.Spec PyProof.Rows
section
variable {X : Cx}
theorem bin {a b : Expr} {ta tb : TE} (ha : PE X a ta) (hb : PE X b tb) {pins : List (Addr × Obj)} {s : Shared} {σ : St} {H : Hp} {R : V → V → Hp → Prop} (I : Inv X pins σ H s) (h : ta σ H fun x H1 => tb σ H1 fun y H2 => R x y H2)
    {α : Type} {Q : α → Shared → Prop} {f : Value → Value → Sem α}
    (hf : ∀ v u s2 x y H2, Inv X pins σ H2 s2 → RelV x v → RelV y u → R x y H2 → wpAny (model X.prog X.w) X.A (f v u) Q X.xe s2) :
    wpAny (model X.prog X.w) X.A (eval a X.env) (fun v s₁ => wpAny (model X.prog X.w) X.A (eval b X.env) (fun u s₂ => wpAny (model X.prog X.w) X.A (f v u) Q X.xe s₂) X.xe s₁) X.xe s := by
  refine thn (ha pins s σ H _ I h) fun v s1 ⟨x, H1, I1, r1, q1⟩ => ?_
  refine thn (hb pins s1 σ H1 _ I1 q1) fun u s2 ⟨y, H2, I2, r2, q2⟩ => ?_
  exact hf v u s2 x y H2 I2 r1 r2 q2
def tVar (i : Nat) : TE := fun σ H Q => ∃ v, σ[i]? = some (some v) ∧ Q v H
def tC (v : V) : TE := fun _ H Q => Q v H
theorem pe_var {i : Nat} {x : Str} {pos : Pos} (hN : X.N[i]? = some x) (hv : Vis X.env.scope x) (hd : (x == ("__debug__" : Str)) = false := by decide) (hcd : (x == ("__classdict__" : Str)) = false := by decide) : PE X (.Name x pos) (tVar i) := by
  intro pins s σ H Q I h
  obtain ⟨v, e, h⟩ := h
  obtain ⟨m, hn, hl⟩ := I.loc
  obtain ⟨u, r, l⟩ := hl i x v hN e hv
  have fin : EP X pins σ Q u s := ⟨v, H, I, r, h⟩
  rcases l with ⟨hk, hm⟩ | ⟨hk, c, hc, hcell⟩
  · exact wpAny_Name (wpAny_loadName_local I.ok.kind hk hn hm fin) hd
  · rcases hk with hk | hk
    · exact wpAny_Name (wpAny_loadName_cell I.ok.kind hk hc hcell fin) hd
    · exact wpAny_Name (wpAny_loadName_free I.ok.kind hk hc hcell fin hcd) hd
theorem pe_int {i j pos} : PE X (.Constant (.int i) j pos) (tC (.int i)) := fun _ _ _ H _ I h => wpAny_Constant_int ⟨.int i, H, I.tok _, ⟨_, rfl⟩, h⟩
theorem pe_bl {b j pos} : PE X (.Constant (.bool b) j pos) (tC (.bl b)) := fun _ _ _ H _ I h => Constant_bool ⟨.bl b, H, I, rfl, h⟩
def Gl (X : Cx) (x : Str) : Prop := X.env.kindOf x = some .globalImplicit
theorem ld_glob {E : Value → Shared → Prop} {pins : List (Addr × Obj)} {s : Shared} {σ : St} {H : Hp} {x : Str} {u : Value} {pos : Pos} {Q : Value → Shared → Prop} (I : Inv X pins σ H s) (hg : Gl X x) (hm : X.mg x = some u) (h : Q u s)
    (hd : (x == ("__debug__" : Str)) = false := by decide) : wpAny (model X.prog X.w) X.A (eval (.Name x pos) X.env) Q E s :=
  Calls.Name_function_global I.ok.kind hg (Calls.loadGlobal_global (by rw [I.ok.glob]; exact I.mod.glob.keeps I.bk) hm h) hd
theorem ld_blt {E : Value → Shared → Prop} {pins : List (Addr × Obj)} {s : Shared} {σ : St} {H : Hp} {x : Str} {u : Value} {pos : Pos} {Q : Value → Shared → Prop} (I : Inv X pins σ H s) (hg : Gl X x) (hm : X.mg x = none) (hv : bootBuiltins x = some u) (h : Q u s)
    (hn : x ≠ "__name__" := by decide) (hd : (x == ("__debug__" : Str)) = false := by decide) : wpAny (model X.prog X.w) X.A (eval (.Name x pos) X.env) Q E s := by
  obtain ⟨mb, h1, h2⟩ := I.mod.blt
  exact Calls.Name_function_global I.ok.kind hg (Calls.loadGlobal_builtin (by rw [I.ok.glob]; exact I.mod.glob.keeps I.bk) hm (by rw [I.ok.blt]; exact h1.keeps I.bk) ((h2 x hn).trans hv) h) hd
theorem pe_glob {x : Str} {v : V} {u : Value} {pos : Pos} (hg : Gl X x) (hm : X.mg x = some u) (r : RelV v u) (hd : (x == ("__debug__" : Str)) = false := by decide) : PE X (.Name x pos) (tC v) :=
  fun _ _ _ H _ I h => ld_glob I hg hm ⟨v, H, I, r, h⟩ hd
theorem pe_bltn {x : Str} {v : V} {u : Value} {pos : Pos} (hg : Gl X x) (hm : X.mg x = none) (hv : bootBuiltins x = some u) (r : RelV v u) (hn : x ≠ "__name__" := by decide) (hd : (x == ("__debug__" : Str)) = false := by decide) : PE X (.Name x pos) (tC v) :=
  fun _ _ _ H _ I h => ld_blt I hg hm hv ⟨v, H, I, r, h⟩ hn hd
variable {a b : Expr} {ta tb : TE} {pos : Pos}
def PC (X : Cx) (op : CmpOp) (a b : Expr) (t : TE) : Prop :=
  ∀ (pins : List (Addr × Obj)) (s : Shared) (σ : St) (H : Hp) (Q : VK), Inv X pins σ H s → t σ H Q →
    wpAny (model X.prog X.w) X.A (eval a X.env) (fun v s₁ => wpAny (model X.prog X.w) X.A (eval b X.env) (fun u s₂ => wpAny (model X.prog X.w) X.A (compareOp op v u) (EP X pins σ Q) X.xe s₂) X.xe s₁) X.xe s
theorem nobehind (b : Expr) {op : CmpOp} (h : op ≠ .In) (h2 : op ≠ .NotIn) : behindInMarks op b = false := by
  have e1 : (op == CmpOp.In) = false := by cases op <;> first | rfl | exact absurd rfl h
  have e2 : (op == CmpOp.NotIn) = false := by cases op <;> first | rfl | exact absurd rfl h2
  cases b <;> simp [behindInMarks, e1, e2]
def tB (t : TE) : TT := fun σ H Q => t σ H fun x H1 => ∃ c, x = .bl c ∧ Q c H1
theorem pt_cmp {op : CmpOp} {t : TE} (h : PC X op a b t) (h1 : behindInMarks op b = false := by first | exact nobehind _ (by decide) (by decide) | rfl) : PT X (.Compare a [op] [b] pos) (tB t) := by
  intro pins s σ H Q I hw
  refine wpAny_isTrue_Compare1 (thn (h pins s σ H _ I hw) fun v s1 h1 => thn h1 fun u s2 h2 => thn h2 fun c s3 ⟨x, H1, I1, r1, q1⟩ => ?_) h1
  obtain ⟨d, rfl, q⟩ := q1
  cases r1
  exact wpAny_truthy_bool ⟨H1, I1, q⟩
variable {tA tB' : TT} {rest : List Expr}
def tAnd (t u : TT) : TT := fun σ H Q => t σ H fun c H1 => if c = true then u σ H1 Q else Q false H1
def tOr (t u : TT) : TT := fun σ H Q => t σ H fun c H1 => if c = true then Q true H1 else u σ H1 Q
def tNot (t : TT) : TT := fun σ H Q => t σ H fun c H1 => Q (!c) H1
theorem pw_and1 (ha : PT X a tA) : PW X (.BoolOp .And [a] pos) tA := by
  intro wh pins s σ H Q I h
  refine isTrue_and (thn (ha pins s σ H Q I h) fun c s1 e => ?_)
  cases c with
  | true => exact isTrue_and_nil e
  | false => exact e
theorem pw_or1 (ha : PT X a tA) : PW X (.BoolOp .Or [a] pos) tA := by
  intro wh pins s σ H Q I h
  refine isTrue_or (thn (ha pins s σ H Q I h) fun c s1 e => ?_)
  cases c with
  | false => exact isTrue_or_nil e
  | true => exact e
theorem pw_and (ha : PT X a tA) (hb : PW X (.BoolOp .And (b :: rest) pos) tB') : PW X (.BoolOp .And (a :: b :: rest) pos) (tAnd tA tB') := by
  intro wh pins s σ H Q I h
  refine isTrue_and (thn (ha pins s σ H _ I h) fun c s1 ⟨H1, I1, q1⟩ => ?_)
  cases c with
  | true => exact hb wh pins s1 σ H1 Q I1 q1
  | false => exact ⟨H1, I1, q1⟩
theorem pw_or (ha : PT X a tA) (hb : PW X (.BoolOp .Or (b :: rest) pos) tB') : PW X (.BoolOp .Or (a :: b :: rest) pos) (tOr tA tB') := by
  intro wh pins s σ H Q I h
  refine isTrue_or (thn (ha pins s σ H _ I h) fun c s1 ⟨H1, I1, q1⟩ => ?_)
  cases c with
  | true => exact ⟨H1, I1, q1⟩
  | false => exact hb wh pins s1 σ H1 Q I1 q1
theorem pt_not (ha : PT X a tA) : PT X (.UnaryOp .Not a pos) (tNot tA) := by
  intro pins s σ H Q I h
  exact isTrue_not (ha pins s σ H (fun c H1 => Q (!c) H1) I h)
theorem pe_one {op} {t : TE} (h : PE X a t) : PE X (.BoolOp op [a] pos) t := fun pins s σ H Q I hw => BoolOp_one (h pins s σ H Q I hw)
end
end L2
namespace L2
open PySem PySem.Spec PyProof.Rows
def SqL (K : PySem.W.Frag) (H : Hp) (a : Addr) (xs : List V) : Prop :=
  Rd H a (.lst xs) ∨
    ∃ (o : Obj) (its : Array Value) (n : Nat), K.lookup a = some o ∧ o.cls = .type "list" ∧ o.dict = none ∧ o.data = .seq its n ∧ its.size ≤ sizeLine ∧ Vals xs its.toList
def SqT (K : PySem.W.Frag) (H : Hp) (a : Addr) (xs : List V) : Prop :=
  Rd H a (.tup xs) ∨
    ∃ (o : Obj) (its : Array Value) (n : Nat), K.lookup a = some o ∧ o.cls = .type "tuple" ∧ o.data = .seq its n ∧ its.size ≤ sizeLine ∧ Vals xs its.toList
def absV : Value → Option V
  | .none => some .non
  | .bool b => some (.bl b)
  | .int i _ => some (.int i)
  | .str x _ => some (.str x)
  | .bytes b _ => some (.byt b)
  | .float b _ => some (.flt b)
  | .ref a => some (.ref a)
  | .type n => some (.ty n)
  | _ => none
theorem RelV.abs {x : V} {u : Value} (r : RelV x u) : absV u = some x := by
  cases x with
  | non => cases r; rfl
  | bl _ => cases r; rfl
  | int _ => obtain ⟨t, rfl⟩ := r; rfl
  | str _ => obtain ⟨t, rfl⟩ := r; rfl
  | byt _ => obtain ⟨t, rfl⟩ := r; rfl
  | flt _ => obtain ⟨t, rfl⟩ := r; rfl
  | ref _ => cases r; rfl
  | ty _ => cases r; rfl
theorem RelV.inj {x y : V} {u : Value} (r : RelV x u) (q : RelV y u) : x = y := Option.some.inj (r.abs.symm.trans q.abs)
theorem Vals.inj : ∀ {xs ys : List V} {us : List Value}, Vals xs us → Vals ys us → xs = ys
  | _, _, _, .nil, .nil => rfl
  | _, _, _, .cons r t, .cons r' t' => by rw [r.inj r', Vals.inj t t']
section
variable {X : Cx} {pins : List (Addr × Obj)} {σ : St} {H : Hp} {s : Shared} {a : Addr} {xs ys : List V}
theorem SqL.of {K : PySem.W.Frag} (h : H a = some (.lst xs)) : SqL K H a xs := .inl (.inl h)
theorem SqT.of {K : PySem.W.Frag} (h : H a = some (.tup xs)) : SqT K H a xs := .inl (.inl h)
theorem Inv.list (I : Inv X pins σ H s) (h : SqL X.K H a xs) : ∃ its : List Value, Vals xs its ∧ PlainL s.heap a its.toArray ∧ xs.length ≤ sizeLine := by
  rcases h with h | ⟨o, its, n, hk, hc, hd, hs, hz, r⟩
  · obtain ⟨z, its, n, r, e⟩ := h.ok I.hok
    exact ⟨its, r, ⟨_, n, e, rfl, rfl, rfl⟩, z⟩
  · refine ⟨its.toList, r, ⟨o, n, I.kIn a o hk, hc, hd, by simpa using hs⟩, ?_⟩
    have e := r.length
    simp only [Array.length_toList] at e
    omega
theorem Inv.tuple (I : Inv X pins σ H s) (h : SqT X.K H a xs) : ∃ its : List Value, Vals xs its ∧ IsTup s.heap a its.toArray ∧ xs.length ≤ sizeLine := by
  rcases h with h | ⟨o, its, n, hk, hc, hs, hz, r⟩
  · obtain ⟨z, its, r, p⟩ := h.ok I.hok
    exact ⟨its, r, p, z⟩
  · refine ⟨its.toList, r, ⟨o, I.kIn a o hk, hc, n, by simpa using hs⟩, ?_⟩
    have e := r.length
    simp only [Array.length_toList] at e
    omega
theorem Inv.list_inj (I : Inv X pins σ H s) (h : SqL X.K H a xs) (h' : SqL X.K H a ys) : xs = ys := by
  obtain ⟨its, r, ⟨o, n, e, _, _, d⟩, _⟩ := I.list h
  obtain ⟨its', r', ⟨o', n', e', _, _, d'⟩, _⟩ := I.list h'
  rw [e] at e'; cases e'
  rw [d] at d'
  injection d' with d1 _
  have : its = its' := by simpa using congrArg Array.toList d1
  subst this
  exact r.inj r'
theorem Inv.tuple_inj (I : Inv X pins σ H s) (h : SqT X.K H a xs) (h' : SqT X.K H a ys) : xs = ys := by
  obtain ⟨its, r, ⟨o, e, _, n, d⟩, _⟩ := I.tuple h
  obtain ⟨its', r', ⟨o', e', _, n', d'⟩, _⟩ := I.tuple h'
  rw [e] at e'; cases e'
  rw [d] at d'
  injection d' with d1 _
  have : its = its' := by simpa using congrArg Array.toList d1
  subst this
  exact r.inj r'
end
abbrev Cx.wish (X : Cx) (E : Value → Shared → Prop) : Cx := { X with xe := E }
abbrev Cx.nox (X : Cx) : Cx := X.wish fun _ _ => False
theorem Cx.Ok.wish {X : Cx} (ok : X.Ok) (E : Value → Shared → Prop) : (X.wish E).Ok :=
  ⟨ok.mod, ok.kind, ok.glob, ok.blt, ok.above, ok.inj, ok.has, ok.cab, ok.hd, ok.frames, ok.stk, ok.exf, ok.bs, ok.bsz, ok.noex, ok.exfs, ok.funs, ok.frf⟩
theorem Cx.Ok.unwish {X : Cx} {E : Value → Shared → Prop} (ok : (X.wish E).Ok) : X.Ok :=
  ⟨ok.mod, ok.kind, ok.glob, ok.blt, ok.above, ok.inj, ok.has, ok.cab, ok.hd, ok.frames, ok.stk, ok.exf, ok.bs, ok.bsz, ok.noex, ok.exfs, ok.funs, ok.frf⟩
section
variable {X : Cx} {pins : List (Addr × Obj)} {σ : St} {H : Hp} {s : Shared} {E : Value → Shared → Prop}
theorem Inv.wish (I : Inv X pins σ H s) (E : Value → Shared → Prop) : Inv (X.wish E) pins σ H s := ⟨I.ok.wish E, I.os, I.bare, I.base, I.loc, I.cell, I.free, I.freeC, I.pin, I.hok, I.len⟩
theorem Inv.unwish (I : Inv (X.wish E) pins σ H s) : Inv X pins σ H s := ⟨I.ok.unwish, I.os, I.bare, I.base, I.loc, I.cell, I.free, I.freeC, I.pin, I.hok, I.len⟩
theorem SP.unwish {D : Ends} {f : Flow} {s' : Shared} (h : SP (X.wish E) pins D f s') : SP X pins D f s' := by
  cases f with
  | next => obtain ⟨σ', H', I, q⟩ := h; exact ⟨σ', H', I.unwish, q⟩
  | brk => obtain ⟨σ', H', I, q⟩ := h; exact ⟨σ', H', I.unwish, q⟩
  | cont => obtain ⟨σ', H', I, q⟩ := h; exact ⟨σ', H', I.unwish, q⟩
  | ret u => obtain ⟨v, σ', H', I, r, q⟩ := h; exact ⟨v, σ', H', I.unwish, r, q⟩
theorem PSs.nox {st : List Stmt} {t : TS} (h : PSs X.nox st t) : PSs X st t := fun pins s σ H D I hw =>
  wpAny_mono (h pins s σ H D (I.wish _) hw) (fun _ _ q => q.unwish) fun _ _ z => False.elim z
end
section
variable {X : Cx} {st : Stmt} {rest : List Stmt} {t u : TS} {e : Expr} {te : TE} {pos : Pos}
def tNext : TS := fun D σ H => D.nx σ H
def tSeq (t u : TS) : TS := fun D σ H => t { D with nx := u D } σ H
theorem pss_nil : PSs X [] tNext := fun _ _ σ H _ I h => wpAny_execs_nil ⟨σ, H, I, h⟩
theorem pss_cons (h1 : PS X st t) (h2 : PSs X rest u) : PSs X (st :: rest) (tSeq t u) := by
  intro pins s σ H D I h
  refine wpAny_execs_cons (thn (h1 pins s σ H { D with nx := u D } I h) fun f s1 q => ?_)
  cases f with
  | next =>
    obtain ⟨σ', H', I', q⟩ := q
    exact h2 pins s1 σ' H' D I' q
  | ret v => exact q
  | brk => exact q
  | cont => exact q
theorem pss_one (h1 : PS X st t) : PSs X [st] t := by
  intro pins s σ H D I h
  refine wpAny_execs_cons (thn (h1 pins s σ H D I h) fun f s1 q => ?_)
  cases f with
  | next => exact wpAny_execs_nil q
  | ret v => exact q
  | brk => exact q
  | cont => exact q
theorem Inv.quiet {pins : List (Addr × Obj)} {σ : St} {H : Hp} {s : Shared} (I : Inv X pins σ H s) : interactive X.env = false := by simp [interactive, I.ok.kind]
def tDrop (te : TE) : TS := fun D σ H => te σ H fun _ H1 => D.nx σ H1
theorem ps_expr (he : PE X e te) (hs : swapsWith e none pos.line X.env = pure false := by rfl) : PS X (.Expr e pos) (tDrop te) := by
  intro pins s σ H D I h
  exact wpAny_Expr_any (thn (he pins s σ H _ I h) fun v s1 ⟨x, H1, I1, r1, q1⟩ => ⟨σ, H1, I1, q1⟩) I.quiet hs
def tRet (te : TE) : TS := fun D σ H => te σ H D.rt
theorem ps_ret (he : PE X e te) : PS X (.Return (some e) pos) (tRet te) := by
  intro pins s σ H D I h
  exact wpAny_Return_some (thn (he pins s σ H _ I h) fun v s1 ⟨x, H1, I1, r1, q1⟩ => ⟨x, σ, H1, I1, r1, q1⟩)
def tIfS (c : TT) (t u : TS) : TS := fun D σ H => c σ H fun b H1 => if b = true then t D σ H1 else u D σ H1
theorem ps_if {c : Expr} {a b : List Stmt} {tc : TT} (hc : PT X c tc) (ha : PSs X a t) (hb : PSs X b u) : PS X (.If c a b pos) (tIfS tc t u) := by
  intro pins s σ H D I h
  refine wpAny_If (thn (hc pins s σ H _ I h) fun d s1 ⟨H1, I1, q1⟩ => ?_)
  cases d with
  | true => exact ha pins s1 σ H1 D I1 q1
  | false => exact hb pins s1 σ H1 D I1 q1
end
abbrev TG := V → St → Hp → (St → Hp → Prop) → Prop
abbrev TGs := List V → St → Hp → (St → Hp → Prop) → Prop
def PG (X : Cx) (target : Expr) (t : TG) : Prop :=
  ∀ (pins : List (Addr × Obj)) (s : Shared) (σ : St) (H : Hp) (v : V) (u : Value) (Q : St → Hp → Prop), Inv X pins σ H s → RelV v u → t v σ H Q →
    wpAny (model X.prog X.w) X.A (assign target X.env u) (fun _ s' => ∃ σ' H', Inv X pins σ' H' s' ∧ Q σ' H') X.xe s
def PGs (X : Cx) (ts : List Expr) (t : TGs) : Prop :=
  ∀ (pins : List (Addr × Obj)) (s : Shared) (σ : St) (H : Hp) (vs : List V) (us : List Value) (Q : St → Hp → Prop), Inv X pins σ H s → Vals vs us → t vs σ H Q →
    wpAny (model X.prog X.w) X.A (assignInOrder ((assignEach ts X.env).map (·.2)) us) (fun _ s' => ∃ σ' H', Inv X pins σ' H' s' ∧ Q σ' H') X.xe s
abbrev TSet := V → V → V → Hp → (Hp → Prop) → Prop
def PSet (X : Cx) (t : TSet) : Prop :=
  ∀ (pins : List (Addr × Obj)) (s : Shared) (σ : St) (H : Hp) (o i v : V) (ov iv u : Value) (Q : Hp → Prop), Inv X pins σ H s → RelV o ov → RelV i iv → RelV v u → t o i v H Q →
    wpAny (model X.prog X.w) X.A (setItem ov iv u) (fun _ s' => ∃ H', Inv X pins σ H' s' ∧ Q H') X.xe s
section
variable {X : Cx} {pos : Pos}
def gName (i : Nat) : TG := fun v σ H Q => Q (σ.set i (some v)) H
theorem pg_name {i : Nat} {x : Str} (hN : X.N.Nodup) (hi : X.N[i]? = some x) (hx : Loc X.env.scope x) (hf : X.fn x = true ∨ X.env.scope.names.lookup x = some .local := by first | exact .inl rfl | exact .inr rfl | assumption) : PG X (.Name x pos) (gName i) := by
  intro pins s σ H v u Q I r h
  exact wpAny_assign_Name (store_ok I hN hi hx r (fun s' I' => ⟨_, H, I', h⟩) hf)
def gNil : TGs := fun vs σ H Q => vs = [] ∧ Q σ H
def gCons (t : TG) (u : TGs) : TGs := fun vs σ H Q => ∃ v r, vs = v :: r ∧ t v σ H fun σ' H' => u r σ' H' Q
theorem pgs_nil : PGs X [] gNil := by
  intro pins s σ H vs us Q I r h
  obtain ⟨e, h⟩ := h
  subst e
  cases r
  exact assignInOrder_nil ⟨σ, H, I, h⟩
theorem pgs_cons {e : Expr} {es : List Expr} {t : TG} {u : TGs} (h1 : PG X e t) (h2 : PGs X es u)
    (hs : (assignEach (e :: es) X.env).map (·.2) = assign e X.env :: (assignEach es X.env).map (·.2) := by rfl) : PGs X (e :: es) (gCons t u) := by
  intro pins s σ H vs us Q I r h
  obtain ⟨v, vr, e1, h⟩ := h
  subst e1
  cases r with
  | cons r rr =>
    rw [hs]
    refine assignInOrder_cons (thn (h1 pins s σ H _ _ _ I r h) fun _ s1 ⟨σ1, H1, I1, q1⟩ => ?_)
    exact h2 pins s1 σ1 H1 _ _ Q I1 rr q1
def gTup (K : PySem.W.Frag) (n : Nat) (t : TGs) : TG := fun v σ H Q => ∃ a xs, v = .ref a ∧ SqT K H a xs ∧ xs.length = n ∧ t xs σ H Q
theorem pg_tup {es : List Expr} {k : Nat} {t : TGs} {n : Nat} (hc : X.calm = true) (h : PGs X es t)
    (hn : (assignEach es X.env).length = n := by rfl) (hst : (assignEach es X.env).findIdx? (·.1) = none := by rfl) : PG X (.Tuple es k pos) (gTup X.K n t) := by
  intro pins s σ H v u Q I r hw
  obtain ⟨a, xs, e1, hq, hl, hw⟩ := hw
  subst e1
  cases r
  obtain ⟨its, rv, ht, hz⟩ := I.tuple hq
  refine assign_Tuple_tuple (I.ok.hd hc) ht (by simp [hn, ← hl, rv.length]) hst fun h' hx => ?_
  have I1 : Inv X pins σ H { s with heap := h' } := I.kept (t' := s.toks) fun b o e => hx b o (Nat.ne_of_lt (Heap.lt_size e)) e
  exact h pins _ σ H xs _ Q I1 (by simpa using rv) hw
def gSub (to ti : TE) (t : TSet) : TG := fun v σ H Q => to σ H fun o H1 => ti σ H1 fun i H2 => t o i v H2 fun H3 => Q σ H3
theorem pg_sub {o i : Expr} {to ti : TE} {t : TSet} (ho : PE X o to) (hi : PE X i ti) (hs : PSet X t)
    (ha : ∀ v, assign (.Subscript o i pos) X.env v = (do
      let ov ← holding [v] (eval o X.env)
      let iv ← holding [v, ov] (eval i X.env)
      standAt pos
      holding [v, ov, iv] (setItem ov iv v)
      release [v, ov, iv] []) := by intro _; rfl) : PG X (.Subscript o i pos) (gSub to ti t) := by
  intro pins s σ H v u Q I r h
  rw [ha]
  refine wpAny_bind (wpAny_holding (thn (ho pins s σ H _ I h) fun ov s1 ⟨x, H1, I1, r1, q1⟩ => ?_))
  refine wpAny_bind (wpAny_holding (thn (hi pins s1 σ H1 _ I1 q1) fun iv s2 ⟨y, H2, I2, r2, q2⟩ => ?_))
  refine wpAny_bind (wpAny_standAt (wpAny_bind (wpAny_holding (thn (hs pins s2 σ H2 x y v ov iv u _ I2 r1 r2 r q2) fun _ s3 ⟨H3, I3, q3⟩ => ?_))))
  exact wpAny_release ⟨σ, H3, I3, q3⟩
def tAsg (te : TE) (g : TG) : TS := fun D σ H => te σ H fun x H1 => g x σ H1 D.nx
theorem ps_asg {tg e : Expr} {te : TE} {g : TG} (he : PE X e te) (hg : PG X tg g) (hs : swapsWithSole [tg] e pos.line X.env = pure false := by rfl) (hw : swappedStores [tg] e X.env = pure none := by rfl)
    (h1 : (assignEach [tg] X.env).map (·.2) = [assign tg X.env] := by rfl) : PS X (.Assign [tg] e pos) (tAsg te g) := by
  intro pins s σ H D I h
  refine wpAny_Assign_stores (thn (he pins s σ H _ I h) fun v s1 ⟨x, H1, I1, r1, q1⟩ => ?_) hs hw
  rw [h1]
  exact thn (hg pins s1 σ H1 x v _ I1 r1 q1) fun _ s2 q => q
theorem ps_set {i : Nat} {x : Str} {e : Expr} {te : TE} {pos' : Pos} (hN : X.N.Nodup) (hi : X.N[i]? = some x) (hx : Loc X.env.scope x) (he : PE X e te) (hs : swapsWith e (some (.Name x pos')) pos.line X.env = pure false := by rfl) (hf : X.fn x = true ∨ X.env.scope.names.lookup x = some .local := by first | exact .inl rfl | exact .inr rfl | assumption) :
    PS X (.Assign [.Name x pos'] e pos) (tAsg te (gName i)) := by
  intro pins s σ H D I h
  refine wpAny_Assign_Name (thn (he pins s σ H _ I h) fun v s1 ⟨y, H1, I1, r1, q1⟩ => ?_) hs
  exact store_ok I1 hN hi hx r1 (fun s2 I2 => ⟨_, H1, I2, q1⟩) hf
end
section
variable {X : Cx} {pos : Pos}
def tWhile (c : TT) (tb : TS) : TS := fun D σ H => ∃ W : Nat → St → Hp → Prop, (∃ m, W m σ H) ∧ ∀ m σ H, W m σ H →
  c σ H fun b H1 => if b = true then ∃ N : St → Hp → Prop, (∀ σ' H', N σ' H' → ∃ m', m' < m ∧ W m' σ' H') ∧ tb { D with nx := N, ct := N, bk := D.nx } σ H1 else D.nx σ H1
theorem ps_while {c : Expr} {body : List Stmt} {tc : TT} {tb : TS} (hp : PassesOwn (model X.prog X.w) X.A X.env X.xe) (hc : PT X c tc) (hb : PSs X body tb) : PS X (.While c body [] pos) (tWhile tc tb) := by
  intro pins s σ H D I h
  obtain ⟨W, ⟨m0, w0⟩, turn⟩ := h
  refine wpAny_While (codeAny_whileLoop (fun n s' => ∃ σ' H', Inv X pins σ' H' s' ∧ W n σ' H') ?_ m0 ⟨σ, H, I, w0⟩)
  rintro n s1 ⟨σ1, H1, I1, w1⟩
  refine wpAny_passesOwn hp (thn (hc pins s1 σ1 H1 _ I1 (turn n σ1 H1 w1)) fun b s2 ⟨H2, I2, q2⟩ => ?_)
  cases b with
  | true =>
    obtain ⟨N, hN, q2⟩ := q2
    rw [if_pos rfl]
    refine wpAny_passesOwn hp (thn (hb pins s2 σ1 H2 _ I2 q2) fun f s3 q3 => ?_)
    cases f with
    | next =>
      obtain ⟨σ3, H3, I3, n3⟩ := q3
      obtain ⟨m', hm, w3⟩ := hN σ3 H3 n3
      exact ⟨m', hm, σ3, H3, I3, w3⟩
    | cont =>
      obtain ⟨σ3, H3, I3, n3⟩ := q3
      obtain ⟨m', hm, w3⟩ := hN σ3 H3 n3
      exact ⟨m', hm, σ3, H3, I3, w3⟩
    | brk => exact q3
    | ret v => exact q3
  | false =>
    rw [if_neg Bool.false_ne_true]
    exact wpAny_execs_nil ⟨σ1, H2, I2, q2⟩
end
structure It where
  go : Nat → Hp → Prop
  yld : Nat → Hp → V → Hp → Prop
  stop : Nat → Hp → Prop
def FpOk (X : Cx) (pins : List (Addr × Obj)) (H : Hp) (b : Addr) : Prop :=
  H b = none ∧ b ≠ X.env.locals ∧ b ∉ X.fs ∧ (b ∈ X.ex ∨ X.s₀.heap.objs.size ≤ b) ∧ (∀ x c, X.env.cells.lookup x = some c → c ≠ b) ∧ ∀ p ∈ X.pn ++ pins, p.1 ≠ b
theorem Inv.fpOk {X : Cx} {pins : List (Addr × Obj)} {σ : St} {H H' : Hp} {s : Shared} {b : Addr} (I : Inv X pins σ H s) (hb : s.heap.objs.size ≤ b) (hn : H' b = none) : FpOk X pins H' b := by
  refine ⟨hn, Nat.ne_of_gt (Nat.lt_of_lt_of_le I.lt hb), I.nofs hb, .inr (Nat.le_trans I.sz hb), fun x c e z => ?_, fun p hp z => ?_⟩
  · obtain ⟨v, q⟩ := I.cell x c e
    exact absurd (Nat.lt_of_lt_of_le q.lt (by rw [z]; exact hb)) (Nat.lt_irrefl _)
  · exact absurd (Nat.lt_of_lt_of_le (Heap.lt_size (I.pin p hp).1) (by rw [z]; exact hb)) (Nat.lt_irrefl _)
structure Turn (P : Program) (w : World) (K : PySem.W.Frag) (tg : Expr) (J : It) (fp : List Addr) (it : Addr) (tn : Nat → Heap → Prop) : Prop where
  mem : it ∈ fp
  obj : ∀ i h, tn i h → ∀ b ∈ fp, ∃ o, h.get? b = some o ∧ ∀ v, o.data ≠ .cell v
  keep : ∀ i h h', tn i h → (∀ b ∈ fp, ∀ o, h.get? b = some o → h'.get? b = some o) → tn i h'
  item : ∀ (X : Cx), X.prog = P → X.w = w → X.K = K → X.calm = true → ∀ (i : Nat) (pins : List (Addr × Obj)) (s : Shared) (σ : St) (H : Hp) (E : Value → Shared → Prop), Inv X pins σ H s → (∀ b ∈ fp, FpOk X pins H b) → tn i s.heap → J.go i H →
    wpAny (model P w) X.A (pyNext (.ref it)) (fun r s1 => ∃ u, r = some u ∧
      wpAny (model P w) X.A (letOwnedTupleGo tg (.ref it) u) (fun _ s2 => ∃ x H', Inv X pins σ H' s2 ∧ RelV x u ∧ J.yld i H x H' ∧ tn (i + 1) s2.heap ∧ ∀ b ∈ fp, H' b = none) E s1) E s
  done : ∀ (X : Cx), X.prog = P → X.w = w → X.K = K → X.calm = true → ∀ (i : Nat) (pins : List (Addr × Obj)) (s : Shared) (σ : St) (H : Hp) (E : Value → Shared → Prop), Inv X pins σ H s → (∀ b ∈ fp, FpOk X pins H b) → tn i s.heap → J.stop i H →
    wpAny (model P w) X.A (pyNext (.ref it)) (fun r s1 => r = none ∧ Inv X pins σ H s1) E s
  self : ∀ (A : Around) (i : Nat) (s : Shared) (Q : Value → Shared → Prop) (E : Value → Shared → Prop), tn i s.heap → Q (.ref it) s → wpAny (model P w) A (pyIter (.ref it)) Q E s
abbrev TI := St → Hp → (It → Hp → Prop) → Prop
def PIE (X : Cx) (pins : List (Addr × Obj)) (σ : St) (tg : Expr) (R : It → Hp → Prop) (itv : Value) (s2 : Shared) : Prop :=
  ∃ (it : Addr) (fp : List Addr) (tn : Nat → Heap → Prop) (J : It) (H' : Hp), itv = .ref it ∧ Inv X pins σ H' s2 ∧ Turn X.prog X.w X.K tg J fp it tn ∧ tn 0 s2.heap ∧ (∀ b ∈ fp, FpOk X pins H' b) ∧ R J H'
def PI (X : Cx) (tg iter : Expr) (wi : TI) : Prop :=
  ∀ (pins : List (Addr × Obj)) (s : Shared) (σ : St) (H : Hp) (R : It → Hp → Prop), Inv X pins σ H s → wi σ H R →
    wpAny (model X.prog X.w) X.A (eval iter X.env) (fun v s1 => wpAny (model X.prog X.w) X.A (pyIter v) (PIE X pins σ tg R) X.xe s1) X.xe s
theorem go_of {M : Model} {A : Around} {E : Value → Shared → Prop} {s : Shared} {tg : Expr} {it : Addr} {u : Value} {o : Obj} {n : String} {vs : Array Value} {Q : Unit → Shared → Prop} (ho : s.heap.get? it = some o) (hc : o.cls = .type n) (hd : o.data = .fields vs)
    (hn : ["enumerate", "zip", "dict_itemiterator", "dict_reverseitemiterator", "odict_iterator", "itertools.zip_longest", "itertools.pairwise"].contains n = false) (hQ : Q () s) : wpAny M A (letOwnedTupleGo tg (.ref it) u) Q E s := by
  unfold letOwnedTupleGo
  cases tg <;> first
    | exact wpAny_pure hQ
    | (cases u <;> first
        | exact wpAny_pure hQ
        | (refine wpAny_bind (wpAny_load ho ?_)
           rw [hc, hd]
           show wpAny M A (if (["enumerate", "zip", "dict_itemiterator", "dict_reverseitemiterator", "odict_iterator", "itertools.zip_longest", "itertools.pairwise"].contains n && vs[0]? == some (rawInt _)) = true then _ else _) Q E s
           rw [if_neg (by intro h; rw [hn, Bool.false_and] at h; cases h)]
           exact wpAny_pure hQ))
def Itl (K : PySem.W.Frag) (a : Addr) : It :=
  ⟨fun i H => ∃ xs x, SqL K H a xs ∧ xs[i]? = some x, fun i H x H' => H' = H ∧ ∀ xs, SqL K H a xs → xs[i]? = some x, fun i H => ∃ xs, SqL K H a xs ∧ xs.length ≤ i⟩
def Itt (K : PySem.W.Frag) (a : Addr) : It :=
  ⟨fun i H => ∃ xs x, SqT K H a xs ∧ xs[i]? = some x, fun i H x H' => H' = H ∧ ∀ xs, SqT K H a xs → xs[i]? = some x, fun i H => ∃ xs, SqT K H a xs ∧ xs.length ≤ i⟩
def Itr (lo : Int) (n : Nat) : It := ⟨fun i _ => i < n, fun i H x H' => H' = H ∧ x = .int (lo + i), fun i _ => n ≤ i⟩
theorem turn_list {P : Program} {w : World} {K : PySem.W.Frag} {tg : Expr} (a it : Addr) : Turn P w K tg (Itl K a) [it] it (fun i h => h.IsListIter it a i) where
  mem := by simp
  obj := fun i h st b hb => by
    have e : b = it := by simpa using hb
    subst e
    obtain ⟨o, e, c, d⟩ := st
    exact ⟨o, e, fun v z => by rw [d] at z; cases z⟩
  keep := fun i h h' st k => st.at fun o e => k it (by simp) o e
  item := by
    intro X hP hw hK hc i pins s σ H E I hf st hg
    subst hP hw hK
    obtain ⟨xs, x, hq, hx⟩ := hg
    obtain ⟨its, rv, p, hz⟩ := I.list hq
    obtain ⟨u, hu, ru⟩ := rv.get hx
    obtain ⟨f0, f1, f2, f3, f4, f5⟩ := hf it (by simp)
    refine wpAny_pyNext_list_item st p.isList (x := u) (by simpa using hu) fun h' st' sb => ?_
    have I1 : Inv X pins σ H { s with heap := h' } := I.turned (t' := s.toks) (fun b o hb e => (sb.2 b hb).trans e) f0 f1 f3 f4 f5
    obtain ⟨o, e, c, d⟩ := id st'
    exact ⟨u, rfl, go_of (s := { s with heap := h' }) e c d (by decide) ⟨x, H, I1, ru, ⟨rfl, fun ys hy => by rw [I.list_inj hy hq]; exact hx⟩, st', fun b hb => (hf b hb).1⟩⟩
  done := by
    intro X hP hw hK hc i pins s σ H E I hf st hg
    subst hP hw hK
    obtain ⟨xs, hq, hx⟩ := hg
    obtain ⟨its, rv, p, hz⟩ := I.list hq
    obtain ⟨f0, f1, f2, f3, f4, f5⟩ := hf it (by simp)
    have hl := rv.length
    exact wpAny_pyNext_list_end (I.ok.hd hc) st p.isList (by simp; omega) fun h' eb => ⟨rfl, I.turned (t' := s.toks) (fun b o hb e => eb b o hb e) f0 f1 f3 f4 f5⟩
  self := fun _ _ _ _ _ st h => wpAny_pyIter_listiter st h
theorem turn_tuple {P : Program} {w : World} {K : PySem.W.Frag} {tg : Expr} (a it : Addr) : Turn P w K tg (Itt K a) [it] it (fun i h => h.IsTupleIter it a i) where
  mem := by simp
  obj := fun i h st b hb => by
    have e : b = it := by simpa using hb
    subst e
    obtain ⟨o, e, c, d⟩ := st
    exact ⟨o, e, fun v z => by rw [d] at z; cases z⟩
  keep := fun i h h' st k => st.at fun o e => k it (by simp) o e
  item := by
    intro X hP hw hK hc i pins s σ H E I hf st hg
    subst hP hw hK
    obtain ⟨xs, x, hq, hx⟩ := hg
    obtain ⟨its, rv, p, hz⟩ := I.tuple hq
    obtain ⟨u, hu, ru⟩ := rv.get hx
    obtain ⟨f0, f1, f2, f3, f4, f5⟩ := hf it (by simp)
    refine wpAny_pyNext_tuple_item st (show s.heap.IsTuple a its.toArray from p) (x := u) (by simpa using hu) fun h' st' sb => ?_
    have I1 : Inv X pins σ H { s with heap := h' } := I.turned (t' := s.toks) (fun b o hb e => (sb.2 b hb).trans e) f0 f1 f3 f4 f5
    obtain ⟨o, e, c, d⟩ := id st'
    exact ⟨u, rfl, go_of (s := { s with heap := h' }) e c d (by decide) ⟨x, H, I1, ru, ⟨rfl, fun ys hy => by rw [I.tuple_inj hy hq]; exact hx⟩, st', fun b hb => (hf b hb).1⟩⟩
  done := by
    intro X hP hw hK hc i pins s σ H E I hf st hg
    subst hP hw hK
    obtain ⟨xs, hq, hx⟩ := hg
    obtain ⟨its, rv, p, hz⟩ := I.tuple hq
    obtain ⟨f0, f1, f2, f3, f4, f5⟩ := hf it (by simp)
    have hl := rv.length
    exact wpAny_pyNext_tuple_end (I.ok.hd hc) st (show s.heap.IsTuple a its.toArray from p) (by simp; omega) fun h' eb => ⟨rfl, I.turned (t' := s.toks) (fun b o hb e => eb b o hb e) f0 f1 f3 f4 f5⟩
  self := fun _ _ _ _ _ st h => wpAny_pyIter_tupleiter st h
theorem turn_range {P : Program} {w : World} {K : PySem.W.Frag} {tg : Expr} (it : Addr) (lo : Int) (n : Nat) : Turn P w K tg (Itr lo n) [it] it (fun i h => IsRangeIter h it (lo + (i : Nat) * 1) ((n : Int) - (i : Nat)) 1) where
  mem := by simp
  obj := fun i h st b hb => by
    have e : b = it := by simpa using hb
    subst e
    exact ⟨_, st, fun v z => by
      have z' : Data.fields _ = Data.cell v := z
      cases z'⟩
  keep := fun i h h' st k => k it (by simp) _ st
  item := by
    intro X hP hw hK hc i pins s σ H E I hf st hg
    subst hP hw hK
    obtain ⟨f0, f1, f2, f3, f4, f5⟩ := hf it (by simp)
    have W := Walks.range (prog := X.prog) (w := X.w) (I.ok.hd hc) it lo 1 n
    refine W.item i s _ _ hg st fun v h' tk hv st' kk => ?_
    obtain ⟨t, rfl⟩ := hv
    have I1 : Inv X pins σ H { s with heap := h', toks := tk } := I.turned (fun b o hb e => kk b o (by simpa using hb) e) f0 f1 f3 f4 f5
    refine ⟨_, rfl, go_of (s := { s with heap := h', toks := tk }) (n := "range_iterator") st' rfl rfl (by decide) ⟨.int (lo + i), H, I1, ⟨t, ?_⟩, ⟨rfl, rfl⟩, st', fun b hb => (hf b hb).1⟩⟩
    rw [Int.mul_one]
  done := by
    intro X hP hw hK hc i pins s σ H E I hf st hg
    subst hP hw hK
    obtain ⟨f0, f1, f2, f3, f4, f5⟩ := hf it (by simp)
    exact wpAny_pyNext_range_end (I.ok.hd hc) st (by have : n ≤ i := hg; omega) fun h' eb => ⟨rfl, I.turned (t' := s.toks) (fun b o hb e => eb b o hb e) f0 f1 f3 f4 f5⟩
  self := fun _ _ _ _ _ st h => wpAny_pyIter_rangeiter st h
end L2
namespace L2
open PySem PySem.Spec PyProof.Rows
section
variable {X : Cx} {tg : Expr}
theorem range_it {pins : List (Addr × Obj)} {σ : St} {H : Hp} {s : Shared} {R : It → Hp → Prop} {E : Value → Shared → Prop} {lo hi : Int} {t u v : Tok} {tk : Nat} (I : Inv X pins σ H s) (h1 : -(2 ^ 62) ≤ lo) (h2 : lo < 2 ^ 62) (h3 : -(2 ^ 62) ≤ hi) (h4 : hi < 2 ^ 62)
    (q : R (Itr lo (hi - lo).toNat) H) : wpAny (model X.prog X.w) X.A (pyIter (.ref s.heap.objs.size)) (PIE X pins σ tg R) E { s with heap := s.heap.push { cls := .type "range", data := .fields #[.int lo t, .int hi u, .int 1 v] }, toks := tk } := by
  refine wpAny_pyIter_range (IsRange.new ..) (small_one h1 h2 h3 h4) ?_
  have I1 : Inv X pins σ H { s with heap := s.heap.push { cls := .type "range", data := .fields #[.int lo t, .int hi u, .int 1 v] }, toks := tk } := I.kept fun b o e => Heap.get?_push_of_some _ e
  refine ⟨(s.heap.push { cls := .type "range", data := .fields #[.int lo t, .int hi u, .int 1 v] }).objs.size, [(s.heap.push { cls := .type "range", data := .fields #[.int lo t, .int hi u, .int 1 v] }).objs.size], _, _, H, rfl,
    I1.kept (t' := tk) fun b o e => Heap.get?_push_of_some _ e, turn_range _ lo (hi - lo).toNat, ?_, fun b hb => ?_, q⟩
  · have e1 : lo + ((0 : Nat) : Int) * 1 = lo := by simp
    have e2 : (((hi - lo).toNat : Nat) : Int) - ((0 : Nat) : Int) = Builtin.Range.rangeSize lo hi 1 := by rw [rangeSize_one]; split <;> omega
    show IsRangeIter _ _ (lo + ((0 : Nat) : Int) * 1) ((((hi - lo).toNat : Nat) : Int) - ((0 : Nat) : Int)) 1
    rw [e1, e2]
    exact Heap.get?_push_size _ rfl
  · have e : b = (s.heap.push { cls := .type "range", data := .fields #[.int lo t, .int hi u, .int 1 v] }).objs.size := by simpa using hb
    subst e
    exact I1.fpOk (Nat.le_refl _) (I1.hok.fresh (Nat.le_refl _))
def iRng1 (ta : TA) : TI := fun σ H R => ta σ H fun vs H1 => ∃ j : Int, vs = [.int j] ∧ -(2 ^ 62) ≤ j ∧ j < 2 ^ 62 ∧ R (Itr 0 j.toNat) H1
theorem pi_range1 {a : Expr} {ta : TA} {p pos : Pos} (hg : Gl X "range") (hm : X.mg "range" = none) (ha : PA X [a] ta) (hs : starEach [a] X.env = [(false, eval a X.env)] := by rfl) : PI X tg (.Call (.Name "range" p) [a] [] pos) (iRng1 ta) := by
  intro pins s σ H R I h
  refine Call_ (ld_blt I hg hm boot_range (PyProof.Rows.callWith_type1 (thn (ha pos pins s σ H _ I h) fun us s1 ⟨vs, H1, I1, r1, q1⟩ => ?_) hs rfl))
  obtain ⟨j, e, q1, q2, q⟩ := q1
  subst e
  cases r1 with
  | cons r rr =>
    cases rr
    obtain ⟨t, rfl⟩ := r
    exact call_range_1 (range_it I1 (by omega) (by omega) q1 q2 (by simpa using q))
def tFor (wi : TI) (g : TG) (tb : TS) : TS := fun D σ H => wi σ H fun J H1 => ∃ W : Nat → Nat → St → Hp → Prop, (∃ m, W 0 m σ H1) ∧ ∀ i m σ H, W i m σ H →
  (J.stop i H ∧ D.nx σ H) ∨ (J.go i H ∧ ∃ N : St → Hp → Prop, (∀ σ' H', N σ' H' → ∃ m', m' < m ∧ W (i + 1) m' σ' H') ∧ ∀ x H', J.yld i H x H' → g x σ H' fun σ2 H2 => tb { D with nx := N, ct := N, bk := D.nx } σ2 H2)
def pinsAt (fp : List Addr) (h : Heap) : List (Addr × Obj) := fp.filterMap fun b => (h.get? b).map fun o => (b, o)
theorem mem_pinsAt {fp : List Addr} {h : Heap} {b : Addr} {o : Obj} (hb : b ∈ fp) (e : h.get? b = some o) : (b, o) ∈ pinsAt fp h := List.mem_filterMap.mpr ⟨b, hb, by rw [e]; rfl⟩
theorem of_pinsAt {fp : List Addr} {h : Heap} {p : Addr × Obj} (hp : p ∈ pinsAt fp h) : p.1 ∈ fp ∧ h.get? p.1 = some p.2 := by
  obtain ⟨b, hb, e⟩ := List.mem_filterMap.mp hp
  cases q : h.get? b with
  | none => rw [q] at e; cases e
  | some o =>
    rw [q] at e
    have e' : (b, o) = p := Option.some.inj e
    subst e'
    exact ⟨hb, q⟩
theorem Inv.pinned {pins : List (Addr × Obj)} {σ : St} {H : Hp} {s : Shared} {fp : List Addr} (I : Inv X pins σ H s) (hf : ∀ b ∈ fp, FpOk X pins H b) (ho : ∀ b ∈ fp, ∃ o, s.heap.get? b = some o ∧ ∀ v, o.data ≠ .cell v) : Inv X (pins ++ pinsAt fp s.heap) σ H s :=
  I.pins_of fun p hp => (List.mem_append.mp hp).elim (fun z => I.pin p (List.mem_append_right _ z)) fun z => by
    obtain ⟨hb, e⟩ := of_pinsAt z
    obtain ⟨f0, f1, f2, _⟩ := hf p.1 hb
    obtain ⟨o, e', d⟩ := ho p.1 hb
    rw [e] at e'; cases e'
    exact ⟨e, f0, f1, f2, d⟩
theorem Inv.unpinned {pins pl : List (Addr × Obj)} {σ : St} {H : Hp} {s : Shared} (I : Inv X (pins ++ pl) σ H s) : Inv X pins σ H s := I.pins_of fun p hp => I.pin p (List.mem_append_right _ (List.mem_append_left _ hp))
theorem ps_for {iter : Expr} {body : List Stmt} {wi : TI} {g : TG} {tb : TS} {pos : Pos} (hp : PassesOwn (model X.prog X.w) X.A X.env X.xe) (hc : X.calm = true) (hi : PI X tg iter wi) (hg : PG X tg g) (hb : PSs X body tb)
    (hs : ∀ x, foldedSetIterable iter X.env x = pure x := by intro _; rfl) : PS X (.For tg iter body [] pos) (tFor wi g tb) := by
  intro pins s σ H D I h
  refine wpAny_For (thn (hi pins s σ H _ I h) fun v s1 h1 => thn h1 fun itv s2 h2 => ?_) hs
  obtain ⟨it, fp, tn, J, H2, e, I2, T, st2, f2, W, ⟨m0, w0⟩, turn⟩ := h2
  subst e
  have stat : ∀ {H' : Hp}, (∀ b ∈ fp, H' b = none) → ∀ b ∈ fp, FpOk X pins H' b := fun hn b hb => ⟨hn b hb, (f2 b hb).2⟩
  refine codeAny_forLoop_any (fun n s' => ∃ i σ' H', Inv X pins σ' H' s' ∧ tn i s'.heap ∧ (∀ b ∈ fp, H' b = none) ∧ W i n σ' H') ?_ m0 ⟨0, σ, H2, I2, st2, fun b hb => (f2 b hb).1, w0⟩
  rintro n s3 ⟨i, σ3, H3, I3, st3, fr3, w3⟩
  rcases turn i n σ3 H3 w3 with ⟨stop, qn⟩ | ⟨go, N, hN, step⟩
  · refine wpAny_passesOwn hp (thn (T.done X rfl rfl rfl hc i pins s3 σ3 H3 X.xe I3 (stat fr3) st3 stop) fun r s4 ⟨hr, I4⟩ => ?_)
    subst hr
    exact wpAny_execs_nil ⟨σ3, H3, I4, qn⟩
  · refine wpAny_passesOwn hp (thn (T.item X rfl rfl rfl hc i pins s3 σ3 H3 X.xe I3 (stat fr3) st3 go) fun r s4 ⟨u, hr, h4⟩ => ?_)
    subst hr
    refine wpAny_passesOwn hp (thn h4 fun _ s5 ⟨x, H5, I5, r5, y5, st5, fr5⟩ => ?_)
    have I5' := I5.pinned (stat fr5) (T.obj _ _ st5)
    refine wpAny_passesOwn hp (thn (hg _ s5 σ3 H5 x u _ I5' r5 (step x H5 y5)) fun _ s6 ⟨σ6, H6, I6, q6⟩ => ?_)
    refine wpAny_passesOwn hp (thn (hb _ s6 σ6 H6 _ I6 q6) fun f s7 q7 => ?_)
    have again : ∀ {σ7 : St} {H7 : Hp}, Inv X (pins ++ pinsAt fp s5.heap) σ7 H7 s7 → N σ7 H7 → ∃ m, m < n ∧ ∃ i σ' H', Inv X pins σ' H' s7 ∧ tn i s7.heap ∧ (∀ b ∈ fp, H' b = none) ∧ W i m σ' H' := fun {σ7 H7} I7 n7 => by
      obtain ⟨m', hm, w7⟩ := hN σ7 H7 n7
      refine ⟨m', hm, i + 1, σ7, H7, I7.unpinned, T.keep _ _ _ st5 fun b hb o e => (I7.pin (b, o) (List.mem_append_right _ (List.mem_append_right _ (mem_pinsAt hb e)))).1, fun b hb => ?_, w7⟩
      obtain ⟨o, e, d⟩ := T.obj _ _ st5 b hb
      exact (I7.pin (b, o) (List.mem_append_right _ (List.mem_append_right _ (mem_pinsAt hb e)))).2.1
    cases f with
    | next => obtain ⟨σ7, H7, I7, n7⟩ := q7; exact again I7 n7
    | cont => obtain ⟨σ7, H7, I7, n7⟩ := q7; exact again I7 n7
    | brk => obtain ⟨σ7, H7, I7, q7⟩ := q7; exact ⟨σ7, H7, I7.unpinned, q7⟩
    | ret v => obtain ⟨x7, σ7, H7, I7, r7, q7⟩ := q7; exact ⟨x7, σ7, H7, I7.unpinned, r7, q7⟩
end
end L2
namespace L2
open PySem PySem.Spec PyProof.Rows
abbrev R2 := V → V → Hp → VK → Prop
def OpR (X : Cx) (f : Value → Value → Sem Value) (r : R2) : Prop :=
  ∀ (pins : List (Addr × Obj)) (s : Shared) (σ : St) (H : Hp) (x y : V) (v u : Value) (Q : VK), Inv X pins σ H s → RelV x v → RelV y u → r x y H Q →
    wpAny (model X.prog X.w) X.A (f v u) (EP X pins σ Q) X.xe s
def UnR (X : Cx) (f : Value → Sem Value) (r : V → Hp → VK → Prop) : Prop :=
  ∀ (pins : List (Addr × Obj)) (s : Shared) (σ : St) (H : Hp) (x : V) (v : Value) (Q : VK), Inv X pins σ H s → RelV x v → r x H Q →
    wpAny (model X.prog X.w) X.A (f v) (EP X pins σ Q) X.xe s
def CallR (X : Cx) (f : Value) (r : List V → Hp → VK → Prop) : Prop :=
  ∀ (pins : List (Addr × Obj)) (s : Shared) (σ : St) (H : Hp) (xs : List V) (us : List Value) (Q : VK), Inv X pins σ H s → Vals xs us → r xs H Q →
    wpAny (model X.prog X.w) X.A (call f us) (EP X pins σ Q) X.xe s
def TruR (X : Cx) (r : V → Hp → (Bool → Hp → Prop) → Prop) : Prop :=
  ∀ (pins : List (Addr × Obj)) (s : Shared) (σ : St) (H : Hp) (x : V) (v : Value) (Q : Bool → Hp → Prop), Inv X pins σ H s → RelV x v → r x H Q →
    wpAny (model X.prog X.w) X.A (truthy v) (TP X pins σ Q) X.xe s
def tOp (r : R2) (ta tb : TE) : TE := fun σ H Q => ta σ H fun x H1 => tb σ H1 fun y H2 => r x y H2 Q
def tUn (r : V → Hp → VK → Prop) (ta : TE) : TE := fun σ H Q => ta σ H fun x H1 => r x H1 Q
def rI (C : Int → Int → Prop) (g : Int → Int → V) : R2 := fun x y H Q => ∃ i j, x = .int i ∧ y = .int j ∧ C i j ∧ Q (g i j) H
def rI0 (g : Int → Int → V) : R2 := fun x y H Q => ∃ i j, x = .int i ∧ y = .int j ∧ Q (g i j) H
def rU (g : Int → V) : V → Hp → VK → Prop := fun x H Q => ∃ i, x = .int i ∧ Q (g i) H
section
variable {X : Cx} {a b c : Expr} {ta tb tc : TE} {pos : Pos}
theorem binT (ha : PE X a ta) (hb : PE X b tb) {pins : List (Addr × Obj)} {s : Shared} {σ : St} {H : Hp} {R : V → V → Hp → Prop} (I : Inv X pins σ H s)
    (h : ta σ H fun x H1 => tb σ H1 fun y H2 => R x y H2) {Q : Value → Shared → Prop} {f : Value → Value → Sem Value}
    (hf : ∀ v u s2 x y H2, Inv X pins σ H2 s2 → RelV x v → RelV y u → R x y H2 → wpAny (model X.prog X.w) X.A (f v u) Q X.xe s2) :
    wpAny (model X.prog X.w) X.A (eval a X.env) (fun v s₁ => wpAny (model X.prog X.w) X.A (eval b X.env) (fun u s₂ => wpAny (model X.prog X.w) X.A (f v u) Q X.xe s₂) X.xe s₁) X.xe s := by
  refine thn (ha pins s σ H _ I h) fun v s1 ⟨x, H1, I1, r1, q1⟩ => ?_
  refine thn (hb pins s1 σ H1 _ I1 q1) fun u s2 ⟨y, H2, I2, r2, q2⟩ => ?_
  exact hf v u s2 x y H2 I2 r1 r2 q2
theorem pe_op {op : Operator} {r : R2} (ho : OpR X (binaryOp op) r) (ha : PE X a ta) (hb : PE X b tb) : PE X (.BinOp a op b pos) (tOp r ta tb) := by
  intro pins s σ H Q I h
  exact wpAny_BinOp (binT ha hb I h fun v u s2 x y H2 I2 rx ry q => ho pins s2 σ H2 x y v u Q I2 rx ry q)
theorem pe_un {op : UnaryOp} {r : V → Hp → VK → Prop} (ho : UnR X (unaryOp op) r) (ha : PE X a ta) : PE X (.UnaryOp op a pos) (tUn r ta) := by
  intro pins s σ H Q I h
  exact UnaryOp_ (thn (ha pins s σ H _ I h) fun v s1 ⟨x, H1, I1, r1, q1⟩ => ho pins s1 σ H1 x v Q I1 r1 q1)
theorem opI {f : Value → Value → Sem Value} {C : Int → Int → Prop} {g : Int → Int → Int}
    (rule : ∀ (i j : Int) (t u : Tok) (s : Shared) (Q : Value → Shared → Prop) (E : Value → Shared → Prop), C i j → Q (.int (g i j) s.toks) { s with toks := s.toks + 1 } → wpAny (model X.prog X.w) X.A (f (.int i t) (.int j u)) Q E s) :
    OpR X f (rI C fun i j => .int (g i j)) := by
  intro pins s σ H x y v u Q I rx ry h
  obtain ⟨i, j, rfl, rfl, hc, q⟩ := h
  obtain ⟨t, rfl⟩ := rx
  obtain ⟨t', rfl⟩ := ry
  exact rule i j t t' s _ _ hc ⟨.int (g i j), H, I.tok _, ⟨_, rfl⟩, q⟩
theorem opI0 {f : Value → Value → Sem Value} {g : Int → Int → Int}
    (rule : ∀ (i j : Int) (t u : Tok) (s : Shared) (Q : Value → Shared → Prop) (E : Value → Shared → Prop), Q (.int (g i j) s.toks) { s with toks := s.toks + 1 } → wpAny (model X.prog X.w) X.A (f (.int i t) (.int j u)) Q E s) :
    OpR X f (rI0 fun i j => .int (g i j)) := by
  intro pins s σ H x y v u Q I rx ry h
  obtain ⟨i, j, rfl, rfl, q⟩ := h
  obtain ⟨t, rfl⟩ := rx
  obtain ⟨t', rfl⟩ := ry
  exact rule i j t t' s _ _ ⟨.int (g i j), H, I.tok _, ⟨_, rfl⟩, q⟩
theorem opB0 {f : Value → Value → Sem Value} {g : Int → Int → Bool}
    (rule : ∀ (i j : Int) (t u : Tok) (s : Shared) (Q : Value → Shared → Prop) (E : Value → Shared → Prop), Q (.bool (g i j)) s → wpAny (model X.prog X.w) X.A (f (.int i t) (.int j u)) Q E s) :
    OpR X f (rI0 fun i j => .bl (g i j)) := by
  intro pins s σ H x y v u Q I rx ry h
  obtain ⟨i, j, rfl, rfl, q⟩ := h
  obtain ⟨t, rfl⟩ := rx
  obtain ⟨t', rfl⟩ := ry
  exact rule i j t t' s _ _ ⟨.bl (g i j), H, I, rfl, q⟩
def CPow (i j : Int) : Prop := 0 ≤ j ∧ j ≤ 1000000 ∧ i.natAbs < 2 ^ 64
def CMul (i j : Int) : Prop := (-(2 ^ 64) < i ∧ i < 2 ^ 64) ∨ (-(2 ^ 64) < j ∧ j < 2 ^ 64)
theorem CMul.ok {i j : Int} (h : CMul i j) : IntMulOk i j := by
  rcases h with ⟨h1, h2⟩ | ⟨h1, h2⟩
  · exact .of_left (intBits_le_64 h1 h2)
  · exact .of_right (intBits_le_64 h1 h2)
theorem op_add : OpR X (binaryOp .Add) (rI0 fun i j => .int (i + j)) := opI0 fun _ _ _ _ _ _ _ q => add_int q
theorem op_sub : OpR X (binaryOp .Sub) (rI0 fun i j => .int (i - j)) := opI0 fun _ _ _ _ _ _ _ q => sub_int q
theorem op_mod : OpR X (binaryOp .Mod) (rI (fun _ j => 0 < j) fun i j => .int (i % j)) := opI fun i j _ _ _ _ _ hc q => by
  have h1 : (0 : Int) < j := hc
  exact mod_int' (by omega) (by rw [Int.fmod_eq_emod_of_nonneg i (by omega)]; exact q)
theorem op_pow : OpR X (binaryOp .Pow) (rI CPow fun i j => .int (i ^ j.toNat)) := opI fun _ _ _ _ _ _ _ hc q => pow_int_small hc.1 hc.2.1 hc.2.2 q
theorem op_xor : OpR X (binaryOp .BitXor) (rI0 fun i j => .int (Builtin.bitXor i j)) := opI0 fun _ _ _ _ _ _ _ q => xor_int q
theorem unI {f : Value → Sem Value} {g : Int → Int}
    (rule : ∀ (i : Int) (t : Tok) (s : Shared) (Q : Value → Shared → Prop) (E : Value → Shared → Prop), Q (.int (g i) s.toks) { s with toks := s.toks + 1 } → wpAny (model X.prog X.w) X.A (f (.int i t)) Q E s) :
    UnR X f (rU fun i => .int (g i)) := by
  intro pins s σ H x v Q I rx h
  obtain ⟨i, rfl, q⟩ := h
  obtain ⟨t, rfl⟩ := rx
  exact rule i t s _ _ ⟨.int (g i), H, I.tok _, ⟨_, rfl⟩, q⟩
theorem un_neg : UnR X (unaryOp .USub) (rU fun i => .int (-i)) := unI fun _ _ _ _ _ q => neg_int q
end
def scal : V → V → Bool
  | .non, .non => true | .non, .int _ => true | .int _, .non => true | .non, .bl _ => true | .bl _, .non => true | .non, .str _ => true | .str _, .non => true
  | .int _, .int _ => true | .bl _, .bl _ => true | .str _, .str _ => true | .byt _, .byt _ => true
  | .int _, .str _ => true | .str _, .int _ => true | .bl _, .str _ => true | .str _, .bl _ => true
  | _, _ => false
def rEq : R2 := fun x y H Q => scal x y = true ∧ Q (.bl (decide (x = y))) H
def rNe : R2 := fun x y H Q => scal x y = true ∧ Q (.bl (!decide (x = y))) H
theorem dec_int {i j : Int} : decide (V.int i = V.int j) = (i == j) := by
  rw [Bool.eq_iff_iff]
  simp
theorem dec_bl {i j : Bool} : decide (V.bl i = V.bl j) = (i == j) := by
  rw [Bool.eq_iff_iff]
  simp
theorem dec_str {i j : Str} : decide (V.str i = V.str j) = (i == j) := by
  rw [Bool.eq_iff_iff]
  simp
theorem dec_byt {i j : Array UInt8} : decide (V.byt i = V.byt j) = (i.toList == j.toList) := by
  rw [Bool.eq_iff_iff]
  cases i
  cases j
  simp
section
variable {X : Cx} {a b c : Expr} {ta tb tc : TE} {pos : Pos}
theorem fin_bl {pins : List (Addr × Obj)} {σ : St} {H : Hp} {s : Shared} {Q : VK} {k k' : Bool} (I : Inv X pins σ H s) (q : Q (.bl k) H) (e : k = k') : EP X pins σ Q (.bool k') s := by
  subst e
  exact ⟨.bl k, H, I, rfl, q⟩
theorem op_eq : OpR X (compareOp .Eq) rEq := by
  intro pins s σ H x y v u Q I rx ry h
  obtain ⟨hs, q⟩ := h
  cases x with
  | non =>
    cases rx
    cases y with
    | non => cases ry; exact PySem.EqNone.eq_none_none (fin_bl I q (by simp))
    | bl j => cases ry; exact PySem.EqNone.eq_none_bool (fin_bl I q (by simp))
    | int j => obtain ⟨t', rfl⟩ := ry; exact PySem.EqNone.eq_none_int (fin_bl I q (by simp))
    | str j => obtain ⟨t', rfl⟩ := ry; exact PySem.EqNone.eq_none_str (fin_bl I q (by simp))
    | _ => exact absurd (show false = true from hs) Bool.false_ne_true
  | bl i =>
    cases rx
    cases y with
    | non => cases ry; exact PySem.EqNone.eq_bool_none (fin_bl I q (by simp))
    | bl j => cases ry; exact eq_bool (fin_bl I q dec_bl)
    | str j => obtain ⟨t', rfl⟩ := ry; exact PySem.EqMixed.eq_bool_str (fin_bl I q (by simp))
    | _ => exact absurd (show false = true from hs) Bool.false_ne_true
  | int i =>
    obtain ⟨t, rfl⟩ := rx
    cases y with
    | non => cases ry; exact PySem.EqNone.eq_int_none (fin_bl I q (by simp))
    | int j => obtain ⟨t', rfl⟩ := ry; exact eq_int (fin_bl I q dec_int)
    | str j => obtain ⟨t', rfl⟩ := ry; exact PySem.EqMixed.eq_int_str (fin_bl I q (by simp))
    | _ => exact absurd (show false = true from hs) Bool.false_ne_true
  | str i =>
    obtain ⟨t, rfl⟩ := rx
    cases y with
    | non => cases ry; exact PySem.EqNone.eq_str_none (fin_bl I q (by simp))
    | bl j => cases ry; exact PySem.EqMixed.eq_str_bool (fin_bl I q (by simp))
    | int j => obtain ⟨t', rfl⟩ := ry; exact PySem.EqMixed.eq_str_int (fin_bl I q (by simp))
    | str j => obtain ⟨t', rfl⟩ := ry; exact eq_str (fin_bl I q dec_str)
    | _ => exact absurd (show false = true from hs) Bool.false_ne_true
  | byt i =>
    obtain ⟨t, rfl⟩ := rx
    cases y with
    | byt j => obtain ⟨t', rfl⟩ := ry; exact PySem.W.eq_bytes (fin_bl I q dec_byt)
    | _ => exact absurd (show false = true from hs) Bool.false_ne_true
  | _ => cases y <;> exact absurd (show false = true from hs) Bool.false_ne_true
theorem op_ne : OpR X (compareOp .NotEq) rNe := by
  intro pins s σ H x y v u Q I rx ry h
  obtain ⟨hs, q⟩ := h
  cases x with
  | non =>
    cases rx
    cases y with
    | non => cases ry; exact PySem.EqNone.ne_none_none (fin_bl I q (by simp))
    | bl j => cases ry; exact PySem.EqNone.ne_none_bool (fin_bl I q (by simp))
    | int j => obtain ⟨t', rfl⟩ := ry; exact PySem.EqNone.ne_none_int (fin_bl I q (by simp))
    | str j => obtain ⟨t', rfl⟩ := ry; exact PySem.EqNone.ne_none_str (fin_bl I q (by simp))
    | _ => exact absurd (show false = true from hs) Bool.false_ne_true
  | bl i =>
    cases rx
    cases y with
    | non => cases ry; exact PySem.EqNone.ne_bool_none (fin_bl I q (by simp))
    | bl j => cases ry; exact ne_bool (fin_bl I q (congrArg not dec_bl))
    | str j => obtain ⟨t', rfl⟩ := ry; exact PySem.EqMixed.ne_bool_str (fin_bl I q (by simp))
    | _ => exact absurd (show false = true from hs) Bool.false_ne_true
  | int i =>
    obtain ⟨t, rfl⟩ := rx
    cases y with
    | non => cases ry; exact PySem.EqNone.ne_int_none (fin_bl I q (by simp))
    | int j => obtain ⟨t', rfl⟩ := ry; exact ne_int (fin_bl I q (congrArg not dec_int))
    | str j => obtain ⟨t', rfl⟩ := ry; exact PySem.EqMixed.ne_int_str (fin_bl I q (by simp))
    | _ => exact absurd (show false = true from hs) Bool.false_ne_true
  | str i =>
    obtain ⟨t, rfl⟩ := rx
    cases y with
    | non => cases ry; exact PySem.EqNone.ne_str_none (fin_bl I q (by simp))
    | bl j => cases ry; exact PySem.EqMixed.ne_str_bool (fin_bl I q (by simp))
    | int j => obtain ⟨t', rfl⟩ := ry; exact PySem.EqMixed.ne_str_int (fin_bl I q (by simp))
    | str j => obtain ⟨t', rfl⟩ := ry; exact ne_str (fin_bl I q (congrArg not dec_str))
    | _ => exact absurd (show false = true from hs) Bool.false_ne_true
  | byt i =>
    obtain ⟨t, rfl⟩ := rx
    cases y with
    | byt j => obtain ⟨t', rfl⟩ := ry; exact PySem.W.ne_bytes (fin_bl I q (congrArg not dec_byt))
    | _ => exact absurd (show false = true from hs) Bool.false_ne_true
  | _ => cases y <;> exact absurd (show false = true from hs) Bool.false_ne_true
theorem op_lt : OpR X (compareOp .Lt) (rI0 fun i j => .bl (decide (i < j))) := opB0 fun _ _ _ _ _ _ _ q => lt_int q
theorem op_gt : OpR X (compareOp .Gt) (rI0 fun i j => .bl (decide (j < i))) := opB0 fun _ _ _ _ _ _ _ q => gt_int q
theorem nomark (b : Expr) {op : CmpOp} (h : op ≠ .In := by decide) (h2 : op ≠ .NotIn := by decide) : behindInMarks op b = false := by
  have e1 : (op == CmpOp.In) = false := by cases op <;> first | rfl | exact absurd rfl h
  have e2 : (op == CmpOp.NotIn) = false := by cases op <;> first | rfl | exact absurd rfl h2
  cases b <;> simp [behindInMarks, e1, e2]
theorem pe_cmpR {op : CmpOp} {r : R2} (ho : OpR X (compareOp op) r) (ha : PE X a ta) (hb : PE X b tb) (hm : behindInMarks op b = false) : PE X (.Compare a [op] [b] pos) (tOp r ta tb) := by
  intro pins s σ H Q I h
  exact wpAny_Compare1 (binT ha hb I h fun v u s2 x y H2 I2 rx ry q => ho pins s2 σ H2 x y v u Q I2 rx ry q) hm
def TruV (K : PySem.W.Frag) (x : V) (H : Hp) (k : Bool) : Prop :=
  match x with
  | .non => k = false
  | .bl b => k = b
  | .int i => k = (i != 0)
  | .str y => y.length ≤ sizeLine ∧ k = ((y.length : Int) != 0)
  | .byt y => y.size ≤ sizeLine ∧ k = ((y.size : Int) != 0)
  | .ref p => (∃ xs, SqL K H p xs ∧ k = !xs.isEmpty) ∨ (∃ xs, SqT K H p xs ∧ k = !xs.isEmpty) ∨ ∃ kvs, H p = some (.dK kvs) ∧ k = !kvs.isEmpty
  | _ => False
theorem isEmpty_kv {κ : Type} {kvs : List (κ × V)} {vs : List (κ × Value)} (r : KV kvs vs) : (!vs.isEmpty) = !kvs.isEmpty := by
  cases r <;> rfl
theorem isEmpty_of {xs : List V} {its : List Value} (r : Vals xs its) : (!its.toArray.isEmpty) = !xs.isEmpty := by
  cases r <;> simp
theorem line63 : (sizeLine : Nat) < 2 ^ 63 := by rw [sizeLine_eq]; decide
theorem tru_ok : TruR X (fun x H Q => ∃ k, TruV X.K x H k ∧ Q k H) := by
  intro pins s σ H x v Q I rx h
  obtain ⟨k, e, q⟩ := h
  have hl := line63
  have hs : sizeLine = 16777216 := sizeLine_eq
  cases x with
  | non =>
    cases rx
    have e' : k = false := e
    subst e'
    exact truthy_none ⟨H, I, q⟩
  | bl b =>
    cases rx
    have e' : k = b := e
    subst e'
    exact wpAny_truthy_bool ⟨H, I, q⟩
  | int i =>
    obtain ⟨t, rfl⟩ := rx
    have e' : k = (i != 0) := e
    subst e'
    exact PySem.P.truthy_int ⟨H, I, q⟩
  | str y =>
    obtain ⟨t, rfl⟩ := rx
    obtain ⟨hy, e'⟩ : y.length ≤ sizeLine ∧ k = ((y.length : Int) != 0) := e
    subst e'
    exact PySem.P.truthy_str (by omega) ⟨H, I.tok _, q⟩
  | byt y =>
    obtain ⟨t, rfl⟩ := rx
    obtain ⟨hy, e'⟩ : y.size ≤ sizeLine ∧ k = ((y.size : Int) != 0) := e
    subst e'
    exact PySem.W.truthy_bytes (by omega) ⟨H, I.tok _, q⟩
  | ref p =>
    cases rx
    have e' : (∃ xs, SqL X.K H p xs ∧ k = !xs.isEmpty) ∨ (∃ xs, SqT X.K H p xs ∧ k = !xs.isEmpty) ∨ ∃ kvs, H p = some (.dK kvs) ∧ k = !kvs.isEmpty := e
    rcases e' with ⟨xs, hx, e'⟩ | ⟨xs, hx, e'⟩ | ⟨kvs, hx, e'⟩
    · subst e'
      obtain ⟨its, r, pl, hz⟩ := I.list hx
      have hlen := r.length
      exact wpAny_truthy_list pl.isList (by simp only [List.size_toArray]; omega) ⟨H, I.tok _, by rw [isEmpty_of r]; exact q⟩
    · subst e'
      obtain ⟨its, r, pl, hz⟩ := I.tuple hx
      have hlen := r.length
      exact truthy_tuple pl (by simp only [List.size_toArray]; omega) ⟨H, I.tok _, by rw [isEmpty_of r]; exact q⟩
    · subst e'
      obtain ⟨hz, hS, vs, r, m⟩ : kvs.length ≤ sizeLine ∧ (p == sysModules) = false ∧ ∃ vs, KV kvs vs ∧ s.heap.DictOf (mixKind X.prog X.w) p vs := I.hok p _ hx
      have hlen : kvs.length = vs.length := Paired.length r
      exact wpAny_truthy_dict hS m (by omega) ⟨H, I.tok _, by rw [isEmpty_kv r]; exact q⟩
  | _ => exact (show False from e).elim
theorem op_add_str : OpR X (binaryOp .Add) (fun x y H Q => ∃ i j, x = .str i ∧ y = .str j ∧ i.length + j.length ≤ sizeLine ∧ Q (.str (i ++ j)) H) := by
  intro pins s σ H x y v u Q I rx ry h
  obtain ⟨i, j, rfl, rfl, hz, q⟩ := h
  obtain ⟨t, rfl⟩ := rx
  obtain ⟨t', rfl⟩ := ry
  exact add_str (fun t' tk => ⟨.str (i ++ j), H, I.tok _, ⟨_, rfl⟩, q⟩) hz
theorem vals1 {x : V} {us : List Value} (r : Vals [x] us) : ∃ u, us = [u] ∧ RelV x u := by
  cases r with
  | cons r1 r2 => cases r2; exact ⟨_, rfl, r1⟩
theorem vals2 {x y : V} {us : List Value} (r : Vals [x, y] us) : ∃ u w', us = [u, w'] ∧ RelV x u ∧ RelV y w' := by
  cases r with
  | cons r1 r2 =>
    cases r2 with
    | cons r3 r4 => cases r4; exact ⟨_, _, rfl, r1, r3⟩
theorem call_int1 : CallR X (.type "int") (fun xs H Q => (∃ i, xs = [.int i] ∧ Q (.int i) H) ∨ ∃ k, xs = [.bl k] ∧ Q (.int (if k then 1 else 0)) H) := by
  intro pins s σ H xs us Q I r h
  rcases h with ⟨i, rfl, q⟩ | ⟨k, rfl, q⟩
  · obtain ⟨u, rfl, t, rfl⟩ := vals1 r
    exact call_int_int ⟨.int i, H, I, ⟨_, rfl⟩, q⟩
  · obtain ⟨u, rfl, r1⟩ := vals1 r
    cases r1
    exact call_int_bool ⟨.int (if k then 1 else 0), H, I.tok _, ⟨_, rfl⟩, q⟩
end
end L2
namespace L2
open PySem PySem.Spec PyProof.Rows
structure ObjM (h : Heap) (x dx C : Addr) (mA : Str → Option Value) : Prop where
  obj : h.get? x = some (PySem.W.instObj C dx)
  ns : h.Ns1 dx mA
  ne : dx ≠ x
theorem lookIn_ns {h : Heap} {dx : Addr} {mA : Str → Option Value} (n : h.Ns1 dx mA) : ∃ od, h.get? dx = some od ∧ ∀ name, PySem.W.lookIn name od = some (mA name) := by
  obtain ⟨o, es, ep, ho, hd, hk, _, hm⟩ := n
  refine ⟨o, ho, fun name => ?_⟩
  have e := hm name
  unfold nsFind findBy at e
  rw [← Array.find?_toList] at e
  unfold PySem.W.lookIn
  rw [hd]
  dsimp only
  split
  · rename_i y q
    rw [q] at e
    exact congrArg some e
  · rename_i q
    rw [q] at e
    have a : es.toList.any (·.refKey) = false := by
      rw [List.any_eq_false]
      intro y hy
      obtain ⟨z, t, hkey⟩ := hk y (Array.mem_toList_iff.mp hy)
      simp [DictEntry.refKey, hkey]
    have a' : ¬ es.toList.any (·.refKey) = true := by rw [a]; exact Bool.false_ne_true
    rw [if_neg a']
    exact congrArg some e
theorem ObjM.look {h : Heap} {x dx C : Addr} {mA : Str → Option Value} (I : ObjM h x dx C mA) : ∃ od, PySem.W.InstAt h x (PySem.W.instObj C dx) C (some od) ∧ ∀ name, PySem.W.lookIn name od = some (mA name) :=
  let ⟨od, ho, hl⟩ := lookIn_ns I.ns
  ⟨od, ⟨I.obj, rfl, rfl, ho⟩, hl⟩
section
variable {prog : Program} {w : World} {A : Around} {E : Value → Shared → Prop} {s : Shared} {K : PySem.W.Frag} {x dx C f : Addr} {mA : Str → Option Value} {name : Str} {v : Value}
end
section
variable {P : Program} {w : World} {H H' : Hp} {h h' : Heap} {a C dx : Addr} {fs fs' : List (Str × V)}
theorem ins_get (hok : HOk P w H h) (e : H a = some (.ins C dx fs)) : ∃ mA, ObjM h a dx C mA ∧ (∀ f, RelO (fs.lookup f) (mA f)) ∧ PySem.Within mA (fs.map (·.1)) ∧ fs.length ≤ 1000 ∧ H dx = some (.own a) := by
  obtain ⟨d, z, ne, ob, mA, n, r, q⟩ := (show ObjOk P w H h a (.ins C dx fs) from hok a _ e)
  exact ⟨mA, ⟨ob, n, ne⟩, r, q, z, d⟩
end
structure Cls (K : PySem.W.Frag) (C : Addr) : Prop where
  pg : PySem.W.plainGet K C Str.empty = true
  hd : PySem.W.hasDictIn K C = true
  po : PySem.W.plainOver K C = true
  sa : PySem.W.findIn K (.ref C) "__setattr__" = some (some (.builtin "object.__setattr__"))
theorem Cls.get {K : PySem.W.Frag} {C : Addr} (c : Cls K C) (f : Str) : PySem.W.plainGet K C f = true := c.pg
def NoAttr (K : PySem.W.Frag) (C : Addr) (f : Str) : Prop := PySem.W.findIn K (.ref C) f = some none
structure Con (K : PySem.W.Frag) (C : Addr) (f : Str) (v : V) (u : Value) : Prop where
  at_ : PySem.W.findIn K (.ref C) f = some (some u)
  rel : RelV v u
  get : PySem.W.specialIn K u "__get__" = some none
  cp : PySem.W.copiedNames.contains f = false
structure Meth (K : PySem.W.Frag) (C : Addr) (m : Str) (f : Addr) : Prop where
  at_ : PySem.W.findIn K (.ref C) m = some (some (.ref f))
  fn : PySem.W.isFn K (.ref f) = true
  kp : PySem.W.keepIn K (.ref f) = true
section
variable {X : Cx} {pins : List (Addr × Obj)} {σ : St} {H : Hp} {s : Shared} {a C dx : Addr} {fs : List (Str × V)} {f : Str} {v : V} {A : Around} {E : Value → Shared → Prop}
end
section
variable {X : Cx} {o e value : Expr} {f : Str} {pos pos' tpos : Pos} {ta tv : TE}
end
section
variable {X : Cx} {pins : List (Addr × Obj)} {σ : St} {H : Hp} {s : Shared} {A : Around} {E : Value → Shared → Prop} {Q : Value → Shared → Prop} {c : Value} {b : Bool}
inductive TyOf (K : PySem.W.Frag) (H : Hp) : V → Value → Prop where
  | non : TyOf K H .non (.type "NoneType")
  | bl (x : Bool) : TyOf K H (.bl x) (.type "bool")
  | int (i : Int) : TyOf K H (.int i) (.type "int")
  | str (x : Str) : TyOf K H (.str x) (.type "str")
  | flt (x : UInt64) : TyOf K H (.flt x) (.type "float")
  | lst {a : Addr} {xs : List V} (e : H a = some (.lst xs)) : TyOf K H (.ref a) (.type "list")
  | frz {a : Addr} {o : Obj} {xs : List V} (e : H a = some (.frz o (.lst xs))) : TyOf K H (.ref a) (.type "list")
  | tup {a : Addr} {xs : List V} (e : H a = some (.tup xs)) : TyOf K H (.ref a) (.type "tuple")
  | dK {a : Addr} {kvs : List (Key × V)} (e : H a = some (.dK kvs)) : TyOf K H (.ref a) (.type "dict")
  | dT {a : Addr} {kvs : List (List Key × V)} (e : H a = some (.dT kvs)) : TyOf K H (.ref a) (.type "dict")
  | ins {a C dx : Addr} {fs : List (Str × V)} (e : H a = some (.ins C dx fs)) (cl : Cls K C) (ha : PySem.W.findIn K (.ref C) "__class__" = some (some (.builtin "object.__class__")))
      (hn : PySem.W.specialIn K (.builtin "object.__class__") "__get__" = some (some (.builtin "getset_descriptor.__get__"))) (htk : PySem.W.takesIn K (.builtin "object.__class__") = some true)
      (hm : PySem.W.mroIn K C (.type "object") = some true) : TyOf K H (.ref a) (.ref C)
theorem isinst_ok {x : V} {u t : Value} (I : Inv X pins σ H s) (rx : RelV x u) (ty : TyOf X.K H x t) (e : PySem.W.kitOne X.K t c = some b) (h : ∀ tk, Q (.bool b) { s with toks := tk }) :
    wpAny (model X.prog X.w) A (call (.builtin "isinstance") [u, c]) Q E s := by
  cases ty with
  | non => cases (show u = Value.none from rx); exact PySem.W.kia_one PySem.W.kitx_none I.kIn True.intro e (fun z => nomatch z) h
  | bl y => cases (show u = Value.bool y from rx); exact PySem.W.kia_one PySem.W.kitx_bool I.kIn True.intro e (fun z => nomatch z) h
  | int i => obtain ⟨t, q⟩ := (show ∃ t, u = Value.int i t from rx); cases q; exact PySem.W.kia_one PySem.W.kitx_int I.kIn True.intro e (fun z => nomatch z) h
  | str y => obtain ⟨t, q⟩ := (show ∃ t, u = Value.str y t from rx); cases q; exact PySem.W.kia_one PySem.W.kitx_str I.kIn True.intro e (fun z => nomatch z) h
  | flt y => obtain ⟨t, q⟩ := (show ∃ t, u = Value.float y t from rx); cases q; exact PySem.W.kia_one PySem.W.kitx_float I.kIn True.intro e (fun z => nomatch z) h
  | @lst a xs ea =>
    cases (show u = Value.ref a from rx)
    obtain ⟨_, _, n, _, h1⟩ := (show ObjOk X.prog X.w H s.heap a (.lst xs) from I.hok a _ ea)
    exact PySem.W.kia_one PySem.W.kitx_list I.kIn ⟨_, h1, rfl⟩ e (fun z => nomatch z) h
  | @frz a ob xs ea =>
    cases (show u = Value.ref a from rx)
    obtain ⟨_, _, _, n, _, h1⟩ := (show ObjOk X.prog X.w H s.heap a (.frz ob (.lst xs)) from I.hok a _ ea)
    exact PySem.W.kia_one PySem.W.kitx_list I.kIn ⟨_, h1, rfl⟩ e (fun z => nomatch z) h
  | @tup a xs ea =>
    cases (show u = Value.ref a from rx)
    obtain ⟨_, _, _, p⟩ := (show ObjOk X.prog X.w H s.heap a (.tup xs) from I.hok a _ ea)
    obtain ⟨o, h1, h2, _⟩ := p
    exact PySem.W.kia_one PySem.W.kitx_tuple I.kIn ⟨o, h1, h2⟩ e (fun z => nomatch z) h
  | @dK a kvs ea =>
    cases (show u = Value.ref a from rx)
    obtain ⟨_, _, vs, _, p⟩ := (show ObjOk X.prog X.w H s.heap a (.dK kvs) from I.hok a _ ea)
    obtain ⟨o, es, ep, h1, h2, _⟩ := p
    exact PySem.W.kia_one PySem.W.kitx_dict I.kIn ⟨o, h1, h2.1⟩ e (fun z => nomatch z) h
  | @dT a kvs ea =>
    cases (show u = Value.ref a from rx)
    obtain ⟨_, _, xs, _, o, es, ep, h1, h2, _⟩ := (show ObjOk X.prog X.w H s.heap a (.dT kvs) from I.hok a _ ea)
    exact PySem.W.kia_one PySem.W.kitx_dict I.kIn ⟨o, h1, h2.1⟩ e (fun z => nomatch z) h
  | @ins a C dx fs ea cl ha hn htk hm =>
    cases (show u = Value.ref a from rx)
    obtain ⟨mA, O, _⟩ := ins_get I.hok ea
    obtain ⟨od, J, _⟩ := O.look
    exact PySem.W.kia_one (PySem.W.kitx_own (cl.get _) cl.hd ha hn htk hm) I.kIn J e (fun z => nomatch z) h
end
end L2
namespace L2
open PySem PySem.Spec PyProof.Rows
structure Room (k : Nat) (A : Around) : Prop where
  hd : A.handled = none
  dp : A.depth + 3 * k + 5 < recursionLimit
  un : A.units + 16 * k + 200 < cLine
theorem Room.mono {j k : Nat} {A : Around} (r : Room k A) (h : j ≤ k) : Room j A := ⟨r.hd, by have := r.dp; omega, by have := r.un; omega⟩
theorem Room.deeper {k : Nat} {A : Around} (r : Room (k + 1) A) (env : Env) : Room k (A.deeper env) :=
  ⟨r.hd, by have := r.dp; show A.depth + 1 + 3 * k + 5 < _; omega, by have := r.un; show A.units + 3 + 16 * k + 200 < _; omega⟩
theorem Room.depth {k : Nat} {A : Around} (r : Room k A) : A.depth < recursionLimit := by have := r.dp; omega
theorem Room.units {k : Nat} {A : Around} (r : Room k A) : A.units + 64 < cLine := by have := r.un; omega
def tNil : TA := fun _ H Q => Q [] H
def tCons (ta : TE) (tr : TA) : TA := fun σ H Q => ta σ H fun x H1 => tr σ H1 fun xs H2 => Q (x :: xs) H2
section
variable {X : Cx} {e : Expr} {es : List Expr} {te : TE} {t : TA} {pos : Pos}
theorem pa_nil : PA X [] tNil := fun _ _ _ _ H Q I h => Calls.spliced_nil ⟨[], H, I, .nil, h⟩
theorem pa_cons (ha : PE X e te) (hr : PA X es t) (hs : starEach (e :: es) X.env = (false, eval e X.env) :: starEach es X.env := by rfl) : PA X (e :: es) (tCons te t) := by
  intro pos pins s σ H Q I h
  rw [hs]
  show wpAny _ _ (spliced ((false, eval e X.env) :: backTo pos (starEach es X.env))) _ _ s
  refine Calls.spliced_cons (thn (ha pins s σ H _ I h) fun u s1 ⟨x, H1, I1, r1, q1⟩ => ?_)
  exact thn (hr pos pins s1 σ H1 _ I1 q1) fun us s2 ⟨xs, H2, I2, r2, q2⟩ => ⟨x :: xs, H2, I2, .cons r1 r2, q2⟩
def tTup (t : TA) : TE := fun σ H Q => t σ H fun xs H1 => xs.length ≤ sizeLine ∧ ∀ p, H1 p = none → Q (.ref p) (upd H1 p (.tup xs))
def tLst (t : TA) : TE := fun σ H Q => t σ H fun xs H1 => xs.length ≤ sizeLine ∧ ∀ p, H1 p = none → Q (.ref p) (upd H1 p (.lst xs))
theorem pe_tup {x1} (h : PA X es t) : PE X (.Tuple es x1 pos) (tTup t) := by
  intro pins s σ H Q I hq
  refine wpAny_Tuple_spliced (thn (h pos pins s σ H _ I hq) fun us s1 ⟨xs, H1, I1, r, z, q⟩ => ⟨by rw [← r.length]; exact z, ?_⟩)
  have hf : H1 s1.heap.objs.size = none := I1.hok.fresh (Nat.le_refl _)
  refine ⟨.ref s1.heap.objs.size, upd H1 s1.heap.objs.size (.tup xs), I1.laid (t' := s1.toks) (fun b u e => Heap.get?_push_of_some _ e) (Nat.le_refl _) ?_, rfl, q _ hf⟩
  exact ⟨z, us, r, ⟨_, Heap.get?_push_size _ rfl, rfl, _, rfl⟩⟩
theorem pe_lst (h : PA X es t) : PE X (.List es pos) (tLst t) := by
  intro pins s σ H Q I hq
  refine wpAny_List_spliced (thn (h pos pins s σ H _ I hq) fun us s1 ⟨xs, H1, I1, r, z, q⟩ => ⟨by rw [← r.length]; exact z, ?_⟩)
  have hf : H1 s1.heap.objs.size = none := I1.hok.fresh (Nat.le_refl _)
  refine ⟨.ref s1.heap.objs.size, upd H1 s1.heap.objs.size (.lst xs), I1.laid (t' := s1.toks) (fun b u e => Heap.get?_push_of_some _ e) (Nat.le_refl _) ?_, rfl, q _ hf⟩
  exact ⟨z, us, 0, r, Heap.get?_push_size _ rfl⟩
end
abbrev Sp := List V → Hp → VK → XK → Prop
abbrev CXT := List Env → Hp → Shared → XK → Value → Shared → Prop
structure Env0 (P : Program) (w : World) (K : PySem.W.Frag) (mg : Str → Option Value) (base : Heap) (A : Around) (outer : List Env) (s : Shared) (H : Hp) : Prop where
  frames : A.frames = some outer
  mod : Mod K mg base
  bs : ∀ b o, base.get? b = some o → s.heap.get? b = some o ∧ H b = none
  bsz : base.objs.size ≤ s.heap.objs.size
  funs : s.heap.FunFrames base outer
  frf : ∀ b ∈ frs outer, H b = none
  hok : HOk P w H s.heap
  bare : AllBare s.gens
def CE (outer : List Env) (P : Program) (w : World) (H : Hp) (s : Shared) (Q : VK) (u : Value) (s' : Shared) : Prop :=
  ∃ v H', s'.os = s.os ∧ AllBare s'.gens ∧ Un (frs outer) [] H H' s.heap s'.heap ∧ HOk P w H' s'.heap ∧ RelV v u ∧ Q v H'
def CR (CX : CXT) (outer : List Env) (P : Program) (w : World) (H : Hp) (s : Shared) (Q : VK) (E : XK) (r : Result) (s' : Shared) : Prop :=
  match r with
  | .ok (.ret u) => CE outer P w H s Q u s'
  | .ok _ => False
  | .error e => CX outer H s E e s'
structure FnOk (P : Program) (w : World) (K : PySem.W.Frag) (mg : Str → Option Value) (base : Heap) (CX : CXT) (k : Nat) (f : Addr) (fd : FuncData) (ps : List Str) (sp : Sp) : Prop where
  len : ∀ vs H Q E, sp vs H Q E → vs.length = ps.length
  run : ∀ (A : Around) (outer : List Env) (s : Shared) (H : Hp) (args : Args) (us : List Value) (vs : List V) (Q : VK) (E : XK), Room k A → Env0 P w K mg base A outer s H → BindsTo s fd args (ps.zip us) → Vals vs us → sp vs H Q E →
    codeAny (model P w) A (.call (.ref f) args) (CR CX outer P w H s Q E) s
theorem FnOk.imp {P : Program} {w : World} {K : PySem.W.Frag} {mg : Str → Option Value} {base : Heap} {CX : CXT} {k : Nat} {f : Addr} {fd : FuncData} {ps : List Str} {sp sp' : Sp} (F : FnOk P w K mg base CX k f fd ps sp)
    (h : ∀ vs H Q E, sp' vs H Q E → sp vs H Q E) : FnOk P w K mg base CX k f fd ps sp' :=
  ⟨fun vs H Q E q => F.len vs H Q E (h _ _ _ _ q), fun A outer s H args us vs Q E hr he hb hv hs => F.run A outer s H args us vs Q E hr he hb hv (h _ _ _ _ hs)⟩
section
variable {X : Cx} {pins : List (Addr × Obj)} {σ : St} {H : Hp} {s s' : Shared}
theorem Inv.env0 (I : Inv X pins σ H s) : Env0 X.prog X.w X.K X.mg X.base X.A X.stack s H :=
  ⟨I.ok.frames, I.ok.mod, I.bs, Nat.le_trans I.ok.bsz I.sz, I.stack, I.stkFree, I.hok, I.bare⟩
theorem Inv.after {Q : VK} {u : Value} (I : Inv X pins σ H s) (h : CE X.stack X.prog X.w H s Q u s') : EP X pins σ Q u s' := by
  obtain ⟨v, H', os, bare, un, hok, r, q⟩ := h
  obtain ⟨hh, g, d, t, os'⟩ := s'
  obtain rfl : os' = s.os := os
  exact ⟨v, H', I.call (h' := hh) (g' := g) (d' := d) (t' := t) (ch := []) un hok bare (fun b z => absurd z (by simp)), r, q⟩
end
def tCall (sp : Sp) (dvs : List V) (E : XK) (t : TA) : TE := fun σ H Q => t σ H fun vs H1 => sp (vs ++ dvs) H1 Q E
def Binds (K : PySem.W.Frag) (fd : FuncData) (ps : List Str) (ds : List Value) : Prop :=
  ∀ (s : Shared) (us : List Value), K.In s.heap → (us ++ ds).length = ps.length → BindsTo s fd ⟨us, []⟩ (ps.zip (us ++ ds))
theorem Binds.all {K : PySem.W.Frag} {fd : FuncData} {ps : List Str} (h : ∀ us : List Value, us.length = ps.length → bindArgs fd ⟨us, []⟩ = pure (ps.zip us)) : Binds K fd ps [] := fun s us _ hl => by
  rw [List.append_nil] at hl ⊢
  exact .of_eq (h us hl)
def Passes (CX : CXT) (X : Cx) (E : XK) : Prop := ∀ (pins : List (Addr × Obj)) (σ : St) (H : Hp) (s : Shared) (e : Value) (s' : Shared), Inv X pins σ H s → CX X.stack H s E e s' → X.xe e s'
section
variable {X : Cx} {CX : CXT} {k : Nat} {f C : Addr} {fd : FuncData} {ps : List Str} {sp : Sp} {dvs : List V} {ds : List Value} {E : XK} {x m : Str} {p pos apos : Pos} {e o : Expr} {es : List Expr} {ta : TE} {t : TA}
theorem run_fn {pins : List (Addr × Obj)} {σ : St} {H : Hp} {s : Shared} {Q : VK} {us : List Value} {vs : List V} (F : FnOk X.prog X.w X.K X.mg X.base CX k f fd ps sp) (hr : Room k X.A) (hb : Binds X.K fd ps ds) (hd : Vals dvs ds) (hx : Passes CX X E)
    (I : Inv X pins σ H s) (r : Vals vs us) (h : sp (vs ++ dvs) H Q E) : wpAny (model X.prog X.w) X.A (call (.ref f) us) (EP X pins σ Q) X.xe s := by
  have r2 : Vals (vs ++ dvs) (us ++ ds) := r.append hd
  have hl : (us ++ ds).length = ps.length := by rw [← r2.length]; exact F.len _ _ _ _ h
  refine wpAny_call (codeAny_mono (F.run X.A X.stack s H ⟨us, []⟩ (us ++ ds) (vs ++ dvs) Q E hr I.env0 (hb s us I.kIn hl) r2 h) fun r s' hq => ?_)
  cases r with
  | error e => exact hx pins σ H s e s' I hq
  | ok fl =>
    cases fl with
    | ret u => exact I.after hq
    | next => exact False.elim hq
    | brk => exact False.elim hq
    | cont => exact False.elim hq
theorem pe_call (F : FnOk X.prog X.w X.K X.mg X.base CX k f fd ps sp) (hr : Room k X.A) (hg : Gl X x) (hm : X.mg x = some (.ref f)) (hk : PySem.W.keepIn X.K (.ref f) = true) (hb : Binds X.K fd ps ds) (hd : Vals dvs ds) (hx : Passes CX X E)
    (ha : PA X (e :: es) t) (hdb : (x == ("__debug__" : Str)) = false := by decide) (he : starEach (e :: es) X.env = (false, eval e X.env) :: starEach es X.env := by rfl) (hpl : (backTo pos (starEach es X.env)).any (·.1) = false := by rfl) :
    PE X (.Call (.Name x p) (e :: es) [] pos) (tCall sp dvs E t) := by
  intro pins s σ H Q I h
  refine wpAny_Call_Name_kw (ld_glob I hg hm ?_ hdb)
  refine PySem.W.callWith_K (h₀ := X.base) I.ok.mod.kin hk (thn (ha pos pins s σ H _ I h) fun us s1 ⟨vs, H1, I1, r, q⟩ => ⟨I1.kIn, ?_⟩) he hpl
  exact run_fn F hr hb hd hx I1 r q
structure Mk (K : PySem.W.Frag) (C f : Addr) : Prop where
  makes : PySem.W.makesIn K C = true
  init : PySem.W.findIn K (.ref C) "__init__" = some (some (.ref f))
  fn : PySem.W.isFn K (.ref f) = true
  kp : PySem.W.keepIn K (.ref C) = true
end
section
variable {X : Cx} {CX : CXT} {k : Nat} {f C : Addr} {fd : FuncData} {ps ks : List Str} {sp : Sp} {E : XK} {x m : Str} {p pos apos kpos : Pos} {e o : Expr} {es : List Expr} {kws : List Keyword} {te ta : TE} {t tk : TA} {nm : Option Str}
structure KBinds (K : PySem.W.Frag) (fd : FuncData) (ps ks : List Str) (g : List Value → List Value → List Value) (gV : List V → List V → List V) : Prop where
  to : ∀ (s : Shared) (us ws : List Value), K.In s.heap → (g us ws).length = ps.length → BindsTo s fd ⟨us, ks.zip ws⟩ (ps.zip (g us ws))
  rel : ∀ {vs : List V} {us : List Value} {zs : List V} {ws : List Value}, Vals vs us → Vals zs ws → Vals (gV vs zs) (g us ws)
variable {g : List Value → List Value → List Value} {gV : List V → List V → List V}
end
structure FnScope (N P : List Str) (sc : Scope) : Prop where
  kind : sc.kind = .function
  co : sc.isCoroutine = false
  gen : sc.isGenerator = false
  nd : N.Nodup
  pre : N.take P.length = P
  par : ∀ x ∈ P, sc.names.lookup x = some .local ∨ sc.names.lookup x = some .cell
  nofree : ∀ y ∈ sc.names, y.2 ≠ .free
theorem bindL_out {kindOf : Str → Option NameKind} {x : Str} : ∀ {binds : List (Str × Value)} {m : Str → Option Value}, (∀ v, (x, v) ∉ binds) → bindL kindOf binds m x = m x
  | [], _, _ => rfl
  | (n, v) :: r, m, h => by
    unfold bindL
    rw [bindL_out fun w hw => h w (List.mem_cons_of_mem _ hw)]
    split
    · have : x ≠ n := by rintro rfl; exact h v List.mem_cons_self
      simp [this]
    · rfl
theorem bindC_out {kindOf : Str → Option NameKind} {x : Str} : ∀ {binds : List (Str × Value)} {m : Str → Option Value}, (∀ v, (x, v) ∉ binds) → bindC kindOf binds m x = m x
  | [], _, _ => rfl
  | (n, v) :: r, m, h => by
    unfold bindC
    rw [bindC_out fun w hw => h w (List.mem_cons_of_mem _ hw)]
    split
    · rfl
    · have : x ≠ n := by rintro rfl; exact h v List.mem_cons_self
      simp [this]
theorem bindL_get {kindOf : Str → Option NameKind} {x : Str} {v : Value} : ∀ {P : List Str} {vs : List Value} {i : Nat} {m : Str → Option Value}, P.Nodup → P[i]? = some x → vs[i]? = some v → kindOf x = some .local →
    bindL kindOf (P.zip vs) m x = some v
  | [], _, _, _, _, h, _, _ => by simp at h
  | _ :: _, [], _, _, _, _, h, _ => by simp at h
  | p :: P, w :: vs, 0, m, nd, h1, h2, hk => by
    simp at h1 h2; subst h1; subst h2
    show bindL kindOf ((p, w) :: P.zip vs) m p = _
    unfold bindL
    rw [bindL_out fun v hv => (List.nodup_cons.mp nd).1 (List.of_mem_zip hv).1, if_pos hk]
    simp
  | p :: P, w :: vs, i + 1, m, nd, h1, h2, hk => by
    show bindL kindOf ((p, w) :: P.zip vs) m x = _
    unfold bindL
    exact bindL_get (i := i) (List.nodup_cons.mp nd).2 (by simpa using h1) (by simpa using h2) hk
theorem bindC_get {kindOf : Str → Option NameKind} {x : Str} {v : Value} : ∀ {P : List Str} {vs : List Value} {i : Nat} {m : Str → Option Value}, P.Nodup → P[i]? = some x → vs[i]? = some v → kindOf x ≠ some .local →
    bindC kindOf (P.zip vs) m x = some v
  | [], _, _, _, _, h, _, _ => by simp at h
  | _ :: _, [], _, _, _, _, h, _ => by simp at h
  | p :: P, w :: vs, 0, m, nd, h1, h2, hk => by
    simp at h1 h2; subst h1; subst h2
    show bindC kindOf ((p, w) :: P.zip vs) m p = _
    unfold bindC
    rw [bindC_out fun v hv => (List.nodup_cons.mp nd).1 (List.of_mem_zip hv).1, if_neg hk]
    simp
  | p :: P, w :: vs, i + 1, m, nd, h1, h2, hk => by
    show bindC kindOf ((p, w) :: P.zip vs) m x = _
    unfold bindC
    exact bindC_get (i := i) (List.nodup_cons.mp nd).2 (by simpa using h1) (by simpa using h2) hk
def start (N : List Str) (vs : List V) : St := vs.map some ++ List.replicate (N.length - vs.length) none
def cxOf (CX : CXT) (P : Program) (w : World) (K : PySem.W.Frag) (mg : Str → Option Value) (base : Heap) (N : List Str) (qual : Str) (scope : Scope) (f : Addr) (cd : Value) (A : Around) (outer : List Env) (s : Shared) (H : Hp) (E : XK) : Cx where
  prog := P
  w := w
  K := K
  mg := mg
  base := base
  A := A.deeper (envOfC qual scope s.heap.objs.size f cd)
  N := N
  s₀ := s
  H₀ := H
  env := envOfC qual scope s.heap.objs.size f cd
  outer := outer
  stack := envOfC qual scope s.heap.objs.size f cd :: outer
  ex := []
  calm := true
  fn := fun _ => true
  pn := []
  xe := fun e s' => wpAny (model P w) (A.deeper (envOfC qual scope s.heap.objs.size f cd)) (leaving (envOfC qual scope s.heap.objs.size f cd) e) (fun _ s'' => CX outer H s E e s'') (fun e' s'' => CX outer H s E e' s'') s'
theorem cell_has {sc : Scope} {n : Nat} {x : Str} (h : sc.names.lookup x = some .cell) : ∃ c, (cellsFrom n sc.names []).lookup x = some c := by
  have q := PySem.W.cellsFrom_some sc.names n [] (.inl h)
  exact Option.isSome_iff_exists.mp q
theorem inv_start {CX : CXT} {P : Program} {w : World} {K : PySem.W.Frag} {mg : Str → Option Value} {base : Heap} {N ps : List Str} {qual : Str} {scope : Scope} {f : Addr} {cd : Value} {A : Around} {outer : List Env} {s s1 : Shared} {H : Hp} {E : XK} {us : List Value} {vs : List V}
    (S : FnScope N ps scope) (hd : A.handled = none) (e0 : Env0 P w K mg base A outer s H) (hl : vs.length = ps.length) (r : Vals vs us)
    (x : InCallC s s.heap.objs.size (bindL (envOfC qual scope s.heap.objs.size f cd).kindOf (ps.zip us) fun _ => none) (cellsFrom (s.heap.objs.size + 1) scope.names []) (bindC (envOfC qual scope s.heap.objs.size f cd).kindOf (ps.zip us) fun _ => none) s1) :
    Inv (cxOf CX P w K mg base N qual scope f cd A outer s H E) [] (start N vs) H s1 := by
  have hpl : ps.length ≤ N.length := by have := congrArg List.length S.pre; rw [List.length_take] at this; omega
  obtain ⟨h1, tk, rfl, hk⟩ := x.done
  have noA : ∀ b : Addr, b ∉ (cxOf CX P w K mg base N qual scope f cd A outer s H E).ex := fun b z => absurd (show b ∈ ([] : List Addr) from z) (by simp)
  refine ⟨⟨e0.mod, S.kind, rfl, rfl, Nat.le_refl _, fun y z c h1 h2 => ?_, fun y hy => ?_, fun y c _ h => ?_, fun _ => hd, Around.frames_deeper e0.frames, .inr ⟨rfl, rfl⟩, fun b z => absurd z (noA b), e0.bs, e0.bsz, fun b _ _ => noA b, fun b z => absurd z (noA b), e0.funs, e0.frf⟩,
    rfl, e0.bare, Un.kept hk, ⟨_, x.toInCall.ns, fun i y v h1 h2 h3 => ?_⟩, fun y c h => ⟨_, x.cell y c h⟩, e0.hok.fresh (Nat.le_refl _), fun y c h => ?_, fun p hp => absurd (show p ∈ ([] : List (Addr × Obj)) from hp) (by simp), e0.hok.kept hk, ?_⟩
  · exact name_of_addr x.apart (PySem.mem_of_lookup h1) (PySem.mem_of_lookup h2)
  · have hy : scope.names.lookup y = some .cell ∨ scope.names.lookup y = some .free := hy
    rcases hy with hy | hy
    · exact cell_has hy
    · exact absurd rfl (S.nofree _ (PySem.mem_of_lookup hy))
  · exact Nat.le_of_lt (x.above y c (PySem.mem_of_lookup h))
  · have hi : i < vs.length := by
      unfold start at h2
      by_cases hi : i < vs.length
      · exact hi
      · rw [List.getElem?_append_right (by simpa using hi)] at h2
        rw [List.getElem?_replicate] at h2
        split at h2 <;> cases h2
    have ha : vs[i]? = some v := by
      unfold start at h2
      rw [List.getElem?_append_left (by simpa using hi), List.getElem?_map] at h2
      cases e : vs[i]? with
      | none => rw [e] at h2; cases h2
      | some a => rw [e] at h2; cases h2; rfl
    obtain ⟨u, hu, rv⟩ := r.get ha
    have hp : ps[i]? = some y := by
      rw [← S.pre, List.getElem?_take_of_lt (by omega)]; exact h1
    have ndP : ps.Nodup := by rw [← S.pre]; exact S.nd.sublist (List.take_sublist _ _)
    refine ⟨u, rv, ?_⟩
    rcases S.par y (List.mem_of_getElem? hp) with k | k
    · exact .inl ⟨k, bindL_get ndP hp hu k⟩
    · obtain ⟨c, e⟩ := cell_has (n := s.heap.objs.size + 1) k
      refine .inr ⟨.inl k, c, e, ?_⟩
      have q := x.cell y c e
      rw [bindC_get ndP hp hu (by show scope.names.lookup y ≠ _; rw [k]; decide)] at q
      exact q
  · exact e0.hok.fresh (Nat.le_of_lt (x.above y c (PySem.mem_of_lookup h)))
  · unfold start
    show _ = N.length
    rw [List.length_append, List.length_map, List.length_replicate]
    omega
theorem fn_of {CX : CXT} {P : Program} {w : World} {K : PySem.W.Frag} {mg : Str → Option Value} {base : Heap} {k : Nat} {f : Addr} {name qual : Str} {params : Arguments} {body : List Stmt} {scope : Scope} {dV kV doc pm cdv ct oc : Value} {an od : Option Addr}
    {osl : Array (Option Value)} {N ps : List Str} {sp : Sp} (lk : K.lookup f = some ⟨oc, od, .func (PySem.W.fnOf name qual params body scope dV kV doc pm an cdv ct), osl⟩) (hcd : PySem.W.codeIn K cdv qual = true) (S : FnScope N ps scope)
    (len : ∀ vs H Q E, sp vs H Q E → vs.length = ps.length)
    (hbody : ∀ (A : Around) (outer : List Env) (s : Shared) (H : Hp) (vs : List V) (Q : VK) (E : XK), Room k (A.deeper (envOfC qual scope s.heap.objs.size f cdv)) → sp vs H Q E →
      ∃ t, PSs (cxOf CX P w K mg base N qual scope f cdv A outer s H E) body t ∧ t { nx := fun _ H' => Q .non H', rt := Q } (start N vs) H) :
    FnOk P w K mg base CX (k + 1) f (PySem.W.fnOf name qual params body scope dV kV doc pm an cdv ct) ps sp := by
  refine ⟨len, fun A outer s H args us vs Q E hr e0 hb r hsp => ?_⟩
  have hl := len _ _ _ _ hsp
  have KX : K.In s.heap := e0.mod.kin.keeps fun b o e => (e0.bs b o e).1
  have lim : s.heap.NoLimit := e0.mod.nolimit.keeps fun b o e => (e0.bs b o e).1
  have hkind : ∀ y ∈ ps.zip us, scope.names.lookup y.1 = some .local ∨ (scope.names.lookup y.1 = some .cell ∧ ((cellsFrom (s.heap.objs.size + 1) scope.names []).lookup y.1).isSome = true) := fun ⟨n, v⟩ hy => by
    rcases S.par n (List.of_mem_zip hy).1 with q | q
    · exact .inl q
    · exact .inr ⟨q, PySem.W.cellsFrom_some _ _ _ (.inl q)⟩
  refine codeAny_call_function hr.depth (KX _ _ lk) rfl S.co S.gen rfl (PySem.W.codeRec_of KX hcd) (hb _ _ _ _ ?_)
  refine wpAny_newFunctionEnv_cells S.kind hkind fun env he s1 x => ?_
  subst he
  refine ⟨lim.keeps x.toInCall.keep, codeAny_func ?_⟩
  obtain ⟨t, ht, hq⟩ := hbody A outer s H vs Q E (hr.deeper _) hsp
  have I : Inv (cxOf CX P w K mg base N qual scope f cdv A outer s H E) [] (start N vs) H s1 := inv_start S hr.hd e0 hl r x
  refine wpAny_mono (ht [] s1 (start N vs) H _ I hq) (fun fl s' hs => ?_) fun e s' hs => hs
  have fin : ∀ {σ' : St} {H' : Hp} {v : V} {u : Value}, Inv (cxOf CX P w K mg base N qual scope f cdv A outer s H E) [] σ' H' s' → RelV v u → Q v H' → CE outer P w H s Q u s' :=
    fun {σ' H' v u} J rv q => ⟨v, H', J.os, J.bare, J.base, J.hok, rv, q⟩
  cases fl with
  | ret u =>
    obtain ⟨v, σ', H', J, rv, q⟩ := hs
    exact fin J rv q
  | next =>
    obtain ⟨σ', H', J, q⟩ := hs
    exact fin (v := V.non) (u := Value.none) J rfl q
  | brk =>
    obtain ⟨_, _, _, q⟩ := hs
    exact False.elim q
  | cont =>
    obtain ⟨_, _, _, q⟩ := hs
    exact False.elim q
end L2
namespace L2
open PySem PySem.Spec PyProof.Rows
section
variable {X : Cx} {x : Str} {p pos : Pos} {e : Expr} {es : List Expr} {t : TA} {id T : String} {r : List V → Hp → VK → Prop}
def tCB (r : List V → Hp → VK → Prop) (t : TA) : TE := fun σ H Q => t σ H fun vs H1 => r vs H1 Q
theorem pe_callB (hc : CallR X (.builtin id) r) (hg : Gl X x) (hm : X.mg x = none) (hv : bootBuiltins x = some (.builtin id)) (ha : PA X (e :: es) t) (hn : x ≠ "__name__" := by decide) (hdb : (x == ("__debug__" : Str)) = false := by decide)
    (he : starEach (e :: es) X.env = (false, eval e X.env) :: starEach es X.env := by rfl) (hpl : (backTo pos (starEach es X.env)).any (·.1) = false := by rfl) : PE X (.Call (.Name x p) (e :: es) [] pos) (tCB r t) := by
  intro pins s σ H Q I h
  refine wpAny_Call_Name_kw (ld_blt I hg hm hv ?_ hn hdb)
  exact PyProof.Rows.callWith_builtin1 (thn (ha pos pins s σ H _ I h) fun us s1 ⟨vs, H1, I1, r1, q1⟩ => hc pins s1 σ H1 vs us Q I1 r1 q1) he hpl
theorem pe_callTy (hc : CallR X (.type T) r) (hg : Gl X x) (hm : X.mg x = none) (hv : bootBuiltins x = some (.type T)) (ha : PA X (e :: es) t) (hn : x ≠ "__name__" := by decide) (hdb : (x == ("__debug__" : Str)) = false := by decide)
    (he : starEach (e :: es) X.env = (false, eval e X.env) :: starEach es X.env := by rfl) (hpl : (backTo pos (starEach es X.env)).any (·.1) = false := by rfl) : PE X (.Call (.Name x p) (e :: es) [] pos) (tCB r t) := by
  intro pins s σ H Q I h
  refine wpAny_Call_Name_kw (ld_blt I hg hm hv ?_ hn hdb)
  exact PyProof.Rows.callWith_type1 (thn (ha pos pins s σ H _ I h) fun us s1 ⟨vs, H1, I1, r1, q1⟩ => hc pins s1 σ H1 vs us Q I1 r1 q1) he hpl
end
end L2

namespace HT
open PySem PyProof.Rows
section
open PySem.SeqAt
open PySem.AutoSeq1 (wpAny_loadPart')
open PySem.MeetsSeq PySem.MeetsSeq2 PySem.MeetsSeq3
end
section
variable {prog : Program} {w : World} {A : Around} {E : Value → Shared → Prop} {s : Shared}
def sIx (n d : Nat) : Option Int → Nat
  | none => d
  | some v => if v < 0 then (v + (n : Int)).toNat else min v.toNat n
end
end HT
namespace L2
open PySem PySem.Spec PyProof.Rows
abbrev TO := St → Hp → (Option Int → Hp → Prop) → Prop
section
variable {X : Cx} {e : Expr} {te : TE} {lo hi : Option Expr} {tl th : TO} {pos p2 : Pos}
def SlR (X : Cx) (r : V → Option Int → Option Int → Hp → VK → Prop) : Prop :=
  ∀ (pins : List (Addr × Obj)) (s : Shared) (σ : St) (H : Hp) (x : V) (v vl vu : Value) (lo hi : Option Int) (sl : Addr) (Q : VK), Inv X pins σ H s → RelV x v → s.heap.IsSliceOf sl vl vu .none → IsPart vl lo → IsPart vu hi → r x lo hi H Q →
    ∃ T id, typeLookup (.type T) "__getitem__" = pure (some (.builtin id)) ∧ s.TypeIs v T ∧ wpAny (model X.prog X.w) X.A (getItem v (.ref sl)) (EP X pins σ Q) X.xe s
def cutV (xs : List V) (lo hi : Option Int) : List V := (xs.drop (HT.sIx xs.length 0 lo)).take (HT.sIx xs.length xs.length hi - HT.sIx xs.length 0 lo)
theorem cutV_length (xs : List V) (lo hi : Option Int) : (cutV xs lo hi).length ≤ xs.length := by
  unfold cutV
  rw [List.length_take, List.length_drop]
  omega
end
end L2
namespace L2
open PySem PySem.Spec PyProof.Rows
def ixN (n : Nat) (i : Int) : Option Nat := if 0 ≤ i then (if i < n then some i.toNat else none) else if -(n : Int) ≤ i then some (i + n).toNat else none
def atI {α : Type} (xs : List α) (i : Int) : Option α := (ixN xs.length i).bind fun j => xs[j]?
theorem ixN_seq {n : Nat} {i : Int} {j : Nat} (h : ixN n i = some j) : seqIndex? i n = some j ∧ j < n ∧ -(n : Int) ≤ i ∧ i < n := by
  unfold ixN at h
  by_cases h0 : 0 ≤ i
  · rw [if_pos h0] at h
    by_cases h1 : i < n
    · rw [if_pos h1] at h
      have e : i.toNat = j := Option.some.inj h
      exact ⟨by rw [seqIndex_of h0 h1, e], by omega, by omega, h1⟩
    · rw [if_neg h1] at h; cases h
  · rw [if_neg h0] at h
    by_cases h1 : -(n : Int) ≤ i
    · rw [if_pos h1] at h
      have e : (i + n).toNat = j := Option.some.inj h
      exact ⟨by rw [seqIndex_neg (by omega) h1, e], by omega, h1, by omega⟩
    · rw [if_neg h1] at h; cases h
theorem atI_get {α : Type} {xs : List α} {i : Int} {v : α} (h : atI xs i = some v) : ∃ j, seqIndex? i xs.length = some j ∧ xs[j]? = some v ∧ j < xs.length ∧ -(xs.length : Int) ≤ i ∧ i < xs.length := by
  unfold atI at h
  cases e : ixN xs.length i with
  | none => rw [e] at h; cases h
  | some j =>
    rw [e] at h
    obtain ⟨h1, h2, h3, h4⟩ := ixN_seq e
    exact ⟨j, h1, h, h2, h3, h4⟩
def PlainIx (b : Expr) : Prop := ∀ o i, subscripted b false o i = operate [o, i] (getItem o i)
def IxR (X : Cx) (r : R2) : Prop :=
  ∀ (value slice : Expr) (pins : List (Addr × Obj)) (s : Shared) (σ : St) (H : Hp) (x y : V) (v u : Value) (Q : VK), Inv X pins σ H s → RelV x v → RelV y u → r x y H Q →
    subscripted slice false v u = operate [v, u] (getItem v u) → wpAny (model X.prog X.w) X.A (subscriptTail value slice v u) (EP X pins σ Q) X.xe s
def MtR (X : Cx) (id : String) (r : V → List V → Hp → VK → Prop) : Prop :=
  ∀ (pins : List (Addr × Obj)) (s : Shared) (σ : St) (H : Hp) (x : V) (xs : List V) (v : Value) (us : List Value) (Q : VK), Inv X pins σ H s → RelV x v → Vals xs us → r x xs H Q →
    wpAny (model X.prog X.w) X.A (call (.builtin id) (v :: us)) (EP X pins σ Q) X.xe s
section
variable {X : Cx} {a b : Expr} {ta tb : TE} {pos : Pos}
theorem pe_ix {r : R2} (hr : IxR X r) (ha : PE X a ta) (hb : PE X b tb) (hs : PlainIx b) : PE X (.Subscript a b pos) (tOp r ta tb) := by
  intro pins s σ H Q I h
  exact Subscript_ (binT ha hb I h fun v u s2 x y H2 I2 rx ry q => hr a b pins s2 σ H2 x y v u Q I2 rx ry q (hs _ _))
def rIxL (K : PySem.W.Frag) : R2 := fun x y H Q => ∃ p xs i v, x = .ref p ∧ y = .int i ∧ SqL K H p xs ∧ atI xs i = some v ∧ Q v H
def rIxT (K : PySem.W.Frag) : R2 := fun x y H Q => ∃ p xs i v, x = .ref p ∧ y = .int i ∧ SqT K H p xs ∧ atI xs i = some v ∧ Q v H
def rIxS : R2 := fun x y H Q => ∃ z i c, x = .str z ∧ y = .int i ∧ z.length ≤ sizeLine ∧ atI z.cps.toList i = some c ∧ Q (.str ⟨#[c]⟩) H
theorem ix_list : IxR X (rIxL X.K) := by
  intro value slice pins s σ H x y v u Q I rx ry h hs
  obtain ⟨p, xs, i, z, rfl, rfl, hq, he, q⟩ := h
  cases rx
  obtain ⟨t, rfl⟩ := ry
  obtain ⟨its, r, pl, hz⟩ := I.list hq
  obtain ⟨j, h1, h2, h3, h4, h5⟩ := atI_get he
  obtain ⟨w, ew, rw'⟩ := r.get h2
  have hl := r.length
  have hn := line63
  have fin : EP X pins σ Q w s := ⟨z, H, I, rw', q⟩
  by_cases h0 : 0 ≤ i
  · have hj : i.toNat = j := by
      rw [seqIndex_of h0 h5] at h1
      exact Option.some.inj h1
    exact item_listR pl.isList h0 (by omega) (by rw [hj]; simpa using ew) fin hs
  · have hj : (i + (its.toArray.size : Int)).toNat = j := by
      rw [seqIndex_neg (by omega) h4] at h1
      rw [List.size_toArray, ← hl]
      exact Option.some.inj h1
    exact subscriptTail_builtinR (x := w) pl.isList.typeIs slot_list_getitem.lookup
      (wpAny_getItem_list_neg (Q := fun r s' => r = w ∧ EP X pins σ Q r s') pl.isList (by omega) (by rw [List.size_toArray] <;> omega) (by omega) (by rw [hj]; simpa using ew) ⟨rfl, fin⟩) hs
theorem ix_tup : IxR X (rIxT X.K) := by
  intro value slice pins s σ H x y v u Q I rx ry h hs
  obtain ⟨p, xs, i, z, rfl, rfl, hq, he, q⟩ := h
  cases rx
  obtain ⟨t, rfl⟩ := ry
  obtain ⟨its, r, pl, hz⟩ := I.tuple hq
  obtain ⟨j, h1, h2, h3, h4, h5⟩ := atI_get he
  obtain ⟨w, ew, rw'⟩ := r.get h2
  have hl := r.length
  have hn := line63
  have fin : EP X pins σ Q w s := ⟨z, H, I, rw', q⟩
  exact subscriptTail_builtinR (x := w) pl.typeIs slot_tuple_getitem.lookup
    (getItem_tuple (j := j) (Q := fun r s' => r = w ∧ EP X pins σ Q r s') pl (by omega) (by omega) (by rw [List.size_toArray, ← hl]; exact h1) (by simpa using ew) ⟨rfl, fin⟩) hs
theorem ix_str : IxR X rIxS := by
  intro value slice pins s σ H x y v u Q I rx ry h hs
  obtain ⟨z, i, c, rfl, rfl, hz, he, q⟩ := h
  obtain ⟨t, rfl⟩ := rx
  obtain ⟨t', rfl⟩ := ry
  obtain ⟨j, h1, h2, h3, h4, h5⟩ := atI_get he
  have hl : z.cps.toList.length = z.length := by simp [Str.length]
  rw [hl] at h1 h4 h5
  have hn := line63
  exact tail_any (typeIs_str s z t) slot_str_getitem.lookup (getItem_str (c := c) (by
    have e1 : decide (i < -(2 ^ 63 : Int)) = false := decide_eq_false (by omega)
    have e2 : decide (i ≥ 2 ^ 63) = false := decide_eq_false (by omega)
    rw [e1, e2, Bool.or_false]) (by rw [h1]; simpa using h2) ⟨.str ⟨#[c]⟩, H, I.tok _, ⟨_, rfl⟩, q⟩) hs
theorem mapSeq_set (its : List Value) (n j : Nat) (u : Value) : Obj.mapSeq (·.setIfInBounds j u) { cls := .type "list", data := .seq its.toArray n } = { cls := .type "list", data := .seq (its.set j u).toArray n } := by
  simp [Obj.mapSeq]
theorem Inv.lst {pins : List (Addr × Obj)} {σ : St} {H : Hp} {s : Shared} {p : Addr} {xs : List V} (I : Inv X pins σ H s) (h : H p = some (.lst xs)) :
    ∃ (its : List Value) (n : Nat), Vals xs its ∧ s.heap.get? p = some { cls := .type "list", data := .seq its.toArray n } ∧ xs.length ≤ sizeLine := by
  obtain ⟨z, its, n, r, e⟩ := I.hok p _ h
  exact ⟨its, n, r, e, z⟩
theorem Inv.lstUpd {pins : List (Addr × Obj)} {σ : St} {H : Hp} {s : Shared} {p : Addr} {xs ys : List V} {its its' : List Value} {n n' : Nat} {f : Obj → Obj} (I : Inv X pins σ H s) (h : H p = some (.lst xs))
    (ho : s.heap.get? p = some { cls := .type "list", data := .seq its.toArray n }) (hf : f { cls := .type "list", data := .seq its.toArray n } = { cls := .type "list", data := .seq its'.toArray n' }) (r : Vals ys its') (hz : ys.length ≤ sizeLine) (t : Nat) :
    Inv X pins σ (upd H p (.lst ys)) { s with heap := s.heap.update p f, toks := t } := by
  have e : (s.heap.update p f).get? p = some { cls := .type "list", data := .seq its'.toArray n' } := by
    rw [Heap.get?_update_self f ho (by rw [hf] <;> rfl), hf]
  refine I.write (x := p) (e := p) (by rw [h]; trivial) (.inl rfl) (fun b u hb q => (Heap.get?_update_other _ _ (Ne.symm hb)).trans q) ⟨_, e⟩ ?_
  exact ⟨hz, its', n', r, e⟩
def rSetL : V → V → V → Hp → (Hp → Prop) → Prop := fun o i v H Q => ∃ p xs k j, o = .ref p ∧ i = .int k ∧ H p = some (.lst xs) ∧ ixN xs.length k = some j ∧ Q (upd H p (.lst (xs.set j v)))
theorem set_list : PSet X rSetL := by
  intro pins s σ H o i v ov iv u Q I ro ri rv h
  obtain ⟨p, xs, k, j, rfl, rfl, hp, hj, q⟩ := h
  cases ro
  obtain ⟨t, rfl⟩ := ri
  obtain ⟨its, n, r, ho, hz⟩ := I.lst hp
  obtain ⟨h1, h2, h3, h4⟩ := ixN_seq hj
  have hl := r.length
  have hn := line63
  have I' : Inv X pins σ (upd H p (.lst (xs.set j v))) { s with heap := s.heap.update p (Obj.mapSeq (·.setIfInBounds j u)) } :=
    I.lstUpd hp ho (mapSeq_set its n j u) (r.set rv j) (by rw [List.length_set]; exact hz) s.toks
  by_cases h0 : 0 ≤ k
  · have hk : k.toNat = j := by
      rw [seqIndex_of h0 h4] at h1
      exact Option.some.inj h1
    exact PySem.W.ki_setAt ho h0 (by omega) (by rw [List.size_toArray, ← hl]; exact h4) (by rw [hk]; exact ⟨_, I', q⟩)
  · have hk : (k + (its.toArray.size : Int)).toNat = j := by
      rw [seqIndex_neg (by omega) h3] at h1
      rw [List.size_toArray, ← hl]
      exact Option.some.inj h1
    exact PySem.W.ki_setBack ho (by omega) (by rw [List.size_toArray, ← hl]; exact h3) (by omega) (by rw [hk]; exact ⟨_, I', q⟩)
theorem slice_bounds (lo hi : Option Int) (n : Nat) : (sliceBounds lo hi none n).1 = ((HT.sIx n 0 lo : Nat) : Int) ∧ (sliceBounds lo hi none n).2.1 = ((HT.sIx n n hi : Nat) : Int) ∧ (sliceBounds lo hi none n).2.2 = 1 := by
  refine ⟨?_, ?_, rfl⟩
  · cases lo with
    | none => simp [sliceBounds, HT.sIx]
    | some i =>
      simp only [sliceBounds, HT.sIx, Option.getD_none, show (1 : Int) > 0 by decide, if_true]
      by_cases h : i < 0
      · simp only [h, if_true] <;> omega
      · simp only [h, if_false] <;> omega
  · cases hi with
    | none => simp [sliceBounds, HT.sIx]
    | some i =>
      simp only [sliceBounds, HT.sIx, Option.getD_none, show (1 : Int) > 0 by decide, if_true]
      by_cases h : i < 0
      · simp only [h, if_true] <;> omega
      · simp only [h, if_false] <;> omega
theorem slicePick_cut (its : List Value) (lo hi : Option Int) : slicePick its.toArray lo hi none = ((its.drop (HT.sIx its.length 0 lo)).take (HT.sIx its.length its.length hi - HT.sIx its.length 0 lo)).toArray := by
  obtain ⟨h1, h2, h3⟩ := slice_bounds lo hi its.toArray.size
  unfold slicePick
  rw [h1, h2, h3]
  simp only [sliceRange_one, pick_run, List.size_toArray] <;> rfl
def rSlL (K : PySem.W.Frag) : V → Option Int → Option Int → Hp → VK → Prop := fun x lo hi H Q => ∃ a xs, x = .ref a ∧ SqL K H a xs ∧ ∀ p, H p = none → Q (.ref p) (upd H p (.lst (cutV xs lo hi)))
theorem sl_list : SlR X (rSlL X.K) := by
  intro pins s σ H x v vl vu lo hi sl Q I rx hs pl pu h
  obtain ⟨a, xs, rfl, hx, q⟩ := h
  cases rx
  obtain ⟨its, r, ht, hz⟩ := I.list hx
  have hlen := r.length
  refine ⟨"list", _, slot_list_getitem.lookup, ht.isList.typeIs, ?_⟩
  refine wpAny_getItem_list_slice ht.isList hs pl pu .none (by simp) ?_ (by rw [List.size_toArray] <;> omega)
  rw [slicePick_cut, ← hlen]
  refine ⟨.ref s.heap.objs.size, _, I.laid (t' := s.toks) (o := .lst (cutV xs lo hi)) (fun b ob q => Heap.get?_push_of_some _ q) (Nat.le_refl _) ?_, rfl, q _ (I.hok.fresh (Nat.le_refl _))⟩
  exact ⟨Nat.le_trans (cutV_length xs lo hi) hz, _, 0, (r.drop (HT.sIx xs.length 0 lo)).take (HT.sIx xs.length xs.length hi - HT.sIx xs.length 0 lo), Heap.get?_push_size _ rfl⟩
def flatV : V → Bool
  | .non => true
  | .bl _ => true
  | .int _ => true
  | .str _ => true
  | _ => false
def eqV : V → V → Bool
  | .non, .non => true
  | .bl a, .bl b => a == b
  | .bl a, .int b => (if a then 1 else 0) == b
  | .int a, .bl b => a == (if b then 1 else 0)
  | .int a, .int b => a == b
  | .str a, .str b => a == b
  | _, _ => false
theorem eqAt_V {A : Around} {s : Shared} {y x : V} {u v : Value} (ry : RelV y u) (rx : RelV x v) (fy : flatV y = true) (fx : flatV x = true) : SeqAt.EqAt A s u v (eqV y x) := by
  cases y with
  | non =>
    cases ry
    cases x with
    | non => cases rx; exact SeqAt.EqAt.same _
    | bl b => cases rx; exact SeqAt.EqAt.none_bool b
    | int b => obtain ⟨t, rfl⟩ := rx; exact SeqAt.EqAt.none_int b t
    | str b => obtain ⟨t, rfl⟩ := rx; exact SeqAt.EqAt.none_str b t
    | _ => exact absurd (show false = true from fx) Bool.false_ne_true
  | bl a =>
    cases ry
    cases x with
    | non => cases rx; exact SeqAt.EqAt.bool_none a
    | bl b => cases rx; exact SeqAt.EqAt.bool_bool a b
    | int b => obtain ⟨t, rfl⟩ := rx; exact SeqAt.EqAt.bool_int a b t
    | str b => obtain ⟨t, rfl⟩ := rx; exact SeqAt.EqAt.bool_str a b t
    | _ => exact absurd (show false = true from fx) Bool.false_ne_true
  | int a =>
    obtain ⟨t', rfl⟩ := ry
    cases x with
    | non => cases rx; exact SeqAt.EqAt.int_none a t'
    | bl b => cases rx; exact SeqAt.EqAt.int_bool a t' b
    | int b => obtain ⟨t, rfl⟩ := rx; exact SeqAt.EqAt.int_int a t' b t
    | str b => obtain ⟨t, rfl⟩ := rx; exact SeqAt.EqAt.int_str a t' b t
    | _ => exact absurd (show false = true from fx) Bool.false_ne_true
  | str a =>
    obtain ⟨t', rfl⟩ := ry
    cases x with
    | non => cases rx; exact SeqAt.EqAt.str_none a t'
    | bl b => cases rx; exact SeqAt.EqAt.str_bool a t' b
    | int b => obtain ⟨t, rfl⟩ := rx; exact SeqAt.EqAt.str_int a t' b t
    | str b => obtain ⟨t, rfl⟩ := rx; exact SeqAt.EqAt.str_str a t' b t
    | _ => exact absurd (show false = true from fx) Bool.false_ne_true
  | _ => exact absurd (show false = true from fy) Bool.false_ne_true
theorem call_len_seq : CallR X (.builtin "len") (fun xs H Q => ∃ p ys, xs = [.ref p] ∧ (SqL X.K H p ys ∨ SqT X.K H p ys) ∧ Q (.int ys.length) H) := by
  intro pins s σ H xs us Q I r h
  obtain ⟨p, ys, rfl, hq, q⟩ := h
  obtain ⟨u, rfl, rx⟩ := vals1 r
  cases rx
  have hn := line63
  rcases hq with hq | hq
  · obtain ⟨its, r', pl, hz⟩ := I.list hq
    have hlen := r'.length
    exact Calls.call_len_list pl.isList (by simp only [List.size_toArray] <;> omega) ⟨.int ys.length, H, I.tok _, ⟨s.toks + 1, by rw [List.size_toArray, hlen]⟩, q⟩
  · obtain ⟨its, r', pl, hz⟩ := I.tuple hq
    have hlen := r'.length
    exact len_tuple pl (by simp only [List.size_toArray] <;> omega) ⟨.int ys.length, H, I.tok _, ⟨s.toks + 1, by rw [List.size_toArray, hlen]⟩, q⟩
theorem call_len_str : CallR X (.builtin "len") (fun xs H Q => ∃ z, xs = [.str z] ∧ z.length ≤ sizeLine ∧ Q (.int z.length) H) := by
  intro pins s σ H xs us Q I r h
  obtain ⟨z, rfl, hz, q⟩ := h
  obtain ⟨u, rfl, t, rfl⟩ := vals1 r
  have hn := line63
  exact len_str (by omega) ⟨.int z.length, H, I.tok _, ⟨_, rfl⟩, q⟩
theorem call_list_of : CallR X (.type "list") (fun xs H Q => ∃ p ys, xs = [.ref p] ∧ (SqL X.K H p ys ∨ SqT X.K H p ys) ∧ ∀ l, H l = none → Q (.ref l) (upd H l (.lst ys))) := by
  intro pins s σ H xs us Q I r h
  obtain ⟨p, ys, rfl, hq, q⟩ := h
  obtain ⟨u, rfl, rx⟩ := vals1 r
  cases rx
  have fin : ∀ (its : List Value), Vals ys its → ys.length ≤ sizeLine → ∀ (h' : Heap) (c' : Nat), (∀ b o', s.heap.get? b = some o' → h'.get? b = some o') →
      h'.get? s.heap.objs.size = some { cls := .type "list", dict := none, data := .seq its.toArray c', slots := #[] } → EP X pins σ Q (.ref s.heap.objs.size) { s with heap := h' } := fun its r' hz h' c' kp e =>
    ⟨.ref s.heap.objs.size, _, I.laid (t' := s.toks) kp (Nat.le_refl _) (show ObjOk X.prog X.w _ h' _ (.lst ys) from ⟨hz, its, c', r', e⟩), rfl, q _ (I.hok.fresh (Nat.le_refl _))⟩
  rcases hq with hq | hq
  · obtain ⟨its, r', pl, hz⟩ := I.list hq
    have hlen := r'.length
    obtain ⟨o, ho, hc, n, hd⟩ := pl.isList
    exact call_list_seq p (.inl rfl) ho hc hd (fun h' c' kp e => fin its r' hz h' c' kp e) (by simp only [List.size_toArray] <;> omega)
  · obtain ⟨its, r', pl, hz⟩ := I.tuple hq
    have hlen := r'.length
    obtain ⟨o, ho, hc, n, hd⟩ := pl
    exact call_list_seq p (.inr rfl) ho hc hd (fun h' c' kp e => fin its r' hz h' c' kp e) (by simp only [List.size_toArray] <;> omega)
def tyV (K : PySem.W.Frag) (T : String) (x : V) (H : Hp) : Prop := match x with
  | .str _ => T = "str"
  | .int _ => T = "int"
  | .ref p => (T = "list" ∧ ∃ xs, SqL K H p xs) ∨ (T = "tuple" ∧ ∃ o, K.lookup p = some o ∧ o.cls = .type "tuple" ∧ o.dict = none) ∨
      (T = "dict" ∧ ((∃ kvs, H p = some (.dK kvs)) ∨ ∃ kvs, H p = some (.dT kvs))) ∨ (T = "set" ∧ ∃ S n, H p = some (.set S n))
  | _ => False
theorem tyV_is {pins : List (Addr × Obj)} {σ : St} {H : Hp} {s : Shared} {T : String} {x : V} {v : Value} (I : Inv X pins σ H s) (r : RelV x v) (ty : tyV X.K T x H) :
    s.TypeIs v T ∧ ∀ a, v = .ref a → ∃ ob, s.heap.get? a = some ob ∧ ob.dict = none := by
  cases x with
  | str z =>
    obtain ⟨t, rfl⟩ := r
    cases (show T = "str" from ty)
    exact ⟨typeIs_str s z t, fun _ e => nomatch e⟩
  | int i =>
    obtain ⟨t, rfl⟩ := r
    cases (show T = "int" from ty)
    exact ⟨typeIs_int s i t, fun _ e => nomatch e⟩
  | ref p =>
    cases r
    rcases ty with ⟨rfl, xs, hq⟩ | ⟨rfl, o, hk, hc, hd⟩ | ⟨rfl, hk⟩ | ⟨rfl, S, n, hk⟩
    · obtain ⟨its, _, pl, _⟩ := I.list hq
      refine ⟨pl.isList.typeIs, fun a e => ?_⟩
      cases e
      obtain ⟨o, n, e, c, hd, _⟩ := pl
      exact ⟨o, e, hd⟩
    · refine ⟨⟨o, I.kIn p o hk, hc⟩, fun a e => ?_⟩
      cases e
      exact ⟨o, I.kIn _ o hk, hd⟩
    · have z : ∃ o, s.heap.get? p = some o ∧ o.ExactDict := by
        rcases hk with ⟨kvs, hk⟩ | ⟨kvs, hk⟩
        · obtain ⟨_, _, _, _, o, _, _, e, ex, _⟩ := I.hok p _ hk
          exact ⟨o, e, ex⟩
        · obtain ⟨_, _, _, _, o, _, _, e, ex, _⟩ := I.hok p _ hk
          exact ⟨o, e, ex⟩
      obtain ⟨o, e, ex⟩ := z
      refine ⟨⟨o, e, ex.1⟩, fun a e2 => ?_⟩
      cases e2
      exact ⟨o, e, ex.2.1⟩
    · obtain ⟨o, _, _, _, e, ex, _⟩ := I.hok p _ hk
      refine ⟨⟨o, e, ex.1⟩, fun a e2 => ?_⟩
      cases e2
      exact ⟨o, e, ex.2.1⟩
  | _ => exact False.elim ty
variable {o e : Expr} {es : List Expr} {to : TE} {t : TA} {name : Str} {apos cpos : Pos} {T id : String} {r : V → List V → Hp → VK → Prop}
end
end L2
namespace L2
open PySem PySem.Spec PyProof.Rows
def MtM (X : Cx) (id : String) (r : V → List V → Hp → VK → Prop) : Prop :=
  ∀ (pins : List (Addr × Obj)) (s : Shared) (σ : St) (H : Hp) (x : V) (xs : List V) (v : Value) (us : List Value) (Q : VK), Inv X pins σ H s → RelV x v → Vals xs us → r x xs H Q →
    wpAny (model X.prog X.w) X.A (call (.builtin id) (v :: us)) (EP X pins σ Q) X.xe s
theorem Vals.one : ∀ {x : V} {us : List Value}, Vals [x] us → ∃ u, us = [u] ∧ RelV x u
  | _, _, .cons r .nil => ⟨_, rfl, r⟩
theorem Vals.zero : ∀ {us : List Value}, Vals [] us → us = []
  | _, .nil => rfl
theorem Vals.dropLast {xs : List V} {us : List Value} (h : Vals xs us) : Vals xs.dropLast us.dropLast := by
  induction h with
  | nil => exact .nil
  | cons r t ih =>
    cases t with
    | nil => exact .nil
    | cons q t' => exact .cons r ih
theorem Vals.eraseIdx : ∀ {xs : List V} {us : List Value} (i : Nat), Vals xs us → Vals (xs.eraseIdx i) (us.eraseIdx i)
  | _, _, _, .nil => .nil
  | _, _, 0, .cons _ t => t
  | _, _, i + 1, .cons r t => .cons r (Vals.eraseIdx i t)
theorem Vals.rep {xs : List V} {us : List Value} (h : Vals xs us) : ∀ k : Nat, Vals (List.replicate k xs).flatten (List.replicate k us).flatten
  | 0 => .nil
  | k + 1 => by
    rw [List.replicate_succ, List.replicate_succ, List.flatten_cons, List.flatten_cons]
    exact Vals.append h (Vals.rep h k)
theorem erase_last {α : Type} (l : List α) : l.eraseIdx (l.length - 1) = l.dropLast := by
  induction l with
  | nil => rfl
  | cons a r ih =>
    cases r with
    | nil => rfl
    | cons b r =>
      have e : (a :: b :: r).length - 1 = ((b :: r).length - 1) + 1 := by
        have h1 : (a :: b :: r).length = r.length + 2 := rfl
        have h2 : (b :: r).length = r.length + 1 := rfl
        omega
      rw [e, List.eraseIdx_cons_succ, ih]
      all_goals rfl
theorem len_erase {α : Type} : ∀ (l : List α) (i : Nat), (l.eraseIdx i).length ≤ l.length
  | [], _ => Nat.le_refl _
  | _ :: _, 0 => Nat.le_succ _
  | _ :: r, i + 1 => Nat.succ_le_succ (len_erase r i)
theorem foldl_rep (its : List Value) : ∀ (k : Nat) (acc : List Value),
    List.foldl (fun x1 x2 => x1 ++ x2) acc.toArray (List.replicate k its.toArray) = (acc ++ (List.replicate k its).flatten).toArray
  | 0, acc => by simp
  | k + 1, acc => by
    have e : acc.toArray ++ its.toArray = (acc ++ its).toArray := by simp
    have e2 : (acc ++ its) ++ (List.replicate k its).flatten = acc ++ (List.replicate (k + 1) its).flatten := by
      rw [List.replicate_succ, List.flatten_cons, List.append_assoc]
    rw [← e2, ← foldl_rep its k (acc ++ its), ← e, List.replicate_succ, List.foldl_cons]
section
variable {X : Cx} {pins : List (Addr × Obj)} {σ : St} {H : Hp} {s : Shared} {l b : Addr} {xs ys zs : List V}
theorem Inv.lset {its its' : List Value} {n : Nat} {f : Array Value → Array Value} {t' : Nat} (I : Inv X pins σ H s) (hH : H l = some (.lst xs))
    (e : s.heap.get? l = some { cls := .type "list", data := .seq its.toArray n }) (hf : f its.toArray = its'.toArray) (hv : Vals ys its') (hz : ys.length ≤ sizeLine) :
    Inv X pins σ (upd H l (.lst ys)) { s with heap := s.heap.update l (Obj.mapSeq f), toks := t' } := by
  have q := PySem.IsL.update e f
  rw [hf] at q
  refine I.write (x := l) (e := l) (by rw [hH]; exact trivial) (.inl rfl) (fun b' u hb hu => (Heap.get?_update_other s.heap (Obj.mapSeq f) (Ne.symm hb)).trans hu) ⟨_, q⟩ ?_
  exact ⟨hz, its', _, hv, q⟩
theorem Inv.lnew {its : List Value} {t' : Nat} (I : Inv X pins σ H s) (hv : Vals ys its) (hz : ys.length ≤ sizeLine) :
    Inv X pins σ (upd H s.heap.objs.size (.lst ys)) { s with heap := s.heap.push { cls := .type "list", data := .seq its.toArray }, toks := t' } :=
  I.laid (fun _ _ q => Heap.get?_push_of_some _ q) (Nat.le_refl _) ⟨hz, its, 0, hv, Heap.get?_push_size _ rfl⟩
theorem Inv.fresh (I : Inv X pins σ H s) : H s.heap.objs.size = none := I.hok.fresh (Nat.le_refl _)
theorem Inv.lstM (I : Inv X pins σ H s) (hH : H l = some (.lst xs)) : xs.length ≤ sizeLine ∧ ∃ (its : List Value) (n : Nat), Vals xs its ∧ xs.length = its.length ∧ s.heap.get? l = some { cls := .type "list", data := .seq its.toArray n } := by
  obtain ⟨z, its, n, r, e⟩ := I.hok l _ hH
  exact ⟨z, its, n, r, r.length, e⟩
theorem notLongL {n : Nat} (h : n ≤ sizeLine) : Builtin.List.listTooLong n = false := by
  unfold Builtin.List.listTooLong
  exact decide_eq_false (by omega)
end
section
variable {X : Cx}
def rAppend : V → List V → Hp → VK → Prop := fun x vs H Q => ∃ l xs y, x = .ref l ∧ vs = [y] ∧ H l = some (.lst xs) ∧ xs.length < sizeLine ∧ Q .non (upd H l (.lst (xs ++ [y])))
theorem mt_append : MtM X "list.append" rAppend := by
  intro pins s σ H x vs v us Q I rx rv h
  obtain ⟨l, xs, y, rfl, rfl, hH, hz, q⟩ := h
  cases rx
  obtain ⟨u, rfl, ru⟩ := rv.one
  obtain ⟨z, its, n, r, hl, e⟩ := I.lstM hH
  refine call_meets F.slot_list_append ⟨_, e, rfl⟩ F.entry_list_append (F.args_list_append_2 _ _) (PySem.list_append l its.toArray n u (by rw [List.size_toArray]; omega)) ⟨e, ?_⟩
  refine ⟨.non, _, I.lset (its' := its ++ [u]) hH e (by simp) (r.append (.cons ru .nil)) ?_, rfl, q⟩
  rw [List.length_append, List.length_singleton]
  omega
def rExtend : V → List V → Hp → VK → Prop := fun x vs H Q => ∃ l b xs zs, x = .ref l ∧ vs = [.ref b] ∧ H l = some (.lst xs) ∧ H b = some (.lst zs) ∧ xs.length + zs.length ≤ sizeLine ∧ Q .non (upd H l (.lst (xs ++ zs)))
theorem mt_extend : MtM X "list.extend" rExtend := by
  intro pins s σ H x vs v us Q I rx rv h
  obtain ⟨l, b, xs, zs, rfl, rfl, hH, hB, hz, q⟩ := h
  cases rx
  obtain ⟨u, rfl, ru⟩ := rv.one
  cases ru
  obtain ⟨z, its, n, r, hl, e⟩ := I.lstM hH
  obtain ⟨z2, its2, n2, r2, hl2, e2⟩ := I.lstM hB
  have hsz : its.toArray.size + its2.toArray.size ≤ sizeLine := by rw [List.size_toArray, List.size_toArray]; omega
  have hlong : ¬ (!its.toArray.isEmpty && Builtin.List.listTooLong (its.toArray.size + its2.toArray.size)) = true := by
    rw [notLongL hsz, Bool.and_false]
    exact Bool.false_ne_true
  refine call_meets F.slot_list_extend ⟨_, e, rfl⟩ F.entry_list_extend (F.args_list_extend_2 _ _)
    (AutoSeq1.list_extend_list_list_0 l its.toArray n b its2.toArray n2 hlong (by rw [List.size_toArray]; omega) (by omega)) ⟨e, e2, ?_⟩
  refine ⟨.non, _, I.lset (its' := its ++ its2) hH e (by simp) (r.append r2) ?_, rfl, q⟩
  rw [List.length_append]
  omega
def rPop : V → List V → Hp → VK → Prop := fun x vs H Q => ∃ l xs y, x = .ref l ∧ vs = [] ∧ H l = some (.lst xs) ∧ xs[xs.length - 1]? = some y ∧ Q y (upd H l (.lst xs.dropLast))
theorem mt_pop : MtM X "list.pop" rPop := by
  intro pins s σ H x vs v us Q I rx rv h
  obtain ⟨l, xs, y, rfl, rfl, hH, hy, q⟩ := h
  cases rx
  have hus := rv.zero
  subst hus
  obtain ⟨z, its, n, r, hl, e⟩ := I.lstM hH
  obtain ⟨u, hu, ru⟩ := r.get hy
  have hy' : its.toArray[its.toArray.size - 1]? = some u := by
    show its.toArray[its.length - 1]? = some u
    rw [← Array.getElem?_toList, ← hl]
    exact hu
  refine call_meets F.slot_list_pop ⟨_, e, rfl⟩ F.entry_list_pop (F.args_list_pop_1 _) (MeetsSeq.list_pop_last l its.toArray n u hy' (by rw [List.size_toArray]; omega)) ⟨e, ?_⟩
  refine ⟨y, _, I.lset (its' := its.dropLast) hH e ?_ r.dropLast ?_, ru, q⟩
  · show its.toArray.eraseIdxIfInBounds (its.toArray.size - 1) = its.dropLast.toArray
    rw [List.size_toArray, List.eraseIdxIfInBounds_toArray, erase_last]
  · rw [List.length_dropLast]
    omega
def rPopAt : V → List V → Hp → VK → Prop := fun x vs H Q => ∃ l xs i k y, x = .ref l ∧ vs = [.int i] ∧ H l = some (.lst xs) ∧ -(2 ^ 63) ≤ i ∧ i < 2 ^ 63 ∧ seqIndex? i xs.length = some k ∧ xs[k]? = some y ∧ Q y (upd H l (.lst (xs.eraseIdx k)))
theorem mt_popAt : MtM X "list.pop" rPopAt := by
  intro pins s σ H x vs v us Q I rx rv h
  obtain ⟨l, xs, i, k, y, rfl, rfl, hH, h1, h2, hk, hy, q⟩ := h
  cases rx
  obtain ⟨u, rfl, ru⟩ := rv.one
  obtain ⟨t, rfl⟩ := ru
  obtain ⟨z, its, n, r, hl, e⟩ := I.lstM hH
  obtain ⟨w, hw, rw'⟩ := r.get hy
  refine call_meets F.slot_list_pop ⟨_, e, rfl⟩ F.entry_list_pop (F.args_list_pop_2 _ _)
    (MeetsSeq.list_pop_at l its.toArray n i t k w (fitsIndex_both h1 h2) (by rw [List.size_toArray, ← hl]; exact hk) (by rw [← Array.getElem?_toList]; exact hw) (by rw [List.size_toArray]; omega)) ⟨e, ?_⟩
  refine ⟨y, _, I.lset (its' := its.eraseIdx k) hH e ?_ (r.eraseIdx k) ?_, rw', q⟩
  · show its.toArray.eraseIdxIfInBounds k = (its.eraseIdx k).toArray
    rw [List.eraseIdxIfInBounds_toArray]
  · have := len_erase xs k
    omega
def rCat : R2 := fun x y H Q => ∃ l b xs zs, x = .ref l ∧ y = .ref b ∧ H l = some (.lst xs) ∧ H b = some (.lst zs) ∧ xs.length + zs.length ≤ sizeLine ∧ ∀ p, H p = none → Q (.ref p) (upd H p (.lst (xs ++ zs)))
theorem op_cat : OpR X (binaryOp .Add) rCat := by
  intro pins s σ H x y v u Q I rx ry h
  obtain ⟨l, b, xs, zs, rfl, rfl, hH, hB, hz, q⟩ := h
  cases rx
  cases ry
  obtain ⟨z, its, n, r, hl, e⟩ := I.lstM hH
  obtain ⟨z2, its2, n2, r2, hl2, e2⟩ := I.lstM hB
  refine PySem.P.add_list e e2 ?_ (by rw [List.size_toArray, List.size_toArray]; omega)
  have ea : its.toArray ++ its2.toArray = (its ++ its2).toArray := by simp
  rw [ea]
  exact ⟨.ref _, _, I.lnew (t' := s.toks) (r.append r2) (by rw [List.length_append]; omega), rfl, q _ I.fresh⟩
def rRep : R2 := fun x y H Q => ∃ l k xs, x = .ref l ∧ y = .int k ∧ H l = some (.lst xs) ∧ -(2 ^ 63) ≤ k ∧ k < 2 ^ 63 ∧ xs.length * k.toNat ≤ sizeLine ∧
  ∀ p, H p = none → Q (.ref p) (upd H p (.lst (List.replicate k.toNat xs).flatten))
theorem len_rep {α : Type} (xs : List α) (k : Nat) : (List.replicate k xs).flatten.length = k * xs.length := by
  induction k with
  | zero => simp
  | succ k ih => rw [List.replicate_succ, List.flatten_cons, List.length_append, ih, Nat.succ_mul, Nat.add_comm]
theorem op_rep : OpR X (binaryOp .Mult) rRep := by
  intro pins s σ H x y v u Q I rx ry h
  obtain ⟨l, k, xs, rfl, rfl, hH, h1, h2, hz, q⟩ := h
  cases rx
  obtain ⟨t, rfl⟩ := ry
  obtain ⟨z, its, n, r, hl, e⟩ := I.lstM hH
  have hlen : its.toArray.size * k.toNat ≤ sizeLine := by rw [List.size_toArray, ← hl]; exact hz
  have hcap : ¬ its.toArray.size * k.toNat > (2 ^ 63 - 1) / 8 := by
    have : (sizeLine : Nat) ≤ (2 ^ 63 - 1) / 8 := by decide
    omega
  have hfit : ¬ (!Builtin.List.listFitsIndex k) = true := by
    rw [fitsIndex_both h1 h2]
    exact Bool.false_ne_true
  have hlong : ¬ Builtin.List.listTooLong (its.toArray.size * k.toNat) = true := by
    rw [notLongL hlen]
    exact Bool.false_ne_true
  have hnew : List.foldl (fun x1 x2 => x1 ++ x2) #[] (List.replicate (if its.toArray.isEmpty = true then 0 else k.toNat) its.toArray) = (List.replicate k.toNat its).flatten.toArray := by
    have f0 : ∀ m : Nat, List.foldl (fun x1 x2 => x1 ++ x2) #[] (List.replicate m its.toArray) = (List.replicate m its).flatten.toArray := fun m => by
      have := foldl_rep its m []
      rw [List.nil_append] at this
      exact this
    rw [f0]
    cases its with
    | nil => simp
    | cons a r' => rw [if_neg (by simp)]
  refine wpAny_binaryOp_repeat_ref (T := "list") (U := "int") (by decide) ⟨_, e, rfl⟩ (fun s' => typeIs_int s' k t) noFill_list_mul F.fills_int_mul F.slot_int_rmul repeat_list F.slot_int_index.lookup
    (call_meets F.slot_int_rmul (typeIs_int s k t) F.entry_int_rmul (F.args_int_rmul_2 _ _) (int___rmul___int_list k t l its.toArray n)
      ⟨e, rfl, ⟨_, e, rfl⟩, call_meets F.slot_list_mul ⟨_, e, rfl⟩ F.entry_list_mul (F.args_list_mul_2 _ _) (AutoListH.list___mul___list_int_3 l its.toArray n k t hfit hcap hlong) ⟨e, ?_⟩⟩)
  rw [hnew]
  exact ⟨.ref _, _, I.lnew (t' := s.toks) (r.rep k.toNat) (by rw [len_rep, Nat.mul_comm]; exact hz), rfl, q _ I.fresh⟩
end
section
variable {prog : Program} {w : World} {A : Around} {E : Value → Shared → Prop} {s : Shared}
end
section
variable {X : Cx}
end
end L2

namespace L2
open PySem PySem.Spec PyProof.Rows
section
variable {κ : Type} [DecidableEq κ]
def valV (kvs : List (κ × V)) (k : κ) : Option V := (kvs.find? fun kv => decide (kv.1 = k)).map (·.2)
def putK (kvs : List (κ × V)) (k : κ) (v : V) : List (κ × V) :=
  if (kvs.any fun kv => decide (kv.1 = k)) = true then kvs.map (fun kv => if kv.1 = k then (kv.1, v) else kv) else kvs ++ [(k, v)]
def dropK (kvs : List (κ × V)) (k : κ) : List (κ × V) := kvs.filter fun kv => decide (kv.1 ≠ k)
theorem valV_pos {p : κ × V} {r : List (κ × V)} {k : κ} (e : p.1 = k) : valV (p :: r) k = some p.2 := by simp [valV, List.find?_cons, e]
theorem valV_neg {p : κ × V} {r : List (κ × V)} {k : κ} (e : ¬ p.1 = k) : valV (p :: r) k = valV r k := by simp [valV, List.find?_cons, e]
theorem valV_any (k : κ) : ∀ kvs : List (κ × V), (kvs.any fun kv => decide (kv.1 = k)) = (valV kvs k).isSome
  | [] => rfl
  | p :: r => by
    rw [List.any_cons]
    by_cases e : p.1 = k
    · simp only [valV_pos e, decide_eq_true e, Bool.true_or, Option.isSome_some]
    · rw [valV_neg e, decide_eq_false e, Bool.false_or]; exact valV_any k r
theorem length_putK (kvs : List (κ × V)) (k : κ) (v : V) : (putK kvs k v).length ≤ kvs.length + 1 := by
  unfold putK
  split
  · rw [List.length_map]; omega
  · rw [List.length_append, List.length_cons, List.length_nil]; omega
theorem RelO.isSome_eq {o : Option V} {u : Option Value} (r : RelO o u) : o.isSome = u.isSome := by
  cases o with
  | none => cases u with
    | none => rfl
    | some _ => exact (show False from r).elim
  | some _ => cases u with
    | none => exact (show False from r).elim
    | some _ => rfl
theorem RelO.getD {o : Option V} {u : Option Value} {d : V} {d' : Value} (r : RelO o u) (rd : RelV d d') : RelV (o.getD d) (u.getD d') := by
  cases o with
  | none => cases u with
    | none => exact rd
    | some _ => exact (show False from r).elim
  | some _ => cases u with
    | none => exact (show False from r).elim
    | some _ => exact r
theorem KV.val {kvs : List (κ × V)} {vs : List (κ × Value)} (r : KV kvs vs) (k : κ) : RelO (valV kvs k) (valueAt vs k) := by
  unfold KV at r
  induction r with
  | nil => exact True.intro
  | @cons p q ps qs h t ih =>
    obtain ⟨h1, h2⟩ := h
    by_cases e : p.1 = k
    · have e' : q.1 = k := h1.symm.trans e
      have b : valueAt (q :: qs) k = some q.2 := by simp [valueAt, List.find?_cons, e']
      rw [valV_pos e, b]; exact h2
    · have e' : ¬ q.1 = k := fun z => e (h1.trans z)
      have b : valueAt (q :: qs) k = valueAt qs k := by simp [valueAt, List.find?_cons, e']
      rw [valV_neg e, b]; exact ih
theorem KV.any {kvs : List (κ × V)} {vs : List (κ × Value)} (r : KV kvs vs) (k : κ) : (kvs.any fun kv => decide (kv.1 = k)) = vs.any fun kv => decide (kv.1 = k) := by
  unfold KV at r
  induction r with
  | nil => rfl
  | cons h t ih => rw [List.any_cons, List.any_cons, ih, h.1]
theorem KV.repl {kvs : List (κ × V)} {vs : List (κ × Value)} (r : KV kvs vs) (k : κ) {y : V} {u : Value} (ry : RelV y u) :
    KV (kvs.map fun kv => if kv.1 = k then (kv.1, y) else kv) (vs.map fun kv => if kv.1 = k then (kv.1, u) else kv) := by
  unfold KV at r ⊢
  induction r with
  | nil => exact .nil
  | @cons p q ps qs h t ih =>
    rw [List.map_cons, List.map_cons]
    refine .cons ?_ ih
    obtain ⟨h1, h2⟩ := h
    by_cases e : p.1 = k
    · rw [if_pos e, if_pos (h1.symm.trans e)]; exact ⟨h1, ry⟩
    · rw [if_neg e, if_neg (fun z => e (h1.trans z))]; exact ⟨h1, h2⟩
theorem KV.put {kvs : List (κ × V)} {vs : List (κ × Value)} (r : KV kvs vs) (k : κ) {y : V} {u : Value} (ry : RelV y u) : KV (putK kvs k y) (stored vs k u) := by
  unfold putK stored
  rw [r.any k]
  by_cases e : (vs.any fun kv => decide (kv.1 = k)) = true
  · rw [if_pos e, if_pos e]; exact r.repl k ry
  · rw [if_neg e, if_neg e]; exact Paired.snoc r ⟨rfl, ry⟩
theorem KV.drop {kvs : List (κ × V)} {vs : List (κ × Value)} (r : KV kvs vs) (k : κ) : KV (dropK kvs k) (without vs k) := by
  unfold KV at r ⊢
  unfold dropK without
  induction r with
  | nil => exact .nil
  | @cons p q ps qs h t ih =>
    obtain ⟨h1, h2⟩ := h
    rw [List.filter_cons, List.filter_cons]
    by_cases e : p.1 = k
    · have a : ¬ decide (p.1 ≠ k) = true := by simp [e]
      have b : ¬ decide (q.1 ≠ k) = true := by simp [h1.symm.trans e]
      rw [if_neg a, if_neg b]; exact ih
    · have e' : ¬ q.1 = k := fun z => e (h1.trans z)
      have a : decide (p.1 ≠ k) = true := by simp [e]
      have b : decide (q.1 ≠ k) = true := by simp [e']
      rw [if_pos a, if_pos b]; exact .cons ⟨h1, h2⟩ ih
theorem KV.length {kvs : List (κ × V)} {vs : List (κ × Value)} (r : KV kvs vs) : kvs.length = vs.length := Paired.length r
end
theorem kV_is {P : Program} {w : World} {k : Key} {u : Value} (r : RelV (kV k) u) : (mixKind P w).is k u = true := by
  cases k with
  | inl i => obtain ⟨t, e⟩ := (show ∃ t, u = Value.int i t from r); subst e; exact mixKind_int P w i t
  | inr x => obtain ⟨t, e⟩ := (show ∃ t, u = Value.str x t from r); subst e; exact mixKind_str P w x t
theorem items_are {P : Program} {w : World} : ∀ {ks : List Key} {us : List Value}, Vals (ks.map kV) us → ItemsAre (mixKind P w) ks us
  | [], _, r => by rw [List.map_nil] at r; cases r; exact .nil
  | k :: ks, _, r => by
    rw [List.map_cons] at r
    cases r with
    | cons h t => exact .cons (kV_is h) (items_are t)
abbrev KT (H : Hp) : List (List Key × V) → List (List Key × Addr × Value) → Prop := Paired fun p q => p.1 = q.1 ∧ H q.2.1 = some (.tup (p.1.map kV)) ∧ RelV p.2 q.2.2
theorem KT.val {H : Hp} {kvs : List (List Key × V)} {xs : List (List Key × Addr × Value)} (r : KT H kvs xs) (k : List Key) : RelO (valV kvs k) ((atKey xs k).map (·.2)) := by
  induction r with
  | nil => exact True.intro
  | @cons p q ps qs h t ih =>
    obtain ⟨h1, _, h2⟩ := h
    by_cases e : p.1 = k
    · have e' : q.1 = k := h1.symm.trans e
      have b : atKey (q :: qs) k = some q.2 := by simp [atKey, List.find?_cons, e']
      rw [valV_pos e, b]; exact h2
    · have e' : ¬ q.1 = k := fun z => e (h1.trans z)
      have b : atKey (q :: qs) k = atKey qs k := by simp [atKey, List.find?_cons, e']
      rw [valV_neg e, b]; exact ih
theorem KT.repl {H : Hp} {kvs : List (List Key × V)} {xs : List (List Key × Addr × Value)} (r : KT H kvs xs) (k : List Key) {y : V} {u : Value} (ry : RelV y u) :
    KT H (kvs.map fun kv => if kv.1 = k then (kv.1, y) else kv) (xs.map (putAt k u)) := by
  induction r with
  | nil => exact .nil
  | @cons p q ps qs h t ih =>
    rw [List.map_cons, List.map_cons]
    refine .cons ?_ ih
    obtain ⟨h1, h2, h3⟩ := h
    unfold putAt
    by_cases e : p.1 = k
    · rw [if_pos e, if_pos (h1.symm.trans e)]; exact ⟨h1, h2, ry⟩
    · rw [if_neg e, if_neg (fun z => e (h1.trans z))]; exact ⟨h1, h2, h3⟩
theorem KT.put {H : Hp} {kvs : List (List Key × V)} {xs : List (List Key × Addr × Value)} (r : KT H kvs xs) (k : List Key) {b : Addr} {y : V} {u : Value} (hb : H b = some (.tup (k.map kV))) (ry : RelV y u) :
    KT H (putK kvs k y) (storedH xs k b u) := by
  have e : (kvs.any fun kv => decide (kv.1 = k)) = (atKey xs k).isSome := by
    rw [valV_any, (r.val k).isSome_eq, Option.isSome_map]
  unfold putK storedH
  rw [e]
  by_cases q : (atKey xs k).isSome = true
  · rw [if_pos q, if_pos q]; exact r.repl k ry
  · rw [if_neg q, if_neg q]; exact Paired.snoc r ⟨rfl, hb, ry⟩
theorem KT.keeps {H H' : Hp} {kvs : List (List Key × V)} {xs : List (List Key × Addr × Value)} (r : KT H kvs xs) (ht : ∀ b ys, H b = some (.tup ys) → H' b = some (.tup ys)) : KT H' kvs xs :=
  Paired.mapP r fun _ _ z => ⟨z.1, ht _ _ z.2.1, z.2.2⟩
section
variable {P : Program} {w : World} {H : Hp} {h : Heap} {a : Addr}
theorem rd_of {u : HO} (ok : HOk P w H h) (e : Rd H a u) : ObjOk P w H h a u := e.ok ok
theorem dk_rd {kvs : List (Key × V)} (ok : HOk P w H h) (e : Rd H a (.dK kvs)) : kvs.length ≤ sizeLine ∧ (a == sysModules) = false ∧ ∃ vs, KV kvs vs ∧ h.DictOf (mixKind P w) a vs :=
  show ObjOk P w H h a (.dK kvs) from rd_of ok e
theorem dk_of {kvs : List (Key × V)} (ok : HOk P w H h) (e : H a = some (.dK kvs)) : kvs.length ≤ sizeLine ∧ (a == sysModules) = false ∧ ∃ vs, KV kvs vs ∧ h.DictOf (mixKind P w) a vs := dk_rd ok (.inl e)
theorem key_of {ks : List Key} (ok : HOk P w H h) (e : H a = some (.tup (ks.map kV))) : (tupleKind (mixKind P w)).is h ks a := by
  obtain ⟨_, its, r, o, h1, h2, n, h3⟩ := (show ObjOk P w H h a (.tup (ks.map kV)) from ok a _ e)
  exact ⟨o, its.toArray, n, h1, h2, h3, by simpa using items_are r⟩
theorem dt_rd {kvs : List (List Key × V)} (ok : HOk P w H h) (e : Rd H a (.dT kvs)) : kvs.length ≤ sizeLine ∧ (a == sysModules) = false ∧
    ∃ xs, KT H kvs xs ∧ h.DictOfH (tupleKind (mixKind P w)) a xs := by
  obtain ⟨z, y, xs, r, o, es, ep, h1, h2, h3, h4, h5⟩ := (show ObjOk P w H h a (.dT kvs) from rd_of ok e)
  refine ⟨z, y, xs, r, o, es, ep, h1, h2, h3, h4, fun x hx => ?_, h5⟩
  have all : ∀ {l : List (List Key × V)} {m : List (List Key × Addr × Value)}, KT H l m → ∀ x ∈ m, (tupleKind (mixKind P w)).is h x.1 x.2.1 := by
    intro l m q
    induction q with
    | nil => intro x hx; exact nomatch hx
    | @cons p q ps qs hq t ih =>
      intro x hx
      rcases List.mem_cons.mp hx with e | hx
      · subst e
        exact key_of ok (by rw [← hq.1]; exact hq.2.1)
      · exact ih x hx
  exact all r x hx
theorem dt_of {kvs : List (List Key × V)} (ok : HOk P w H h) (e : H a = some (.dT kvs)) : kvs.length ≤ sizeLine ∧ (a == sysModules) = false ∧
    ∃ xs, KT H kvs xs ∧ h.DictOfH (tupleKind (mixKind P w)) a xs := dt_rd ok (.inl e)
end
def DGet (H : Hp) (a : Addr) (y : V) (r : Option V) : Prop :=
  (∃ kvs k, Rd H a (.dK kvs) ∧ y = kV k ∧ r = valV kvs k) ∨ ∃ kvs k b, Rd H a (.dT kvs) ∧ y = .ref b ∧ H b = some (.tup (k.map kV)) ∧ r = valV kvs k
def DPut (H : Hp) (a : Addr) (y v : V) (H' : Hp) : Prop :=
  (∃ kvs k, H a = some (.dK kvs) ∧ y = kV k ∧ kvs.length < sizeLine ∧ H' = upd H a (.dK (putK kvs k v))) ∨
  ∃ kvs k b, H a = some (.dT kvs) ∧ y = .ref b ∧ H b = some (.tup (k.map kV)) ∧ kvs.length < sizeLine ∧ H' = upd H a (.dT (putK kvs k v))
theorem DGet.k {H : Hp} {a : Addr} {kvs : List (Key × V)} {k : Key} (e : H a = some (.dK kvs)) : DGet H a (kV k) (valV kvs k) := .inl ⟨kvs, k, .inl e, rfl, rfl⟩
theorem DPut.k {H : Hp} {a : Addr} {kvs : List (Key × V)} {k : Key} {v : V} (e : H a = some (.dK kvs)) (hl : kvs.length < sizeLine) : DPut H a (kV k) v (upd H a (.dK (putK kvs k v))) := .inl ⟨kvs, k, e, rfl, hl, rfl⟩
section
variable {X : Cx} {pins : List (Addr × Obj)} {σ : St} {H : Hp} {s : Shared} {a : Addr} {y v : V} {u r : Value} {o : Option V} {A : Around} {E : Value → Shared → Prop}
theorem Inv.big (I : Inv X pins σ H s) : sysModules < s.heap.objs.size := by
  have h : mainGlobals < s.heap.objs.size := (I.mod.glob.keeps I.bk).lt
  exact Nat.lt_trans (by decide) h
theorem d_notIn {Q : Value → Shared → Prop} (hu : A.units + 1 < cLine) (I : Inv X pins σ H s) (g : DGet H a y o) (ry : RelV y u) (h : ∀ s', Inv X pins σ H s' → Q (.bool (!o.isSome)) s') :
    wpAny (model X.prog X.w) A (compareOp .NotIn u (.ref a)) Q E s := by
  rcases g with ⟨kvs, k, e, ey, l⟩ | ⟨kvs, k, b, e, ey, eb, l⟩
  · subst ey
    obtain ⟨z, hd, vs, rel, dd⟩ := dk_rd I.hok e
    refine wpAny_notIn_of (kV_is ry) hd dd.mapOf ?_
    rw [← (rel.val k).isSome_eq, ← l]
    exact h _ (I.tok _)
  · subst ey
    cases (show u = Value.ref b from ry)
    obtain ⟨z, hd, xs, rel, dd⟩ := dt_rd I.hok e
    refine wpAny_notIn_heap (tupleKind_room_in1 hu) (key_of I.hok eb) hd dd ?_
    have q := (rel.val k).isSome_eq
    rw [Option.isSome_map] at q
    rw [← q, ← l]
    exact h _ (I.tok _)
theorem d_write {h' : Heap} {t' : Nat} {ob : HO} (I : Inv X pins σ H s) (mu : Mut (H a)) (hs : Heap.SameBut a s.heap h') (he : ∃ q, h'.get? a = some q) (new : ObjOk X.prog X.w (upd H a ob) h' a ob) :
    Inv X pins σ (upd H a ob) { s with heap := h', toks := t' } :=
  I.write (x := a) (e := a) mu (.inl rfl) (fun b q hb z => (hs.2 b hb).trans z) he new
theorem dk_new {P : Program} {w : World} {H' : Hp} {h' : Heap} {kvs : List (Key × V)} {vs : List (Key × Value)} (z : kvs.length ≤ sizeLine) (hd : (a == sysModules) = false) (rel : KV kvs vs) (dd : h'.DictOf (mixKind P w) a vs) :
    ObjOk P w H' h' a (.dK kvs) := ⟨z, hd, vs, rel, dd⟩
theorem d_setItem {H' : Hp} {Q : Unit → Shared → Prop} (hu : A.units + 1 < cLine) (I : Inv X pins σ H s) (g : DPut H a y v H') (ry : RelV y u) (rv : RelV v r) (h : ∀ s', Inv X pins σ H' s' → Q () s') :
    wpAny (model X.prog X.w) A (setItem (.ref a) u r) Q E s := by
  rcases g with ⟨kvs, k, e, ey, l, eH⟩ | ⟨kvs, k, b, e, ey, eb, l, eH⟩
  · subst ey eH
    obtain ⟨z, hd, vs, rel, dd⟩ := dk_of I.hok e
    have hz : vs.length ≤ sizeLine := by rw [← rel.length]; exact z
    have hl : (putK kvs k v).length ≤ sizeLine := by have := length_putK kvs k v; omega
    refine wpAny_setItem_pairs (hsz := hz) (kV_is ry) dd fun h' dd' hs => h _ ?_
    have he : ∃ q, h'.get? a = some q := let ⟨q, _, _, hq, _⟩ := dd'; ⟨q, hq⟩
    exact d_write I (by rw [e]; exact True.intro) hs he (dk_new hl hd (rel.put k rv) dd')
  · subst ey eH
    cases (show u = Value.ref b from ry)
    obtain ⟨z, hd, xs, rel, dd⟩ := dt_of I.hok e
    have hz : xs.length ≤ sizeLine := by rw [← Paired.length rel]; exact z
    have hl : (putK kvs k v).length ≤ sizeLine := by have := length_putK kvs k v; omega
    refine wpAny_setItem_heap (hsz := hz) (tupleKind_room_in1 hu) (key_of I.hok eb) dd fun h' dd' hs => h _ ?_
    obtain ⟨q, es, ep, hq, h2, h3, h4, _, h5⟩ := dd'
    refine d_write I (by rw [e]; exact True.intro) hs ⟨q, hq⟩ ⟨hl, hd, _, (rel.put k eb rv).keeps fun c ys ec => ?_, q, es, ep, hq, h2, h3, h4, h5⟩
    rw [upd_ne (ne_of ec e (fun z => nomatch z))]
    exact ec
end
section
variable {X : Cx} {pins : List (Addr × Obj)} {σ : St} {H : Hp} {s : Shared} {a : Addr} {kvs : List (Key × V)} {k : Key} {u : Value} {A : Around} {E : Value → Shared → Prop}
end
def tDIn (ty td : TE) : TE := fun σ H Q => ty σ H fun y H1 => td σ H1 fun x H2 => ∃ a o, x = .ref a ∧ DGet H2 a y o ∧ Q (.bl o.isSome) H2
def tDNotIn (ty td : TE) : TE := fun σ H Q => ty σ H fun y H1 => td σ H1 fun x H2 => ∃ a o, x = .ref a ∧ DGet H2 a y o ∧ Q (.bl (!o.isSome)) H2
def sDPut (td ty tv : TE) : TS := fun D σ H => tv σ H fun v H1 => td σ H1 fun x H2 => ty σ H2 fun y H3 => ∃ a H4, x = .ref a ∧ DPut H3 a y v H4 ∧ D.nx σ H4
section
variable {X : Cx} {o i e value : Expr} {pos pos' tpos : Pos} {td ty tv : TE}
theorem pc_dnotin (hu : X.A.units + 1 < cLine) (hi : PE X i ty) (ho : PE X o td) : PC X .NotIn i o (tDNotIn ty td) := by
  intro pins s σ H Q I h
  refine thn (hi pins s σ H _ I h) fun iv s1 ⟨y, H1, I1, ry, q1⟩ => thn (ho pins s1 σ H1 _ I1 q1) fun u s2 ⟨x, H2, I2, rx, a, ov, ex, g, q2⟩ => ?_
  subst ex
  obtain rfl : u = Value.ref a := rx
  exact d_notIn hu I2 g ry fun s3 I3 => ⟨.bl (!ov.isSome), H2, I3, rfl, q2⟩
theorem ps_dput (hu : X.A.units + 1 < cLine) (ho : PE X o td) (hi : PE X i ty) (hv : PE X value tv) (hs : swapsWith value (some (.Subscript o i pos')) pos.line X.env = pure false) :
    PS X (.Assign [.Subscript o i pos'] value pos) (sDPut td ty tv) := by
  intro pins s σ H D I h
  refine wpAny_Assign_Subscript (thn (hv pins s σ H _ I h) fun r s1 ⟨v, H1, I1, rv, q1⟩ => thn (ho pins s1 σ H1 _ I1 q1) fun u s2 ⟨x, H2, I2, rx, q2⟩ => thn (hi pins s2 σ H2 _ I2 q2) fun iv s3 ⟨y, H3, I3, ry, a, H4, ex, g, q3⟩ => ?_) hs
  subst ex
  obtain rfl : u = Value.ref a := rx
  exact d_setItem hu I3 g ry rv fun s4 I4 => ⟨σ, H4, I4, q3⟩
end
theorem dk_empty {P : Program} {w : World} {H : Hp} (h : Heap) (hb : sysModules < h.objs.size) : ObjOk P w H (h.push { cls := .type "dict", data := .dict #[] }) h.objs.size (.dK []) :=
  ⟨Nat.zero_le _, beq_eq_false_iff_ne.mpr (Ne.symm (Nat.ne_of_lt hb)), [], .nil, Heap.DictOf.new h⟩
def tDNewK : TE := fun _ H Q => ∀ p, H p = none → Q (.ref p) (upd H p (.dK []))
section
variable {X : Cx} {pos : Pos}
theorem pe_dnewK : PE X (.Dict [] [] pos) tDNewK := fun pins s σ H Q I h =>
  wpAny_Dict_empty ⟨.ref s.heap.objs.size, _, I.laid (a := s.heap.objs.size) (o := .dK []) (t' := s.toks) (fun _ _ q => Heap.get?_push_of_some _ q) (Nat.le_refl _) (dk_empty s.heap I.big), rfl, h _ (I.hok.fresh (Nat.le_refl _))⟩
end
structure M1 (X : Cx) (o : Expr) (m : Str) (apos : Pos) (e : Expr) (cpos : Pos) : Prop where
  base : attributeBase o m X.env (eval o X.env) = eval o X.env
  few : ((backTo cpos (starEach [e] X.env)).all (fun x => !x.1) && (backToKw cpos (keywordEach [] X.env)).all (fun x => x.1.isSome)
    && decide (([e] : List Expr).length + ([] : List Keyword).length + (if ([] : List Keyword).isEmpty then 0 else 1) < 30)) = true
  line : (apos.endLine == cpos.line) = true
  trees : backTo cpos (starEach [e] X.env) = [(false, eval e X.env)]
structure M2 (X : Cx) (o : Expr) (m : Str) (apos : Pos) (e f : Expr) (cpos : Pos) : Prop where
  base : attributeBase o m X.env (eval o X.env) = eval o X.env
  few : ((backTo cpos (starEach [e, f] X.env)).all (fun x => !x.1) && (backToKw cpos (keywordEach [] X.env)).all (fun x => x.1.isSome)
    && decide (([e, f] : List Expr).length + ([] : List Keyword).length + (if ([] : List Keyword).isEmpty then 0 else 1) < 30)) = true
  line : (apos.endLine == cpos.line) = true
  trees : backTo cpos (starEach [e, f] X.env) = [(false, eval e X.env), (false, eval f X.env)]
def IsD (H : Hp) (a : Addr) : Prop := (∃ kvs, Rd H a (.dK kvs)) ∨ ∃ kvs, Rd H a (.dT kvs)
theorem isD_at {X : Cx} {pins : List (Addr × Obj)} {σ : St} {H : Hp} {s : Shared} {a : Addr} (I : Inv X pins σ H s) (d : IsD H a) :
    s.TypeIs (.ref a) "dict" ∧ (∀ b, Value.ref a = .ref b → ∃ ob, s.heap.get? b = some ob ∧ ob.dict = none) ∧ (a == sysModules) = false := by
  rcases d with ⟨kvs, e⟩ | ⟨kvs, e⟩
  · obtain ⟨_, hd, vs, _, dd⟩ := dk_rd I.hok e
    refine ⟨dd.typeIs, fun b q => ?_, hd⟩
    cases q
    obtain ⟨ob, _, _, h1, h2, _⟩ := dd
    exact ⟨ob, h1, h2.2.1⟩
  · obtain ⟨_, hd, xs, _, dd⟩ := dt_rd I.hok e
    refine ⟨dd.typeIs, fun b q => ?_, hd⟩
    cases q
    obtain ⟨ob, _, _, h1, h2, _⟩ := dd
    exact ⟨ob, h1, h2.2.1⟩
section
variable {X : Cx} {pins : List (Addr × Obj)} {σ : St} {H : Hp} {s : Shared} {a : Addr} {y d : V} {u r : Value} {o : Option V} {A : Around} {E : Value → Shared → Prop}
theorem d_get2 {Q : Value → Shared → Prop} (hu : A.units + 1 < cLine) (I : Inv X pins σ H s) (g : DGet H a y o) (ry : RelV y u) (rd : RelV d r) (h : ∀ w' s', Inv X pins σ H s' → RelV (o.getD d) w' → Q w' s') :
    wpAny (model X.prog X.w) A (call (.builtin "dict.get") [.ref a, u, r]) Q E s := by
  rcases g with ⟨kvs, k, e, ey, l⟩ | ⟨kvs, k, b, e, ey, eb, l⟩
  · subst ey
    obtain ⟨z, hd, vs, rel, dd⟩ := dk_rd I.hok e
    refine call_meetsIn PySem.F.slot_dict_get dd.typeIs PySem.F.entry_dict_get (PySem.F.args_dict_get_3 _ _ _) (meets_dict_get_default (mixKind X.prog X.w) a (kV_is ry) hd r) ⟨_, dd.mapOf, h _ _ (I.tok _) ?_⟩
    rw [l]
    exact (rel.val k).getD rd
  · subst ey
    cases (show u = Value.ref b from ry)
    obtain ⟨z, hd, xs, rel, dd⟩ := dt_rd I.hok e
    refine call_meetsIn PySem.F.slot_dict_get dd.typeIs PySem.F.entry_dict_get (PySem.F.args_dict_get_3 _ _ _) (meetsH_dict_get_default (tupleKind (mixKind X.prog X.w)) a b hd r) ⟨tupleKind_room_in1 hu, k, xs, key_of I.hok eb, dd, h _ _ (I.tok _) ?_⟩
    rw [l]
    exact (rel.val k).getD rd
end
def tDGet2 (td ty tx : TE) : TE := fun σ H Q => td σ H fun x H1 => ∃ a, x = .ref a ∧ IsD H1 a ∧ ty σ H1 fun y H2 => tx σ H2 fun z H3 => ∃ o, DGet H3 a y o ∧ Q (o.getD z) H3
section
variable {X : Cx} {o e f : Expr} {apos cpos : Pos} {td ty tx : TE}
theorem pe_dget2 (hu : X.A.units + 1 < cLine) (ho : PE X o td) (he : PE X e ty) (hf : PE X f tx) (m : M2 X o "get" apos e f cpos) : PE X (.Call (.Attribute o "get" apos) [e, f] [] cpos) (tDGet2 td ty tx) := by
  intro pins s σ H Q I h
  refine wpAny_Call_method m.base m.few m.line PySem.F.plainAttrs_dict PySem.F.slot_dict_get PySem.F.type_dict_get (thn (ho pins s σ H _ I h) fun u s1 ⟨x, H1, I1, rx, a, ex, d, q1⟩ => ?_)
  subst ex
  obtain rfl : u = Value.ref a := rx
  obtain ⟨t1, t2, _⟩ := isD_at I1 d
  refine ⟨t1, t2, ?_⟩
  rw [m.trees]
  refine Calls.callWith_builtin rfl (Calls.evalArgs_plain (Calls.spliced_cons (thn (he pins s1 σ H1 _ I1 q1) fun iv s2 ⟨y, H2, I2, ry, q2⟩ =>
    Calls.spliced_cons (thn (hf pins s2 σ H2 _ I2 q2) fun fv s3 ⟨z, H3, I3, rz, ov, g, q3⟩ => Calls.spliced_nil ?_))))
  exact d_get2 hu I3 g ry rz fun w' s4 I4 rw' => ⟨_, H3, I4, rw', q3⟩
end
section
variable {X : Cx} {pins : List (Addr × Obj)} {σ : St} {H : Hp} {s : Shared} {a : Addr} {kvs : List (Key × V)} {A : Around} {E : Value → Shared → Prop}
end
section
variable {X : Cx} {pins : List (Addr × Obj)} {σ : St} {H : Hp} {s : Shared} {a : Addr} {y : V} {u : Value} {A : Around} {E : Value → Shared → Prop}
end
end L2

namespace Att
open PySem PySem.W PySem.Calls PyProof.Rows
theorem ints_of_wellAll {P : Params} {h : Heap} : ∀ (ns : List Int) (vs : List Value), WellAll P h vs (ns.map WData.int) → IntsAre vs ns := by
  intro ns
  induction ns with
  | nil =>
    intro vs w
    rw [List.map_nil] at w
    cases w
    exact .nil
  | cons n ns ih =>
    intro vs w
    rw [List.map_cons] at w
    cases w with
    | cons a b =>
      cases a
      exact .cons _ _ (ih _ b)
theorem script_of {l : OpenLaw} {n : Nat} (hn : l.most = some n) {P : Params} {h : Heap} {args : List WData} {vals : List Value}
    (hpre : l.row.toRowW.claim.pre args = true) (hwl : WellAll P h vals args) :
    ∃ a vs ns, vals = [Value.ref a] ∧ args = [WData.list (ns.map WData.int)] ∧ h.get? a = some { cls := .type "list", data := .seq vs.toArray } ∧ IntsAre vs ns ∧ ns.length ≤ n := by
  have hsh : WShape.hasAll [] args [.list .int] = true := (pre_splitW hpre).1
  have hc : l.pre.holds [] { args := args } = true := (pre_splitW hpre).2
  obtain ⟨d, r, rfl, h1, h2⟩ := hasAllW_cons hsh
  obtain rfl := hasAllW_nil h2
  obtain ⟨xs, rfl, h3⟩ := hasW_list h1
  obtain ⟨ns, rfl⟩ := items_int h3
  have hlen : ns.length ≤ n := by
    unfold OpenLaw.pre at hc
    have h4 : (WTm.not (.lt (.lit (.int (n : Int))) (.len (.arg 0)))).holds [] { args := [.list (ns.map .int)] } = true := by
      have h4 := (holds_andW hc).1
      rw [hn] at h4
      exact h4
    have h5 := condW_of h4 (w_not (w_lt w_lit (w_len_list (w_arg rfl))))
    rw [List.length_map] at h5
    refine Nat.le_of_not_lt fun q => ?_
    have q' : (n : Int) < ((ns.length : Nat) : Int) := by omega
    first
      | (rw [decide_eq_true q'] at h5; exact absurd h5 (by decide))
      | (simp at h5; omega)
  cases hwl with
  | cons w1 w2 =>
    cases w2
    cases w1 with
    | list ho hall => exact ⟨_, _, ns, rfl, rfl, ho, ints_of_wellAll ns _ hall, hlen⟩
theorem post_true (l : OpenLaw) (args : List WData) : l.row.toRowW.claim.post args (.bool true) args = true :=
  postW_of (r := l.row.toRowW) (X := (true == true))
    (show WShape.has [] (.bool true) .bool = true by first | rfl | decide | simp [WShape.has, WShape.arms, WShape.armsAll])
    (show (WTm.eq .res (.lit (.bool true))).value [] { args := args, res := some (.bool true), after := args } = some (.bool (true == true)) from w_eq_bool (w_res rfl) w_lit) rfl
section
variable {prog : Program} {w : World} {A : Around} {E : Value → Shared → Prop} {s : Shared} {K : Frag}
end
end Att
namespace L2
open PySem PySem.Spec PyProof.Rows
theorem vals_ints : ∀ {vs : List Value} {ns : List Int}, IntsAre vs ns → Vals (ns.map V.int) vs
  | _, _, .nil => .nil
  | _, _, .cons n t h => .cons ⟨t, rfl⟩ (vals_ints h)
def Only (H : Hp) : Prop := ∀ b, H b = none ∨ ∃ o xs, H b = some (.frz o (.lst xs))
theorem law_call {P : Program} {w : World} {K : PySem.W.Frag} {mg mb : Str → Option Value} {CX : CXT} {k : Nat} {fa a : Addr} {fd : FuncData} {x : Str} {sp : Sp} {s₁ : Shared} {vs : List Value} {ns : List Int}
    (KX : K.In s₁.heap) (hns : s₁.heap.Ns mainGlobals mg) (hb : s₁.heap.Ns builtinsNs mb) (hbb : ∀ x : Str, x ≠ "__name__" → mb x = bootBuiltins x) (hlim : s₁.heap.NoLimit) (hg : s₁.gens = #[])
    (ha : s₁.heap.get? a = some { cls := .type "list", data := .seq vs.toArray }) (hi : IntsAre vs ns) (hl : ns.length ≤ sizeLine) (hr : Room k callerA)
    (F : ∀ base : Heap, K.In base → base.Ns mainGlobals mg → FnOk P w K mg base CX k fa fd [x] sp) (hbind : ∀ (s : Shared) (u : Value), BindsTo s fd ⟨[u], []⟩ [(x, u)])
    (hsp : ∀ H : Hp, Only H → SqL K H a (ns.map V.int) → sp [.ref a] H (fun v _ => v = .bl true) fun _ _ _ => False)
    (hCX : ∀ H e s', CX [] H s₁ (fun _ _ _ => False) e s' → False) :
    codeAny (model P w) callerA (.call (.ref fa) ⟨[.ref a], []⟩) (fun r s' => r = .ok (.ret (.bool true)) ∧ OldK s₁.heap s'.heap ∧ s'.os = s₁.os ∧ AllBare s'.gens) s₁ := by
  have rv := vals_ints hi
  have lenV := hi.length
  have core : ∀ H : Hp, Only H → SqL K H a (ns.map V.int) → HOk P w H s₁.heap → (∀ b, H b ≠ none → b = a) → (H a ≠ none → K.lookup a = none) →
      codeAny (model P w) callerA (.call (.ref fa) ⟨[.ref a], []⟩) (fun r s' => r = .ok (.ret (.bool true)) ∧ OldK s₁.heap s'.heap ∧ s'.os = s₁.os ∧ AllBare s'.gens) s₁ := by
    intro H hO hS hok hA hK
    have base_of : ∀ {b : Addr} {o : Obj}, s₁.heap.get? b = some o → H b = none → (hidT s₁.heap H).get? b = some o := fun e n => hidT_get e n
    have noA : ∀ {b : Addr} {o : Obj} {es : Array DictEntry} {ep : Nat}, s₁.heap.get? b = some o → o.data = .dict es ep → H b = none := fun {b o es ep} e d => by
      cases q : H b with
      | none => rfl
      | some u =>
        have e' : b = a := hA b (by rw [q]; simp)
        subst e'
        rw [ha] at e; cases e
        have d' : Data.seq vs.toArray _ = Data.dict es ep := d
        cases d'
    have nsK : ∀ {b : Addr} {m : Str → Option Value}, s₁.heap.Ns b m → (hidT s₁.heap H).Ns b m := fun {b m} ⟨o, es, ep, e, d, r⟩ => ⟨o, es, ep, base_of e (noA e d), d, r⟩
    have hKb : K.In (hidT s₁.heap H) := fun b o e => base_of (KX b o e) (by
      cases q : H b with
      | none => rfl
      | some u =>
        have e' : b = a := hA b (by rw [q]; simp)
        subst e'
        rw [hK (by rw [q]; simp)] at e; cases e)
    have hM : Mod K mg (hidT s₁.heap H) := ⟨hKb, nsK hns, ⟨mb, nsK hb, hbb⟩, let ⟨mc, h1, h2⟩ := hlim; ⟨mc, nsK h1, h2⟩⟩
    have e0 : Env0 P w K mg (hidT s₁.heap H) callerA [] s₁ H := ⟨rfl, hM, fun b o e => of_hidT e, Nat.le_of_eq (hidT_size _ _), trivial, fun b hb => absurd (show b ∈ ([] : List Addr) from hb) (by simp), hok, .of_eq hg⟩
    refine codeAny_mono ((F _ hKb (nsK hns)).run callerA [] s₁ H ⟨[.ref a], []⟩ [.ref a] [.ref a] _ _ hr e0 (hbind s₁ (.ref a)) (.cons rfl .nil) (hsp H hO hS)) fun r s' h => ?_
    cases r with
    | error e => exact (hCX H e s' h).elim
    | ok fl =>
      cases fl with
      | next => exact False.elim h
      | brk => exact False.elim h
      | cont => exact False.elim h
      | ret u =>
        obtain ⟨v, H', os, bare, un, hok', r', q⟩ := h
        have q' : v = .bl true := q
        subst q'
        obtain rfl : u = Value.bool true := r'
        refine ⟨rfl, OldK.of_keep fun b o e => ?_, os, bare⟩
        cases q : H b with
        | none => exact un.keep b o e q (by intro z; exact absurd (show b ∈ ([] : List Addr) from z) (by simp)) (by simp)
        | some u =>
          rcases hO b with z | ⟨ob, xs, z⟩
          · rw [q] at z; cases z
          · have z2 := un.frzs b ob _ z
            obtain ⟨e1, _⟩ := hok b _ z
            obtain ⟨e2, _⟩ := hok' b _ z2
            rw [e] at e1; cases e1
            exact e2
  cases hk : K.lookup a with
  | some o =>
    have e := KX a o hk
    rw [ha] at e
    cases e
    refine core (fun _ => none) (fun _ => .inl rfl) (.inr ⟨_, vs.toArray, _, hk, rfl, rfl, rfl, by rw [List.size_toArray, lenV]; exact hl, by simpa using rv⟩) (fun b u z => by have z' : (none : Option HO) = some u := z; cases z') (fun b z => absurd rfl z) fun z => absurd rfl z
  | none =>
    refine core (fun b => if b = a then some (.frz { cls := .type "list", data := .seq vs.toArray } (.lst (ns.map V.int))) else none) (fun b => ?_) (.inl (.inr ⟨{ cls := .type "list", data := .seq vs.toArray }, if_pos rfl⟩)) (fun b u z => ?_) (fun b z => ?_) fun _ => hk
    · by_cases hb : b = a
      · exact .inr ⟨_, _, if_pos hb⟩
      · exact .inl (if_neg hb)
    · by_cases hb : b = a
      · have z' := (if_pos hb).symm.trans z
        cases z'
        subst hb
        exact ⟨ha, by rw [List.length_map]; exact hl, vs, _, rv, ha⟩
      · have z' := (if_neg hb).symm.trans z
        cases z'
    · by_cases hb : b = a
      · exact hb
      · exact absurd (if_neg hb) z
end L2
namespace L2
open PySem PySem.Spec PyProof.Rows
end L2
namespace L2
open PySem PySem.Spec PyProof.Rows
def defArgs (s : Stmt) : Arguments := match s with
  | .FunctionDef _ a _ _ _ _ _ _ _ _ => a
  | _ => { posonlyargs := [], args := [], vararg := none, kwonlyargs := [], kw_defaults := [], kwarg := none, defaults := [] }
def defBody (s : Stmt) : List Stmt := match s with
  | .FunctionDef _ _ b _ _ _ _ _ _ _ => b
  | _ => []
def defScope (s : Stmt) : Scope := match s with
  | .FunctionDef _ _ _ _ _ _ sc _ _ _ => sc
  | _ => { kind := .function, names := [], isGenerator := false, isCoroutine := false }
abbrev CX0 : CXT := fun _ _ _ _ _ _ => False
abbrev E0 : XK := fun _ _ _ => False
theorem pass0 {X : Cx} : Passes CX0 X E0 := fun _ _ _ _ _ _ _ h => h.elim
structure Fun (K : PySem.W.Frag) (x qual : Str) (st : Stmt) (f : Addr) (fd : FuncData) : Prop where
  ex : ∃ (oc : Value) (od : Option Addr) (kV doc pm : Value) (an : Option Addr) (cdv ct : Value) (osl : Array (Option Value)),
    fd = PySem.W.fnOf x qual (defArgs st) (defBody st) (defScope st) .none kV doc pm an cdv ct ∧ K.lookup f = some ⟨oc, od, .func fd, osl⟩ ∧ PySem.W.codeIn K cdv qual = true
  kp : PySem.W.keepIn K (.ref f) = true
section
variable {P : Program} {w : World} {K : PySem.W.Frag} {mg : Str → Option Value} {base : Heap}
theorem Fun.ok {x qual : Str} {st : Stmt} {f : Addr} {fd : FuncData} {N ps : List Str} {k : Nat} {sp : Sp} (F : Fun K x qual st f fd) (S : FnScope N ps (defScope st)) (len : ∀ vs H Q E, sp vs H Q E → vs.length = ps.length)
    (hbody : ∀ (cdv : Value) (A : Around) (outer : List Env) (s : Shared) (H : Hp) (vs : List V) (Q : VK) (E : XK), Room k (A.deeper (envOfC qual (defScope st) s.heap.objs.size f cdv)) → sp vs H Q E →
      ∃ t, PSs (cxOf CX0 P w K mg base N qual (defScope st) f cdv A outer s H E).nox (defBody st) t ∧ t { nx := fun _ H' => Q .non H', rt := Q } (start N vs) H) : FnOk P w K mg base CX0 (k + 1) f fd ps sp := by
  obtain ⟨oc, od, kV, doc, pm, an, cdv, ct, osl, rfl, lk, hcd⟩ := F.ex
  refine fn_of lk hcd S len fun A outer s H vs Q E hr hsp => ?_
  obtain ⟨t, h, q⟩ := hbody cdv A outer s H vs Q E hr hsp
  exact ⟨t, h.nox, q⟩
theorem Fun.binds {x qual : Str} {st : Stmt} {f : Addr} {fd : FuncData} {ps : List Str} (F : Fun K x qual st f fd)
    (h : ∀ (kV doc pm : Value) (an : Option Addr) (cdv ct : Value) (us : List Value), us.length = ps.length → bindArgs (PySem.W.fnOf x qual (defArgs st) (defBody st) (defScope st) .none kV doc pm an cdv ct) ⟨us, []⟩ = pure (ps.zip us)) : Binds K fd ps [] := by
  obtain ⟨oc, od, kV, doc, pm, an, cdv, ct, osl, rfl, lk, hcd⟩ := F.ex
  exact .all (h kV doc pm an cdv ct)
theorem fun_mk {x qual : Str} {st : Stmt} {f : Addr} {oc : Value} {od an : Option Addr} {osl : Array (Option Value)} {kV doc pm cdv ct : Value} (l : K.lookup f = some ⟨oc, od, .func (PySem.W.fnOf x qual (defArgs st) (defBody st) (defScope st) .none kV doc pm an cdv ct), osl⟩)
    (c : PySem.W.codeIn K cdv qual = true) (k : PySem.W.keepIn K (.ref f) = true) : Fun K x qual st f (PySem.W.fnOf x qual (defArgs st) (defBody st) (defScope st) .none kV doc pm an cdv ct) := ⟨⟨oc, od, kV, doc, pm, an, cdv, ct, osl, rfl, l, c⟩, k⟩
end
theorem hu_of {A : Around} {k : Nat} (hr : Room k A) : A.units + 1 < cLine := Nat.lt_of_le_of_lt (Nat.add_le_add_left (by decide : 1 ≤ 64) _) hr.units
section
variable {X : Cx}
end
def Same (H H' : Hp) : Prop := ∀ b o, H b = some o → H' b = some o
theorem Same.refl (H : Hp) : Same H H := fun _ _ h => h
theorem Same.trans {H H1 H2 : Hp} (a : Same H H1) (b : Same H1 H2) : Same H H2 := fun c o h => b c o (a c o h)
theorem Same.free {H H' : Hp} (e : Same H H') {l : Addr} (h : H' l = Option.none) : H l = Option.none := by
  cases q : H l with
  | none => rfl
  | some o =>
    rw [e l o q] at h
    cases h
theorem Same.seq {K : PySem.W.Frag} {H H' : Hp} {a : Addr} {xs : List V} (e : Same H H') (h : SqL K H a xs) : SqL K H' a xs := by
  rcases h with (h | ⟨o, h⟩) | h
  · exact .inl (.inl (e _ _ h))
  · exact .inl (.inr ⟨o, e _ _ h⟩)
  · exact .inr h
section
variable {κ : Type} [DecidableEq κ]
end
end L2

namespace L2
open PySem PySem.Spec PyProof.Rows
theorem asN {a b : Nat} (h : a < b) : a < b := h
theorem asL {a b : Nat} (h : a ≤ b) : a ≤ b := h
theorem asE {a b : Nat} (h : a = b) : a = b := h
def clos (cells : List (Str × Addr)) : List (Str × NameKind) → List (Str × Addr) → List (Str × Addr)
  | [], acc => acc
  | (n, k) :: r, acc => if k == .free then clos cells r ((n, (cells.lookup n).getD 0) :: acc) else clos cells r acc
theorem clos_app (cells : List (Str × Addr)) : ∀ (names : List (Str × NameKind)) (acc : List (Str × Addr)), clos cells names acc = clos cells names [] ++ acc
  | [], _ => rfl
  | (n, k) :: r, acc => by
    unfold clos
    split
    · rw [clos_app cells r (_ :: acc), clos_app cells r [_], List.append_assoc]; rfl
    · exact clos_app cells r acc
theorem clos_mem {cells : List (Str × Addr)} {x : Str} {c : Addr} : ∀ {names : List (Str × NameKind)}, (x, c) ∈ clos cells names [] → (x, NameKind.free) ∈ names ∧ c = (cells.lookup x).getD 0
  | [], h => by simp [clos] at h
  | (n, k) :: r, h => by
    unfold clos at h
    split at h
    · rename_i hk
      rw [clos_app] at h
      rcases List.mem_append.mp h with h | h
      · obtain ⟨h1, h2⟩ := clos_mem h
        exact ⟨List.mem_cons_of_mem _ h1, h2⟩
      · have e := List.mem_singleton.mp h
        injection e with e1 e2
        subst e1
        have hk' : k = .free := by simpa using hk
        subst hk'
        exact ⟨List.mem_cons_self, e2⟩
    · obtain ⟨h1, h2⟩ := clos_mem h
      exact ⟨List.mem_cons_of_mem _ h1, h2⟩
theorem clos_has {cells : List (Str × Addr)} {x : Str} : ∀ {names : List (Str × NameKind)}, (x, NameKind.free) ∈ names → (x, (cells.lookup x).getD 0) ∈ clos cells names []
  | [], h => by simp at h
  | (n, k) :: r, h => by
    unfold clos
    rcases List.mem_cons.mp h with e | h
    · injection e with e1 e2
      subst e1; subst e2
      rw [if_pos (by rfl), clos_app]
      exact List.mem_append_right _ (by simp)
    · split
      · rw [clos_app]
        exact List.mem_append_left _ (clos_has h)
      · exact clos_has h
theorem cellsFrom_app : ∀ (names : List (Str × NameKind)) (n : Nat) (acc : List (Str × Addr)), cellsFrom n names acc = cellsFrom n names [] ++ acc
  | [], _, _ => rfl
  | (x, k) :: r, n, acc => by
    unfold cellsFrom
    split
    · rw [cellsFrom_app r (n + 1) (_ :: acc), cellsFrom_app r (n + 1) [_], List.append_assoc]; rfl
    · exact cellsFrom_app r n acc
theorem cellsFrom_mem {x : Str} {c : Addr} : ∀ {names : List (Str × NameKind)} {n : Nat}, (x, c) ∈ cellsFrom n names [] → (x, NameKind.cell) ∈ names
  | [], _, h => by simp [cellsFrom] at h
  | (y, k) :: r, n, h => by
    unfold cellsFrom at h
    split at h
    · rename_i hk
      rw [cellsFrom_app] at h
      rcases List.mem_append.mp h with h | h
      · exact List.mem_cons_of_mem _ (cellsFrom_mem h)
      · have e := List.mem_singleton.mp h
        injection e with e1 e2
        subst e1
        have hk' : k = .cell := by simpa using hk
        subst hk'
        exact List.mem_cons_self
    · exact List.mem_cons_of_mem _ (cellsFrom_mem h)
theorem mem_lookup {α : Type} {x : Str} {a : α} : ∀ {l : List (Str × α)}, (l.map (·.1)).Nodup → (x, a) ∈ l → l.lookup x = some a
  | [], _, h => by simp at h
  | (y, b) :: r, nd, h => by
    have nd' : (y :: r.map (·.1)).Nodup := nd
    obtain ⟨h1, h2⟩ := List.nodup_cons.mp nd'
    rcases List.mem_cons.mp h with e | hm
    · injection e with e1 e2
      subst e1; subst e2
      rw [List.lookup_cons, beq_self_eq_true]
    · have hne : (x == y) = false := by
        rw [beq_eq_false_iff_ne]
        rintro rfl
        exact h1 (List.mem_map.mpr ⟨(x, a), hm, rfl⟩)
      rw [List.lookup_cons, hne]
      exact mem_lookup h2 hm
theorem lookup_none_of {α : Type} {x : Str} : ∀ {l : List (Str × α)}, (∀ a, (x, a) ∉ l) → l.lookup x = none
  | [], _ => rfl
  | (y, b) :: r, h => by
    have hne : (x == y) = false := by
      rw [beq_eq_false_iff_ne]
      rintro rfl
      exact h b List.mem_cons_self
    rw [List.lookup_cons, hne]
    exact lookup_none_of fun a m => h a (List.mem_cons_of_mem _ m)
theorem lookup_some_of {α : Type} {x : Str} {a : α} : ∀ {l : List (Str × α)}, (x, a) ∈ l → ∃ b, l.lookup x = some b
  | [], h => by simp at h
  | (y, b) :: r, h => by
    rw [List.lookup_cons]
    cases e : x == y with
    | true => exact ⟨b, rfl⟩
    | false =>
      rcases List.mem_cons.mp h with q | q
      · injection q with q1 _
        subst q1
        rw [beq_self_eq_true] at e; cases e
      · exact lookup_some_of q
theorem lookup_app {α : Type} {x : Str} : ∀ (l k : List (Str × α)), (l ++ k).lookup x = (l.lookup x).or (k.lookup x)
  | [], k => by simp
  | (y, b) :: r, k => by
    show List.lookup x ((y, b) :: (r ++ k)) = _
    rw [List.lookup_cons, List.lookup_cons]
    cases x == y with
    | true => rfl
    | false => exact lookup_app r k
def FreeOk (sc : Scope) (env : Env) : Prop := ∀ x, (x, NameKind.free) ∈ sc.names → env.kindOf x = some .cell ∨ env.kindOf x = some .free
theorem closureFor_eq {sc : Scope} {env : Env} (h : ∀ x, (x, NameKind.free) ∈ sc.names → ∃ c, env.cells.lookup x = some c) : closureFor sc env = pure (clos env.cells sc.names []) := by
  have go : ∀ (names : List (Str × NameKind)) (acc : List (Str × Addr)), (∀ x, (x, NameKind.free) ∈ names → ∃ c, env.cells.lookup x = some c) →
      (forIn names acc fun (x : Str × NameKind) (cs : List (Str × Addr)) => (match x with | (name, kind) => if (kind == NameKind.free) = true then (do let c ← cellOf env name; pure (ForInStep.yield ((name, c) :: cs))) else pure (ForInStep.yield cs) : Sem (ForInStep (List (Str × Addr))))) = pure (clos env.cells names acc) := by
    intro names
    induction names with
    | nil => intro acc _; rfl
    | cons p r ih =>
      intro acc hn
      obtain ⟨n, k⟩ := p
      have hr : ∀ x, (x, NameKind.free) ∈ r → ∃ c, env.cells.lookup x = some c := fun x hx => hn x (List.mem_cons_of_mem _ hx)
      rw [List.forIn_cons]
      unfold clos
      by_cases hk : (k == NameKind.free) = true
      · have hk' : k = .free := by simpa using hk
        subst hk'
        obtain ⟨c, hc⟩ := hn n List.mem_cons_self
        have e : cellOf env n = pure c := by unfold cellOf; rw [hc]
        rw [if_pos (by rfl)]
        simp only [if_pos (show (NameKind.free == NameKind.free) = true from rfl), e, hc, Option.getD_some, pure_bind]
        exact ih _ hr
      · rw [if_neg hk]
        simp only [if_neg hk, pure_bind]
        exact ih _ hr
  unfold closureFor
  have q := go sc.names [] h
  first
    | (rw [show (forIn sc.names ([] : List (Str × Addr)) _ : Sem (List (Str × Addr))) = _ from q]; rfl)
    | (refine (congrArg (fun z => z >>= pure) q).trans ?_; rfl)
    | (simp only [q]; rfl)
    | exact q
def compEnvO (sc : Scope) (C : Addr) (env : Env) : Env :=
  { scope := relabel sc env, locals := C, globals := env.globals, cells := cellsFrom (C + 1) sc.names (clos env.cells sc.names []), qual := env.qual, func := none, code := env.code, frame := env.frame, builtins := env.builtins }
theorem wpAny_newEnvAround {M : Model} {A : Around} {E : Value → Shared → Prop} {s : Shared} {sc : Scope} {env : Env} {cl : List (Str × Addr)} {Q : Env → Shared → Prop}
    (hQ : Q { scope := sc, locals := s.heap.objs.size, globals := env.globals, cells := cellsFrom (s.heap.objs.size + 1) sc.names cl, qual := env.qual, func := none, code := env.code, frame := env.frame, builtins := env.builtins }
      { s with heap := pushCells (s.heap.push { cls := .type "dict", data := .dict #[] }) sc.names }) :
    wpAny M A (newFunctionEnv sc env.globals cl [] env.qual none .none (some env)) Q E s := by
  simp only [newFunctionEnv, Option.isSome_some, if_true]
  refine wpAny_bind (wpAny_alloc ?_)
  refine wpAny_bind (wpAny_layCells _ (fun name kind cells => by cases hkc : kind == NameKind.cell <;> simp [hkc]) _ _ _ _ ?_)
  rw [show ({ s with heap := s.heap.push { cls := .type "dict", data := .dict #[] } } : Shared).heap.objs.size = s.heap.objs.size + 1 from Heap.size_push ..]
  refine wpAny_bind ?_
  rw [List.forIn_nil]
  exact wpAny_pure (wpAny_pure hQ)
def cxComp (X : Cx) (N' : List Str) (sc : Scope) (C : Addr) (s : Shared) (H : Hp) (fp : List Addr) : Cx :=
  { X with N := N', s₀ := s, H₀ := H, env := compEnvO sc C X.env, outer := X.stack, stack := X.stack, ex := fp, fn := fun x => sc.names.lookup x == some .cell, pn := [], xe := fun _ _ => False }
def PTs (X : Cx) (ifs : List Expr) (t : TT) : Prop :=
  ∀ (pins : List (Addr × Obj)) (s : Shared) (σ : St) (H : Hp) (Q : Bool → Hp → Prop), Inv X pins σ H s → t σ H Q →
    wpAny (model X.prog X.w) X.A (forIn ifs true fun c r => if r = true then do let ok ← isTrue c X.env (eval c X.env); pure (ForInStep.yield ok) else pure (ForInStep.yield r)) (TP X pins σ Q) X.xe s
def tYes : TT := fun _ H Q => Q true H
theorem pts_nil {X : Cx} : PTs X [] tYes := fun _ _ _ H _ I h => wpAny_tests_nil ⟨H, I, h⟩
structure CompNames (N N' : List Str) (k : Nat) (sc : Scope) (env : Env) : Prop where
  kind : sc.kind = .function
  nd : (sc.names.map (·.1)).Nodup
  len : N'.length = N.length + k
  old : ∀ (i : Nat) (x : Str), N'[i]? = some x → i < N.length → (x, NameKind.free) ∈ sc.names ∧ N[i]? = some x ∨ sc.names.lookup x = none
  free : FreeOk sc env
theorem relabel_lookup {sc : Scope} {env : Env} {x : Str} {k : NameKind} : ∀ {names : List (Str × NameKind)},
    (names.map fun (n, k) => if (k == NameKind.free && env.scope.kind == .function && env.kindOf n == some .cell) then (n, NameKind.cell) else (n, k)).lookup x = some k →
    names.lookup x = some k ∨ (names.lookup x = some .free ∧ k = .cell)
  | [], h => by simp at h
  | (n, j) :: r, h => by
    have ih := @relabel_lookup sc env x k r
    rw [List.map_cons] at h
    rw [List.lookup_cons]
    by_cases hc : (j == NameKind.free && env.scope.kind == .function && env.kindOf n == some .cell) = true
    · have h' : List.lookup x ((n, NameKind.cell) :: (r.map fun (n, k) => if (k == NameKind.free && env.scope.kind == .function && env.kindOf n == some .cell) then (n, NameKind.cell) else (n, k))) = some k := by
        rw [← h]; simp only [if_pos hc]
      rw [List.lookup_cons] at h'
      cases e : x == n with
      | true =>
        rw [e] at h'
        have hk : k = .cell := (Option.some.inj h').symm
        have hj : j = .free := by
          simp only [Bool.and_eq_true, beq_iff_eq] at hc
          exact hc.1.1
        subst hj
        exact .inr ⟨rfl, hk⟩
      | false =>
        rw [e] at h'
        exact ih h'
    · have h' : List.lookup x ((n, j) :: (r.map fun (n, k) => if (k == NameKind.free && env.scope.kind == .function && env.kindOf n == some .cell) then (n, NameKind.cell) else (n, k))) = some k := by
        rw [← h]; simp only [if_neg hc]
      rw [List.lookup_cons] at h'
      cases e : x == n with
      | true => rw [e] at h'; exact .inl h'
      | false => rw [e] at h'; exact ih h'
section
variable {X : Cx} {N' : List Str} {k : Nat} {sc : Scope} {pins : List (Addr × Obj)} {σ : St} {H : Hp} {s : Shared}
theorem comp_cells {C : Addr} {x : Str} {c : Addr} (nd : (sc.names.map (·.1)).Nodup) (h : (compEnvO sc C X.env).cells.lookup x = some c) :
    ((x, c) ∈ cellsFrom (C + 1) sc.names [] ∧ (x, NameKind.cell) ∈ sc.names) ∨ ((x, NameKind.free) ∈ sc.names ∧ c = (X.env.cells.lookup x).getD 0) := by
  have m := mem_of_lookup h
  have m' : (x, c) ∈ cellsFrom (C + 1) sc.names (clos X.env.cells sc.names []) := m
  rw [cellsFrom_app] at m'
  rcases List.mem_append.mp m' with z | z
  · exact .inl ⟨z, cellsFrom_mem z⟩
  · exact .inr (clos_mem z)
theorem comp_free_cell {C : Addr} {x : Str} (nd : (sc.names.map (·.1)).Nodup) (h : (x, NameKind.free) ∈ sc.names) : (compEnvO sc C X.env).cells.lookup x = some ((X.env.cells.lookup x).getD 0) := by
  show (cellsFrom (C + 1) sc.names (clos X.env.cells sc.names [])).lookup x = _
  rw [cellsFrom_app, lookup_app, lookup_none_of (fun a m => ?_), Option.none_or]
  · obtain ⟨b, hb⟩ := lookup_some_of (clos_has (cells := X.env.cells) h)
    have := (clos_mem (mem_of_lookup hb)).2
    rw [hb, this]
  · have e1 := mem_lookup nd (cellsFrom_mem m)
    rw [mem_lookup nd h] at e1
    cases e1
theorem inv_comp (I : Inv X pins σ H s) (hc : X.calm = true) (S : CompNames X.N N' k sc X.env) {fp : List Addr} (hf : ∀ b ∈ fp, FpOk X pins H b) (hfo : ∀ b ∈ fp, ∃ o, s.heap.get? b = some o)
    {s4 : Shared} {D C : Addr} (eD : D = s.heap.objs.size) (eC : C = s.heap.objs.size + 1)
    (e4 : s4 = { s with heap := pushCells ((s.heap.push { cls := .type "list", data := .seq #[] 0 }).push { cls := .type "dict", data := .dict #[] }) sc.names }) :
    Inv (cxComp X N' sc C s H fp) [(D, { cls := .type "list", data := .seq #[] 0 })] (σ ++ List.replicate k none) H s4 ∧ ∀ b ∈ fp, FpOk (cxComp X N' sc C s H fp) [(D, { cls := .type "list", data := .seq #[] 0 })] H b := by
  subst eD eC e4
  generalize hh1 : s.heap.push { cls := .type "list", data := .seq #[] 0 } = h1
  generalize hh2 : h1.push { cls := .type "dict", data := .dict #[] } = h2
  have sz1 : h1.objs.size = s.heap.objs.size + 1 := by rw [← hh1]; exact Heap.size_push ..
  have sz2 : h2.objs.size = s.heap.objs.size + 2 := by rw [← hh2, Heap.size_push, sz1]
  have k1 : ∀ b o, s.heap.get? b = some o → h1.get? b = some o := fun b o e => by rw [← hh1]; exact Heap.get?_push_of_some _ e
  have k2 : ∀ b o, h1.get? b = some o → h2.get? b = some o := fun b o e => by rw [← hh2]; exact Heap.get?_push_of_some _ e
  have k3 : ∀ b o, h2.get? b = some o → (pushCells h2 sc.names).get? b = some o := pushCells_keeps sc.names h2
  have kk : ∀ b o, s.heap.get? b = some o → (pushCells h2 sc.names).get? b = some o := fun b o e => k3 b o (k2 b o (k1 b o e))
  have own : CellsOk (pushCells h2 sc.names) h2.objs.size (cellsFrom h2.objs.size sc.names []) := cellsFrom_ok sc.names h2 h2.objs.size [] ⟨fun _ _ hm => (nomatch hm), List.Pairwise.nil⟩ (Nat.le_refl _)
  have eC1 : s.heap.objs.size + 1 + 1 = h2.objs.size := by rw [sz2]
  have freeCell : ∀ x, (x, NameKind.free) ∈ sc.names → ∃ c, X.env.cells.lookup x = some c := fun x hx => I.ok.has x (S.free x hx)
  have cells : ∀ x c, (compEnvO sc (s.heap.objs.size + 1) X.env).cells.lookup x = some c →
      ((x, c) ∈ cellsFrom h2.objs.size sc.names [] ∧ (x, NameKind.cell) ∈ sc.names ∧ (pushCells h2 sc.names).IsCell c none ∧ h2.objs.size ≤ c) ∨ ((x, NameKind.free) ∈ sc.names ∧ X.env.cells.lookup x = some c) := fun x c e => by
    rcases comp_cells S.nd e with ⟨m, q⟩ | ⟨m, q⟩
    · rw [eC1] at m
      exact .inl ⟨m, q, (own.empty x c m).1, (own.empty x c m).2⟩
    · obtain ⟨c', hc'⟩ := freeCell x m
      rw [hc', Option.getD_some] at q
      subst q
      exact .inr ⟨m, hc'⟩
  have old : ∀ x c, X.env.cells.lookup x = some c → c < s.heap.objs.size := fun x c e => by
    obtain ⟨v, q⟩ := I.cell x c e
    exact q.lt
  have fpl : ∀ b ∈ fp, b < s.heap.objs.size := fun b hb => by
    obtain ⟨o, e⟩ := hfo b hb
    exact Heap.lt_size e
  have hCn : H (s.heap.objs.size + 1) = none := I.hok.fresh (Nat.le_succ _)
  have hDn : H s.heap.objs.size = none := I.hok.fresh (Nat.le_refl _)
  have nofs : ∀ a, s.heap.objs.size ≤ a → a ∉ frs X.stack := fun a ha hb => by
    rcases List.mem_cons.mp (I.stkSub a hb) with e | hb
    · have t1 := asN I.lt
      have t2 := asE e
      have t3 := asL ha
      omega
    · exact I.nofs ha hb
  have fin : ∀ b ∈ fp, b ∉ frs X.stack := fun b hb z => by
    obtain ⟨f0, f1, f2, f3, f4, f5⟩ := hf b hb
    rcases List.mem_cons.mp (I.stkSub b z) with e | z
    · exact f1 e
    · exact f2 z
  have ok : (cxComp X N' sc (s.heap.objs.size + 1) s H fp).Ok := by
    refine ⟨I.ok.mod, S.kind, I.ok.glob, I.ok.blt, Nat.le_succ _, ?_, ?_, ?_, I.ok.hd, I.ok.frames, .inl rfl, ?_, I.bs, Nat.le_trans I.ok.bsz I.sz, ?_, fin, I.stack, I.stkFree⟩
    · intro x y c hx hy
      rcases cells x c hx with ⟨m1, _, _, g1⟩ | ⟨m1, g1⟩ <;> rcases cells y c hy with ⟨m2, _, _, g2⟩ | ⟨m2, g2⟩
      · exact name_of_addr own.apart m1 m2
      · exact absurd (Nat.lt_of_lt_of_le (old y c g2) (Nat.le_trans (by rw [sz2]; exact Nat.le_add_right _ _) g1)) (Nat.lt_irrefl _)
      · exact absurd (Nat.lt_of_lt_of_le (old x c g1) (Nat.le_trans (by rw [sz2]; exact Nat.le_add_right _ _) g2)) (Nat.lt_irrefl _)
      · exact I.ok.inj x y c g1 g2
    · intro x hx
      have hx : (relabel sc X.env).names.lookup x = some .cell ∨ (relabel sc X.env).names.lookup x = some .free := hx
      have two : sc.names.lookup x = some .cell ∨ sc.names.lookup x = some .free := by
        rcases hx with hx | hx
        · rcases relabel_lookup (sc := sc) hx with q | ⟨q, _⟩
          · exact .inl q
          · exact .inr q
        · rcases relabel_lookup (sc := sc) hx with q | ⟨_, q⟩
          · exact .inr q
          · cases q
      rcases two with q | q
      · have := PySem.W.cellsFrom_some sc.names (s.heap.objs.size + 1 + 1) (clos X.env.cells sc.names []) (.inl q)
        exact Option.isSome_iff_exists.mp this
      · exact ⟨_, comp_free_cell S.nd (mem_of_lookup q)⟩
    · intro x c hx e
      have hx : (sc.names.lookup x == some NameKind.cell) = true := hx
      have hx' : sc.names.lookup x = some .cell := by simpa using hx
      rcases cells x c e with ⟨_, _, _, g⟩ | ⟨m, _⟩
      · show s.heap.objs.size ≤ c
        omega
      · rw [mem_lookup S.nd m] at hx'
        cases hx'
    · intro b hb
      refine ⟨?_, fun x c e z => ?_⟩
      · exact Nat.ne_of_lt (Nat.lt_succ_of_lt (fpl b hb))
      · rcases cells x c e with ⟨_, _, _, g⟩ | ⟨_, g⟩
        · have t1 := asN (fpl b hb)
          have t2 := asL g
          have t3 := asE z
          omega
        · exact (hf b hb).2.2.2.2.1 x c g z
    · intro b o e hb
      rcases (hf b hb).2.2.2.1 with z | z
      · exact I.ok.noex b o e z
      · exact absurd (Nat.lt_of_lt_of_le (Heap.lt_size e) (Nat.le_trans I.ok.bsz z)) (Nat.lt_irrefl _)
  have ns : (pushCells h2 sc.names).Ns (s.heap.objs.size + 1) fun _ => none := by
    have q : h2.Ns h1.objs.size fun _ => none := by rw [← hh2]; exact Heap.Ns.new h1 (.type "dict")
    rw [sz1] at q
    exact q.keeps k3
  have hD1 : h1.get? s.heap.objs.size = some { cls := .type "list", data := .seq #[] 0 } := by rw [← hh1]; exact Heap.get?_push_size _ rfl
  refine ⟨⟨ok, rfl, I.bare, Un.kept kk, ⟨_, ns, ?_⟩, ?_, hCn, ?_, ?_, I.hok.kept kk, ?_⟩, ?_⟩
  · intro i x v h1 h2 h3
    have hi : i < X.N.length := by
      rw [← I.len]
      by_cases hi : i < σ.length
      · exact hi
      · rw [List.getElem?_append_right (by omega), List.getElem?_replicate] at h2
        split at h2 <;> cases h2
    have h2' : σ[i]? = some (some v) := by
      rw [List.getElem?_append_left (by rw [I.len]; exact hi)] at h2
      exact h2
    have h1 : N'[i]? = some x := h1
    rcases S.old i x h1 hi with ⟨m, e⟩ | e
    · obtain ⟨mm, hn, hl⟩ := I.loc
      have hv : Vis X.env.scope x := (S.free x m).elim (fun z => .inr (.inl z)) fun z => .inr (.inr z)
      obtain ⟨u, r, l⟩ := hl i x v e h2' hv
      refine ⟨u, r, ?_⟩
      rcases l with ⟨z, _⟩ | ⟨_, c, hc, hcell⟩
      · rcases S.free x m with z' | z' <;> rw [z] at z' <;> cases z'
      · refine .inr ⟨?_, c, ?_, hcell.keeps kk⟩
        · have hv3 : (relabel sc X.env).names.lookup x = some .local ∨ (relabel sc X.env).names.lookup x = some .cell ∨ (relabel sc X.env).names.lookup x = some .free := h3
          rcases hv3 with q | q | q
          · rcases relabel_lookup (sc := sc) q with q | ⟨_, q⟩
            · rw [mem_lookup S.nd m] at q; cases q
            · cases q
          · exact .inl q
          · exact .inr q
        · have q := comp_free_cell (X := X) (C := s.heap.objs.size + 1) S.nd m
          rw [hc, Option.getD_some] at q
          exact q
    · exfalso
      have hv3 : (relabel sc X.env).names.lookup x = some .local ∨ (relabel sc X.env).names.lookup x = some .cell ∨ (relabel sc X.env).names.lookup x = some .free := h3
      rcases hv3 with q | q | q <;> rcases relabel_lookup (sc := sc) q with q | ⟨q, _⟩ <;> rw [e] at q <;> cases q
  · intro x c e
    rcases cells x c e with ⟨_, _, g, _⟩ | ⟨_, g⟩
    · exact ⟨_, g⟩
    · obtain ⟨v, q⟩ := I.cell x c g
      exact ⟨v, q.keeps kk⟩
  · intro x c e
    rcases cells x c e with ⟨_, _, _, g⟩ | ⟨_, g⟩
    · exact I.hok.fresh (by omega)
    · exact I.freeC x c g
  · intro p hp
    have hp' : p = (s.heap.objs.size, { cls := .type "list", data := .seq #[] 0 }) := by
      have : p ∈ ([] ++ [(s.heap.objs.size, ({ cls := .type "list", data := .seq #[] 0 } : Obj))] : List (Addr × Obj)) := hp
      simpa using this
    subst hp'
    refine ⟨k3 _ _ (k2 _ _ hD1), hDn, ?_, nofs _ (Nat.le_refl _), fun v z => by cases z⟩
    show s.heap.objs.size ≠ s.heap.objs.size + 1
    omega
  · show (σ ++ List.replicate k none).length = N'.length
    rw [List.length_append, List.length_replicate, I.len, S.len]
  · intro b hb
    obtain ⟨f0, f1, f2, f3, f4, f5⟩ := hf b hb
    refine ⟨f0, (ok.exf b hb).1, fin b hb, .inl hb, fun x c e => (ok.exf b hb).2 x c e, fun p hp => ?_⟩
    have hp' : p = (s.heap.objs.size, { cls := .type "list", data := .seq #[] 0 }) := by
      have : p ∈ ([] ++ [(s.heap.objs.size, ({ cls := .type "list", data := .seq #[] 0 } : Obj))] : List (Addr × Obj)) := hp
      simpa using this
    subst hp'
    exact Nat.ne_of_gt (fpl b hb)
end
theorem codeAny_compLoop_own {prog : Program} {w : World} {A : Around} {R : Result → Shared → Prop} {s : Shared} {elt target iter : Expr} {ifs : List Expr} {scope : Scope} {pos : Pos} {it acc : Value} {env : Env} (I : Nat → Shared → Prop)
    (turn : ∀ n s, I n s → wpAny (model prog w) A (pyNext it) (fun r s₁ => match r with
      | none => R (.ok .next) s₁
      | some v => wpAny (model prog w) A (letOwnedTupleGo target it v) (fun _ s₂' => wpAny (model prog w) A (assign target env v) (fun _ s₂ =>
          wpAny (model prog w) A (forIn ifs true fun c r => if r = true then do let ok ← isTrue c env (eval c env); pure (ForInStep.yield ok) else pure (ForInStep.yield r)) (fun ok s₃ =>
            if ok = true then wpAny (model prog w) A (eval elt env) (fun x s₄ =>
              wpAny (model prog w) A (call (.builtin "list.append") [acc, x]) (fun _ s₅ => ∃ m, m < n ∧ I m s₅) (fun _ _ => False) s₄) (fun _ _ => False) s₃
            else ∃ m, m < n ∧ I m s₃) (fun _ _ => False) s₂) (fun _ _ => False) s₂') (fun _ _ => False) s₁) (fun _ _ => False) s)
    (n : Nat) (h : I n s) :
    codeAny (model prog w) A (.compLoop (.ListComp elt [⟨target, iter, ifs, 0⟩] scope pos) 0 it acc env) R s := by
  refine codeAny_loop rfl I (fun n s hI => ?_) n h
  show wpAny _ A ((compTurn (.ListComp elt [⟨target, iter, ifs, 0⟩] scope pos) 0 it acc env).onRaise (fun x => do noteFrame x env; theTreesLotGoes x)) _ _ s
  refine wpAny_noted ?_
  rw [compTurn_list]
  refine wpAny_bind (wpAny_standAt (wpAny_bind (wpAny_mono (turn n s hI) (fun r s₁ h₁ => ?_) fun _ _ z => z.elim)))
  cases r with
  | none => exact wpAny_pure h₁
  | some v =>
    refine wpAny_bind (wpAny_mono h₁ (fun _ s₂' h₂' => ?_) fun _ _ z => z.elim)
    refine wpAny_bind (wpAny_mono h₂' (fun _ s₂ h₂ => wpAny_bind (wpAny_mono h₂ (fun ok s₃ h₃ => ?_) fun _ _ z => z.elim)) fun _ _ z => z.elim)
    cases ok with
    | false => exact wpAny_pure ⟨rfl, h₃⟩
    | true =>
      exact wpAny_bind (wpAny_bind (wpAny_mono h₃ (fun x s₄ h₄ => wpAny_bind (wpAny_mono h₄ (fun _ s₅ h₅ => wpAny_pure (wpAny_pure ⟨rfl, h₅⟩)) fun _ _ z => z.elim)) fun _ _ z => z.elim))
def tCompK (k : Nat) (g : TG) (tif : TT) (te : TE) (σ : St) (Q : VK) (J : It) (H1 : Hp) : Prop := ∃ W : Nat → Nat → List V → Hp → Prop, (∃ m, W 0 m [] H1) ∧ ∀ i m acc H, W i m acc H →
  (J.stop i H ∧ ∀ D, H D = none → Q (.ref D) (upd H D (.lst acc))) ∨
  (J.go i H ∧ acc.length < sizeLine ∧ ∃ N : List V → Hp → Prop, (∀ acc' H', N acc' H' → ∃ m', m' < m ∧ W (i + 1) m' acc' H') ∧ ∀ x H', J.yld i H x H' → g x (σ ++ List.replicate k none) H' fun σ2 H2 => ∃ own : St, own.length = k ∧ σ2 = σ ++ own ∧ tif σ2 H2 fun b H3 => if b = true then te σ2 H3 fun v H4 => N (acc ++ [v]) H4 else N acc H3)
def tComp (wi : TI) (k : Nat) (g : TG) (tif : TT) (te : TE) : TE := fun σ H Q => wi σ H (tCompK k g tif te σ Q)
theorem HOk.track {P : Program} {w : World} {H : Hp} {h : Heap} {a : Addr} {o : HO} (x : HOk P w H h) (hn : H a = none) (new : ObjOk P w (upd H a o) h a o) : HOk P w (upd H a o) h := fun b u e => by
  by_cases hb : b = a
  · subst hb; rw [upd_same] at e; cases e; exact new
  · rw [upd_ne hb] at e
    exact (x b u e).stay (fun c v _ q => q) (fun c q => by rw [upd_ne (ne_of_none q hn)]; exact q) fun c xs q => by rw [upd_ne (ne_of_none q hn)]; exact q
section
variable {X : Cx} {N' : List Str} {k : Nat} {sc : Scope} {tg iter elt : Expr} {ifs : List Expr} {wi : TI} {g : TG} {tif : TT} {te : TE} {pos : Pos}
theorem comp_block {pins : List (Addr × Obj)} {σ : St} {H2 : Hp} {s2 : Shared} {Q : VK} {RR : Value → Addr → Result → Shared → Prop} {E : Value → Shared → Prop} (hc : X.calm = true) (S : CompNames X.N N' k sc X.env)
    (hg : ∀ C s H fp, PG (cxComp X N' sc C s H fp) tg g) (hif : ∀ C s H fp, PTs (cxComp X N' sc C s H fp) ifs tif) (he : ∀ C s H fp, PE (cxComp X N' sc C s H fp) elt te)
    {it : Addr} {fp : List Addr} {tn : Nat → Heap → Prop} {J : It} (I2 : Inv X pins σ H2 s2) (T : Turn X.prog X.w X.K tg J fp it tn) (st2 : tn 0 s2.heap) (f2 : ∀ b ∈ fp, FpOk X pins H2 b)
    {W : Nat → Nat → List V → Hp → Prop} {m0 : Nat} (w0 : W 0 m0 [] H2)
    (turn : ∀ i m acc H, W i m acc H → (J.stop i H ∧ ∀ D, H D = none → Q (.ref D) (upd H D (.lst acc))) ∨
      (J.go i H ∧ acc.length < sizeLine ∧ ∃ N : List V → Hp → Prop, (∀ acc' H', N acc' H' → ∃ m', m' < m ∧ W (i + 1) m' acc' H') ∧ ∀ x H', J.yld i H x H' → g x (σ ++ List.replicate k none) H' fun σ2 H2 => ∃ own : St, own.length = k ∧ σ2 = σ ++ own ∧ tif σ2 H2 fun b H3 => if b = true then te σ2 H3 fun v H4 => N (acc ++ [v]) H4 else N acc H3))
    (hRR : ∀ D C s' H', D < C → s2.heap.objs.size ≤ D → (∃ m, s'.heap.Ns C m) → H' C = none → C ∉ frs X.stack → Inv X pins σ H' s' → Q (.ref D) H' → RR (.ref D) C (.ok .next) s') :
    wpAny (model X.prog X.w) X.A (newList []) (fun acc s₃ => wpAny (model X.prog X.w) X.A (newFunctionEnv sc X.env.globals (clos X.env.cells sc.names []) [] X.env.qual none .none (some X.env)) (fun cenv s₄ =>
      codeAny (model X.prog X.w) X.A (.compStart (.ListComp elt [⟨tg, iter, ifs, 0⟩] sc pos) 0 (.ref it) acc { cenv with scope := relabel sc X.env }) (RR acc cenv.locals) s₄) E s₃) E s2 := by
  refine wpAny_newObj_type (wpAny_newEnvAround ?_)
  show codeAny _ _ (.compStart _ 0 (.ref it) (.ref s2.heap.objs.size) _) _ _
  have szp : (s2.heap.push { cls := .type "list", dict := none, data := .seq ([] : List Value).toArray }).objs.size = s2.heap.objs.size + 1 := Heap.size_push ..
  obtain ⟨I4, F4⟩ := inv_comp (s4 := { s2 with heap := pushCells ((s2.heap.push { cls := .type "list", data := .seq #[] 0 }).push { cls := .type "dict", data := .dict #[] }) sc.names }) I2 hc S f2 (fun b hb => let ⟨o, e, _⟩ := T.obj 0 _ st2 b hb; ⟨o, e⟩) rfl rfl rfl
  generalize hC : (s2.heap.push { cls := .type "list", dict := none, data := .seq ([] : List Value).toArray }).objs.size = C at *
  have eC : C = s2.heap.objs.size + 1 := szp
  rw [← eC] at I4 F4
  generalize hs4 : ({ s2 with heap := pushCells ((s2.heap.push { cls := .type "list", data := .seq #[] 0 }).push { cls := .type "dict", data := .dict #[] }) sc.names } : Shared) = s4 at I4 F4
  have kk : ∀ b o, s2.heap.get? b = some o → s4.heap.get? b = some o := fun b o e => by
    rw [← hs4]
    exact pushCells_keeps sc.names _ b o (Heap.get?_push_of_some _ (Heap.get?_push_of_some _ e))
  have st4 : tn 0 s4.heap := T.keep 0 _ _ st2 fun b _ o e => kk b o e
  generalize hX' : cxComp X N' sc C s2 H2 fp = X' at I4 F4
  have henv : X'.env = compEnvO sc C X.env := by rw [← hX']; rfl
  have xprog : X'.prog = X.prog := by rw [← hX']; rfl
  have xw : X'.w = X.w := by rw [← hX']; rfl
  have xK : X'.K = X.K := by rw [← hX']; rfl
  have xcalm : X'.calm = true := by rw [← hX']; exact hc
  have xA : X'.A = X.A := by rw [← hX']; rfl
  have xpn : X'.pn = [] := by rw [← hX']; rfl
  have xxe : X'.xe = fun _ _ => False := by rw [← hX']; rfl
  have xs0 : X'.s₀ = s2 := by rw [← hX']; rfl
  have xH0 : X'.H₀ = H2 := by rw [← hX']; rfl
  have xfs : X'.fs = frs X.stack := by rw [← hX']; rfl
  have xex : X'.ex = fp := by rw [← hX']; rfl
  have hgX : PG X' tg g := by rw [← hX']; exact hg C s2 H2 fp
  have hifX : PTs X' ifs tif := by rw [← hX']; exact hif C s2 H2 fp
  have heX : PE X' elt te := by rw [← hX']; exact he C s2 H2 fp
  have locC : X'.env.locals = C := by rw [henv]; rfl
  generalize hDd : s2.heap.objs.size = D at *
  have loop : codeAny (model X.prog X.w) X.A (.compLoop (.ListComp elt [⟨tg, iter, ifs, 0⟩] sc pos) 0 (.ref it) (.ref D) (compEnvO sc C X.env)) (RR (.ref D) C) s4 := by
    refine codeAny_compLoop_own (fun n s' => ∃ i H' acc its nn, Inv X' [] (σ ++ List.replicate k none) H' s' ∧ tn i s'.heap ∧ (∀ b ∈ fp, H' b = none) ∧ H' D = none ∧ W i n acc H' ∧ acc.length ≤ sizeLine ∧ Vals acc its ∧ s'.heap.get? D = some { cls := .type "list", data := .seq its.toArray nn }) ?_ m0 ?_
    · rintro n s5 ⟨i, H5, acc, its, nn, I5, st5, fr5, hD5, w5, hz5, rv5, hL5⟩
      have hDlt : D < C := by rw [eC]; exact Nat.lt_succ_self _
      have pinD : Inv X' [(D, { cls := .type "list", data := .seq its.toArray nn })] (σ ++ List.replicate k none) H5 s5 := I5.pins_of fun p hp => by
        have hp' : p = (D, { cls := .type "list", data := .seq its.toArray nn }) := by simpa using hp
        subst hp'
        refine ⟨hL5, hD5, ?_, ?_, fun v z => by cases z⟩
        · rw [locC]; exact Nat.ne_of_lt hDlt
        · have q := (I4.pin (D, { cls := .type "list", data := .seq #[] 0 }) (by simp)).2.2.2.1
          exact q
      have fpD : ∀ {H' : Hp} {oo : Obj}, (∀ b ∈ fp, H' b = none) → ∀ b ∈ fp, FpOk X' [(D, oo)] H' b := fun {H' oo} hn b hb => by
        obtain ⟨f0, f1, f2, f3, f4, f5⟩ := F4 b hb
        refine ⟨hn b hb, f1, f2, f3, f4, fun p hp => ?_⟩
        have hp' : p = (D, oo) := by
          rw [xpn] at hp
          simpa using hp
        subst hp'
        exact f5 (D, { cls := .type "list", data := .seq #[] 0 }) (by simp)
      rcases turn i n acc H5 w5 with ⟨stop, q⟩ | ⟨go, hlt, N, hN, step⟩
      · have dn := T.done X' xprog xw xK xcalm i _ s5 _ H5 (fun _ _ => False) pinD (fpD fr5) st5 stop
        rw [xA] at dn
        refine thn dn fun r s6 ⟨hr, I6⟩ => ?_
        subst hr
        show RR (.ref D) C (.ok .next) s6
        have hL6 := (I6.pin (D, { cls := .type "list", data := .seq its.toArray nn }) (by simp)).1
        have un6 : Un (frs X.stack) fp H2 H5 s2.heap s6.heap := by
          have := I6.base
          rw [xs0, xH0, xfs, xex] at this
          exact this
        have hok6 : HOk X.prog X.w H5 s6.heap := by
          have := I6.hok
          rw [xprog, xw] at this
          exact this
        have hDno : s2.heap.get? D = none := Heap.get?_none_of_le (by rw [hDd]; exact Nat.le_refl _)
        have un7 : Un (frs X.stack) fp H2 (upd H5 D (.lst acc)) s2.heap s6.heap :=
          ⟨un6.keep, un6.slot, fun b o e n hx => by
              have hb : b ≠ D := by rintro rfl; rw [hDno] at e; cases e
              rw [upd_ne hb]; exact un6.free b o e n hx, un6.there,
            fun b xs e => by
              have e' := un6.tups b xs e
              rw [upd_ne (ne_of_none e' hD5)]; exact e',
            fun b o u e => by
              have e' := un6.frzs b o u e
              rw [upd_ne (ne_of_none e' hD5)]; exact e',
            fun b ps e => by
              obtain ⟨more, e'⟩ := un6.tbls b ps e
              exact ⟨more, by rw [upd_ne (ne_of_none e' hD5)]; exact e'⟩⟩
        have hok7 : HOk X.prog X.w (upd H5 D (.lst acc)) s6.heap := hok6.track hD5 ⟨hz5, its, nn, rv5, hL6⟩
        have os6 : s6.os = s2.os := by have := I6.os; rw [xs0] at this; exact this
        have I7 : Inv X pins σ (upd H5 D (.lst acc)) s6 := I2.call' os6 un7 hok7 I6.bare fun b hb => by
          obtain ⟨f0, f1, f2, f3, f4, f5⟩ := f2 b hb
          exact ⟨f3, f1, f4, f5⟩
        obtain ⟨mm, hn, _⟩ := I6.loc
        rw [locC] at hn
        have hC5 : H5 C = none := by have := I6.free; rw [locC] at this; exact this
        refine hRR D C s6 (upd H5 D (.lst acc)) hDlt (Nat.le_refl _) ⟨mm, hn⟩ ?_ ?_ I7 (q D hD5)
        · rw [upd_ne (Nat.ne_of_gt hDlt)]; exact hC5
        · intro hb
          rcases List.mem_cons.mp (I2.stkSub C hb) with e | hb
          · have t1 := asN I2.lt
            have t2 := asE e
            rw [hDd] at t1
            have t3 := asN hDlt
            omega
          · exact I2.nofs (by rw [hDd]; exact Nat.le_of_lt hDlt) hb
      · have itm := T.item X' xprog xw xK xcalm i _ s5 _ H5 (fun _ _ => False) pinD (fpD fr5) st5 go
        rw [xA] at itm
        refine thn itm fun r s6 ⟨u, hr, h6⟩ => ?_
        subst hr
        refine thn h6 fun _ s7 ⟨x, H7, I7, r7, y7, st7, fr7⟩ => ?_
        have I7' : Inv X' ([(D, { cls := .type "list", data := .seq its.toArray nn })] ++ pinsAt fp s7.heap) (σ ++ List.replicate k none) H7 s7 := I7.pinned (fpD fr7) (T.obj _ _ st7)
        have asg := hgX _ s7 _ H7 x u _ I7' r7 (step x H7 y7)
        rw [xprog, xw, xA, henv, xxe] at asg
        refine thn asg fun _ s8 ⟨σ8, H8, I8, own, hown, hσ8, q8⟩ => ?_
        have weak : ∀ {pl : List (Addr × Obj)} {H' : Hp} {s' : Shared}, Inv X' pl σ8 H' s' → Inv X' [] (σ ++ List.replicate k none) H' s' := fun {pl H' s'} J' => by
          have J0 : Inv X' [] σ8 H' s' := J'.pins_of (fun p hp => by simp at hp)
          refine J0.weak (by rw [hσ8]; simp [hown]) fun j v hj => ?_
          rw [hσ8]
          by_cases hjl : j < σ.length
          · rw [List.getElem?_append_left hjl] at hj ⊢
            exact hj
          · rw [List.getElem?_append_right (by omega), List.getElem?_replicate] at hj
            split at hj <;> cases hj
        have tst := hifX _ s8 σ8 H8 _ I8 q8
        rw [xprog, xw, xA, henv, xxe] at tst
        refine thn tst fun b s9 ⟨H9, I9, q9⟩ => ?_
        have pin9 : ∀ {σ' : St} {H' : Hp} {s' : Shared}, Inv X' ([(D, { cls := .type "list", data := .seq its.toArray nn })] ++ pinsAt fp s7.heap) σ' H' s' →
            s'.heap.get? D = some { cls := .type "list", data := .seq its.toArray nn } ∧ H' D = none ∧ tn (i + 1) s'.heap ∧ (∀ b ∈ fp, H' b = none) := fun {σ' H' s'} J' => by
          have a1 := J'.pin (D, { cls := .type "list", data := .seq its.toArray nn }) (by simp)
          refine ⟨a1.1, a1.2.1, T.keep _ _ _ st7 fun b hb o e => (J'.pin (b, o) (List.mem_append_right _ (List.mem_append_right _ (mem_pinsAt hb e)))).1, fun b hb => ?_⟩
          obtain ⟨o, e, d⟩ := T.obj _ _ st7 b hb
          exact (J'.pin (b, o) (List.mem_append_right _ (List.mem_append_right _ (mem_pinsAt hb e)))).2.1
        cases b with
        | false =>
          rw [if_neg Bool.false_ne_true]
          rw [if_neg Bool.false_ne_true] at q9
          obtain ⟨m', hm, w9⟩ := hN _ _ q9
          obtain ⟨p1, p2, p3, p4⟩ := pin9 I9
          exact ⟨m', hm, i + 1, H9, acc, its, nn, weak I9, p3, p4, p2, w9, hz5, rv5, p1⟩
        | true =>
          rw [if_pos rfl]
          rw [if_pos rfl] at q9
          have ev := heX _ s9 σ8 H9 _ I9 q9
          rw [xprog, xw, xA, henv, xxe] at ev
          refine thn ev fun y s10 ⟨v, H10, I10, r10, n10⟩ => ?_
          obtain ⟨m', hm, w10⟩ := hN _ _ n10
          obtain ⟨p1, p2, p3, p4⟩ := pin9 I10
          have hlen : its.length = acc.length := rv5.length.symm
          refine wpAny_list_append_plain (items := its.toArray) ⟨nn, p1⟩ (fun h' hl' hs' => ?_) (by simp only [List.size_toArray]; omega)
          have hDfp : D ∉ fp := fun hb => (F4 D hb).2.2.2.2.2 (D, { cls := .type "list", data := .seq #[] 0 }) (by simp) rfl
          have I11 : Inv X' [] (σ ++ List.replicate k none) H10 { s10 with heap := h' } := by
            have J0 : Inv X' [] (σ ++ List.replicate k none) H10 s10 := weak I10
            refine J0.turned (t' := s10.toks) (it := D) (fun b o hb e => (hs'.2 b hb).trans e) p2 ?_ (.inr ?_) (fun x c e z => ?_) (fun p hp => ?_)
            · rw [locC]; exact Nat.ne_of_lt hDlt
            · rw [xs0, hDd]; exact Nat.le_refl _
            · obtain ⟨v', q⟩ := J0.cell x c e
              obtain ⟨o, ho, hd⟩ := q
              rw [z, p1] at ho
              cases ho
              cases hd
            · rw [xpn] at hp; simp at hp
          obtain ⟨n', hk⟩ := hl'
          have hk' : h'.get? D = some { cls := .type "list", data := .seq (its ++ [y]).toArray n' } := by rw [hk]; simp
          refine ⟨m', hm, i + 1, H10, acc ++ [v], its ++ [y], n', I11, T.keep _ _ _ p3 fun b hb o e => (hs'.2 b (fun z => hDfp (z ▸ hb))).trans e, p4, p2, w10, ?_, rv5.append (.cons r10 .nil), hk'⟩
          rw [List.length_append, List.length_singleton]
          omega
    · refine ⟨0, H2, [], [], 0, I4.pins_of (fun p hp => by simp at hp), st4, fun b hb => (f2 b hb).1, I2.hok.fresh (by rw [hDd]; exact Nat.le_refl _), w0, Nat.zero_le _, .nil, ?_⟩
      exact (I4.pin (D, { cls := .type "list", data := .seq #[] 0 }) (by simp)).1
  exact codeAny_compStart_list loop (T.self _ 0 _ _ _ st4 loop)
theorem pe_comp (hc : X.calm = true) (S : CompNames X.N N' k sc X.env) (hi : PI X tg iter wi)
    (hg : ∀ C s H fp, PG (cxComp X N' sc C s H fp) tg g) (hif : ∀ C s H fp, PTs (cxComp X N' sc C s H fp) ifs tif) (he : ∀ C s H fp, PE (cxComp X N' sc C s H fp) elt te)
    (hs : ∀ x, foldedSetIterable iter X.env x = pure x := by intro _; rfl) : PE X (.ListComp elt [⟨tg, iter, ifs, 0⟩] sc pos) (tComp wi k g tif te) := by
  intro pins s σ H Q I h
  rw [eval_ListComp]
  have hfree : ∀ x, (x, NameKind.free) ∈ sc.names → ∃ c, X.env.cells.lookup x = some c := fun x hx => I.ok.has x (S.free x hx)
  refine wpAny_comprehension_free (use := none) rfl hs (closureFor_eq hfree) S.kind (fun x hx hl => ?_) ?_
  · obtain ⟨n, kd⟩ := x
    dsimp only at hl ⊢
    subst hl
    exact mem_lookup S.nd hx
  · refine thn (hi pins s σ H _ I h) fun v s1 h1 => thn h1 fun itv s2 h2 => ?_
    obtain ⟨it, fp, tn, J, H2, e, I2, T, st2, f2, W, ⟨m0, w0⟩, turn⟩ := h2
    subst e
    refine comp_block (RR := fun acc C => compPost (model X.prog X.w) X.A X.xe none (EP X pins σ Q) acc C) hc S hg hif he I2 T st2 f2 w0 turn ?_
    intro D C s' H' hDC hD hn hCn hCf I' q
    obtain ⟨m, hn⟩ := hn
    refine ⟨m, hn, fun h' hs' => ⟨.ref D, H', ?_, rfl, q⟩⟩
    have hCb : s2.heap.objs.size ≤ C := Nat.le_of_lt (Nat.lt_of_le_of_lt hD hDC)
    refine I'.turned (t' := s'.toks) (it := C) (fun b o hb e => (hs'.2 b hb).trans e) hCn ?_ (.inr (Nat.le_trans I2.sz hCb)) (fun x c e z => ?_) (fun p hp z => ?_)
    · exact Nat.ne_of_gt (Nat.lt_of_lt_of_le I2.lt hCb)
    · obtain ⟨v, q⟩ := I2.cell x c e
      exact absurd z (Nat.ne_of_lt (Nat.lt_of_lt_of_le q.lt hCb))
    · exact absurd z (Nat.ne_of_lt (Nat.lt_of_lt_of_le (Heap.lt_size (I2.pin p hp).1) hCb))
theorem ps_setComp {i : Nat} {x : Str} {pos' spos : Pos} (hN : X.N.Nodup) (hi' : X.N[i]? = some x) (hx : Loc X.env.scope x) (hc : X.calm = true) (S : CompNames X.N N' k sc X.env) (hi : PI X tg iter wi)
    (hg : ∀ C s H fp, PG (cxComp X N' sc C s H fp) tg g) (hif : ∀ C s H fp, PTs (cxComp X N' sc C s H fp) ifs tif) (he : ∀ C s H fp, PE (cxComp X N' sc C s H fp) elt te)
    (hsw : swapsWith (.ListComp elt [⟨tg, iter, ifs, 0⟩] sc pos) (some (.Name x pos')) spos.line X.env = pure true := by rfl)
    (hs : ∀ x, foldedSetIterable iter X.env x = pure x := by intro _; rfl) (hf : X.fn x = true ∨ X.env.scope.names.lookup x = some .local := by first | exact .inl rfl | exact .inr rfl | assumption) :
    PS X (.Assign [.Name x pos'] (.ListComp elt [⟨tg, iter, ifs, 0⟩] sc pos) spos) (tAsg (tComp wi k g tif te) (gName i)) := by
  intro pins s σ H Dn I h
  rw [exec_Assign_Name_used _ _ _ _ hsw]
  refine wpAny_bind (wpAny_standAt (wpAny_bind ?_))
  show wpAny _ X.A (do let _ ← comprehension (.ListComp elt [⟨tg, iter, ifs, 0⟩] sc pos) sc X.env _ (newList []) false (eval iter X.env) (some (assign (.Name x pos') X.env))) _ _ s
  have hfree : ∀ x, (x, NameKind.free) ∈ sc.names → ∃ c, X.env.cells.lookup x = some c := fun x hx => I.ok.has x (S.free x hx)
  refine wpAny_bind (wpAny_mono (wpAny_comprehension_free (use := some (assign (.Name x pos') X.env)) (Q := fun _ s' => SP X pins Dn .next s') rfl hs (closureFor_eq hfree) S.kind (fun x hx hl => ?_) ?_)
    (fun _ s' hq => wpAny_pure (wpAny_pure hq)) fun _ _ e => e)
  · obtain ⟨n, kd⟩ := x
    dsimp only at hl ⊢
    subst hl
    exact mem_lookup S.nd hx
  · refine thn (hi pins s σ H _ I h) fun v s1 h1 => thn h1 fun itv s2 h2 => ?_
    obtain ⟨it, fp, tn, J, H2, e, I2, T, st2, f2, W, ⟨m0, w0⟩, turn⟩ := h2
    subst e
    refine comp_block (Q := fun v H' => gName i v σ H' Dn.nx) (RR := fun acc C => compPost (model X.prog X.w) X.A X.xe (some (assign (.Name x pos') X.env)) (fun _ s' => SP X pins Dn .next s') acc C) hc S hg hif he I2 T st2 f2 w0 turn ?_
    intro D C s' H' hDC hD hn hCn hCf I' q
    obtain ⟨m, hn⟩ := hn
    show wpAny _ _ (assign (.Name x pos') X.env (.ref D)) _ _ _
    have hCb : s2.heap.objs.size ≤ C := Nat.le_of_lt (Nat.lt_of_le_of_lt hD hDC)
    have hCL : C ≠ X.env.locals := Nat.ne_of_gt (Nat.lt_of_lt_of_le I2.lt hCb)
    have hCc : ∀ x c, X.env.cells.lookup x = some c → c ≠ C := fun x c e z => by
      obtain ⟨v, q⟩ := I2.cell x c e
      exact absurd z (Nat.ne_of_lt (Nat.lt_of_lt_of_le q.lt hCb))
    refine wpAny_assign_Name (store_ok2 (v := .ref D) I' hN hi' hx rfl (fun s'' I'' ⟨a, sb, ha⟩ => ?_) hf)
    have hCa : C ≠ a := by
      rcases ha with e | e
      · rw [e]; exact hCL
      · exact fun z => hCc x a e z.symm
    refine ⟨m, hn.sameBut sb hCa, fun h' hs' => ⟨_, H', ?_, q⟩⟩
    refine I''.turned (t' := s''.toks) (it := C) (fun b o hb e => (hs'.2 b hb).trans e) hCn hCL (.inr (Nat.le_trans I2.sz hCb)) hCc (fun p hp z => ?_)
    exact absurd z (Nat.ne_of_lt (Nat.lt_of_lt_of_le (Heap.lt_size (I2.pin p hp).1) hCb))
theorem comp_range {lo : Int} {n : Nat} {σ : St} {H : Hp} {Q : VK} (Pv : Nat → List V → Hp → Prop) (h0 : Pv 0 [] H) (hz : ∀ i acc H, i < n → Pv i acc H → acc.length < sizeLine)
    (hs : ∀ i acc H, i < n → Pv i acc H → g (.int (lo + i)) (σ ++ List.replicate k none) H fun σ2 H2 => ∃ own : St, own.length = k ∧ σ2 = σ ++ own ∧ tif σ2 H2 fun b H3 => if b = true then te σ2 H3 fun v H4 => Pv (i + 1) (acc ++ [v]) H4 else Pv (i + 1) acc H3)
    (hd : ∀ acc H, Pv n acc H → ∀ D, H D = none → Q (.ref D) (upd H D (.lst acc))) :
    tCompK k g tif te σ Q (Itr lo n) H := by
  refine ⟨fun i m acc H => m = n - i ∧ i ≤ n ∧ Pv i acc H, ⟨n, by simp, Nat.zero_le _, h0⟩, ?_⟩
  rintro i m acc H ⟨rfl, hi, p⟩
  by_cases hlt : i < n
  · refine .inr ⟨hlt, hz i acc H hlt p, Pv (i + 1), fun acc' H' p' => ⟨n - (i + 1), by omega, rfl, hlt, p'⟩, fun x H' y => ?_⟩
    obtain ⟨e, y⟩ := y
    subst e y
    exact hs i acc _ hlt p
  · have e : i = n := by omega
    subst e
    exact .inl ⟨Nat.le_refl _, hd acc H p⟩
def tForK (g : TG) (tb : TS) (D : Ends) (σ : St) (J : It) (H1 : Hp) : Prop := ∃ W : Nat → Nat → St → Hp → Prop, (∃ m, W 0 m σ H1) ∧ ∀ i m σ H, W i m σ H →
  (J.stop i H ∧ D.nx σ H) ∨ (J.go i H ∧ ∃ N : St → Hp → Prop, (∀ σ' H', N σ' H' → ∃ m', m' < m ∧ W (i + 1) m' σ' H') ∧ ∀ x H', J.yld i H x H' → g x σ H' fun σ2 H2 => tb { D with nx := N, ct := N, bk := D.nx } σ2 H2)
theorem ps_forK {body : List Stmt} {tb : TS} (hp : PassesOwn (model X.prog X.w) X.A X.env X.xe) (hc : X.calm = true) (hi : PI X tg iter wi) (hg : PG X tg g) (hb : PSs X body tb)
    (hs : ∀ x, foldedSetIterable iter X.env x = pure x := by intro _; rfl) : PS X (.For tg iter body [] pos) (fun D σ H => wi σ H (tForK g tb D σ)) := ps_for hp hc hi hg hb hs
end
end L2

namespace L2
open PySem PySem.Spec PyProof.Rows
inductive Dat where
  | non | bl (b : Bool) | int (i : Int) | str (x : Str) | lst (xs : List Dat) | tup (xs : List Dat)
mutual
def Dat.dep : Dat → Nat
  | .lst xs => Dat.depL xs + 1
  | .tup xs => Dat.depL xs + 1
  | _ => 0
def Dat.depL : List Dat → Nat
  | [] => 0
  | x :: r => max x.dep (Dat.depL r)
end
mutual
def Dat.eq : Dat → Dat → Bool
  | .non, .non => true
  | .bl a, .bl b => a == b
  | .bl a, .int b => (if a then 1 else 0) == b
  | .int a, .bl b => a == (if b then 1 else 0)
  | .int a, .int b => a == b
  | .str a, .str b => a == b
  | .lst xs, .lst ys => Dat.eqL xs ys
  | .tup xs, .tup ys => Dat.eqL xs ys
  | _, _ => false
def Dat.eqL : List Dat → List Dat → Bool
  | [], [] => true
  | x :: r, y :: q => Dat.eq x y && Dat.eqL r q
  | _, _ => false
end
mutual
def Rep (H : Hp) : Dat → V → Prop
  | .non, v => v = .non
  | .bl b, v => v = .bl b
  | .int i, v => v = .int i
  | .str x, v => v = .str x
  | .lst ds, v => ∃ a xs, v = .ref a ∧ H a = some (.lst xs) ∧ RepL H ds xs
  | .tup ds, v => ∃ a xs, v = .ref a ∧ H a = some (.tup xs) ∧ RepL H ds xs
def RepL (H : Hp) : List Dat → List V → Prop
  | [], xs => xs = []
  | d :: r, xs => ∃ x q, xs = x :: q ∧ Rep H d x ∧ RepL H r q
end
mutual
theorem Rep.mono {H H' : Hp} (s : Same H H') : ∀ {d : Dat} {v : V}, Rep H d v → Rep H' d v
  | .non, _, h => h
  | .bl _, _, h => h
  | .int _, _, h => h
  | .str _, _, h => h
  | .lst _, _, h => by obtain ⟨a, xs, e, e', r⟩ := h; exact ⟨a, xs, e, s _ _ e', RepL.mono s r⟩
  | .tup _, _, h => by obtain ⟨a, xs, e, e', r⟩ := h; exact ⟨a, xs, e, s _ _ e', RepL.mono s r⟩
theorem RepL.mono {H H' : Hp} (s : Same H H') : ∀ {ds : List Dat} {xs : List V}, RepL H ds xs → RepL H' ds xs
  | [], _, h => h
  | _ :: _, _, h => by obtain ⟨x, q, e, r, t⟩ := h; exact ⟨x, q, e, Rep.mono s r, RepL.mono s t⟩
end
mutual
theorem Rep.inj {H : Hp} : ∀ {d e : Dat} {v : V}, Rep H d v → Rep H e v → d = e
  | .non, e, v, h, h' => by cases h; cases e <;> first | rfl | (cases h'; done) | (obtain ⟨a, xs, z, _⟩ := h'; cases z)
  | .bl b, e, v, h, h' => by cases h; cases e <;> first | (cases h'; rfl) | (cases h'; done) | (obtain ⟨a, xs, z, _⟩ := h'; cases z)
  | .int b, e, v, h, h' => by cases h; cases e <;> first | (cases h'; rfl) | (cases h'; done) | (obtain ⟨a, xs, z, _⟩ := h'; cases z)
  | .str b, e, v, h, h' => by cases h; cases e <;> first | (cases h'; rfl) | (cases h'; done) | (obtain ⟨a, xs, z, _⟩ := h'; cases z)
  | .lst ds, e, v, h, h' => by
    obtain ⟨a, xs, rfl, ha, q⟩ := h
    cases e with
    | lst es =>
      obtain ⟨b, ys, z, hb, q'⟩ := h'
      cases z
      rw [ha] at hb
      cases hb
      rw [RepL.inj q q']
    | tup es =>
      obtain ⟨b, ys, z, hb, q'⟩ := h'
      cases z
      rw [ha] at hb
      cases hb
    | _ => cases h'
  | .tup ds, e, v, h, h' => by
    obtain ⟨a, xs, rfl, ha, q⟩ := h
    cases e with
    | tup es =>
      obtain ⟨b, ys, z, hb, q'⟩ := h'
      cases z
      rw [ha] at hb
      cases hb
      rw [RepL.inj q q']
    | lst es =>
      obtain ⟨b, ys, z, hb, q'⟩ := h'
      cases z
      rw [ha] at hb
      cases hb
    | _ => cases h'
theorem RepL.inj {H : Hp} : ∀ {ds es : List Dat} {xs : List V}, RepL H ds xs → RepL H es xs → ds = es
  | [], [], _, _, _ => rfl
  | [], _ :: _, _, h, h' => by cases h; obtain ⟨x, q, e, _⟩ := h'; cases e
  | _ :: _, [], _, h, h' => by cases h'; obtain ⟨x, q, e, _⟩ := h; cases e
  | d :: r, e :: t, _, h, h' => by
    obtain ⟨x, q, rfl, r1, t1⟩ := h
    obtain ⟨x', q', z, r2, t2⟩ := h'
    cases z
    rw [Rep.inj r1 r2, RepL.inj t1 t2]
end
mutual
theorem Dat.eq_refl : ∀ d : Dat, Dat.eq d d = true
  | .non => by simp [Dat.eq]
  | .bl _ => by simp [Dat.eq]
  | .int _ => by simp [Dat.eq]
  | .str _ => by simp [Dat.eq]
  | .lst xs => by rw [Dat.eq]; exact Dat.eqL_refl xs
  | .tup xs => by rw [Dat.eq]; exact Dat.eqL_refl xs
theorem Dat.eqL_refl : ∀ ds : List Dat, Dat.eqL ds ds = true
  | [] => by simp [Dat.eqL]
  | d :: r => by rw [Dat.eqL, Dat.eq_refl d, Dat.eqL_refl r]; rfl
end
theorem RepL.length {H : Hp} : ∀ {ds : List Dat} {xs : List V}, RepL H ds xs → xs.length = ds.length
  | [], _, h => by cases h; rfl
  | _ :: _, _, h => by obtain ⟨x, q, e, r, t⟩ := h; subst e; simp [RepL.length t]
theorem Dat.eqL_len : ∀ {xs ys : List Dat}, xs.length ≠ ys.length → Dat.eqL xs ys = false
  | [], [], h => absurd rfl h
  | [], _ :: _, _ => by simp [Dat.eqL]
  | _ :: _, [], _ => by simp [Dat.eqL]
  | x :: r, y :: q, h => by
    rw [Dat.eqL, Dat.eqL_len (fun e => h (by simp [e])), Bool.and_false]
theorem Dat.eqL_all : ∀ {xs ys : List Dat}, xs.length = ys.length → ∀ (e : Nat → Bool), (∀ j (h1 : j < xs.length) (h2 : j < ys.length), e j = Dat.eq xs[j] ys[j]) → (List.range xs.length).all e = Dat.eqL xs ys
  | [], [], _, _, _ => by simp [Dat.eqL]
  | [], _ :: _, h, _, _ => by simp at h
  | _ :: _, [], h, _, _ => by simp at h
  | x :: r, y :: q, h, e, he => by
    have hl : r.length = q.length := by simpa using h
    rw [List.length_cons, List.range_succ_eq_map, List.all_cons, Dat.eqL, he 0 (by simp) (by simp)]
    have := Dat.eqL_all (xs := r) (ys := q) hl (fun j => e (j + 1)) (fun j h1 h2 => by
      rw [he (j + 1) (by simpa using h1) (by simpa using h2)]; simp)
    rw [← this, List.all_map]
    rfl
theorem RepL.get {H : Hp} : ∀ {ds : List Dat} {xs : List V} {i : Nat} {x : V}, RepL H ds xs → xs[i]? = some x → ∃ d, ds[i]? = some d ∧ Rep H d x
  | [], _, _, _, h, e => by cases h; simp at e
  | d :: _, _, 0, _, h, e => by obtain ⟨x, q, e1, r, t⟩ := h; subst e1; simp at e; subst e; exact ⟨d, rfl, r⟩
  | _ :: _, _, i + 1, _, h, e => by
    obtain ⟨x, q, e1, r, t⟩ := h
    subst e1
    obtain ⟨d', h1, h2⟩ := RepL.get (i := i) t (by simpa using e)
    exact ⟨d', by simpa using h1, h2⟩
theorem Dat.depL_mem {d : Dat} : ∀ {ds : List Dat}, d ∈ ds → d.dep ≤ Dat.depL ds
  | _ :: _, h => by
    rw [Dat.depL]
    rcases List.mem_cons.mp h with rfl | h
    · exact Nat.le_max_left _ _
    · exact Nat.le_trans (Dat.depL_mem h) (Nat.le_max_right _ _)
section
variable {P : Program} {w : World} {H : Hp}
theorem in1_units (A : Around) : A.in1.units = A.units + 1 := rfl
theorem hok_list {s : Shared} {a : Addr} {xs : List V} (ok : HOk P w H s.heap) (h : H a = some (.lst xs)) : ∃ its : List Value, Vals xs its ∧ s.heap.IsList a its.toArray := by
  obtain ⟨_, its, n, r, e⟩ := ok a _ h
  exact ⟨its, r, ⟨_, e, rfl, n, rfl⟩⟩
theorem hok_tup {s : Shared} {a : Addr} {xs : List V} (ok : HOk P w H s.heap) (h : H a = some (.tup xs)) : ∃ its : List Value, Vals xs its ∧ s.heap.IsTuple a its.toArray := by
  obtain ⟨_, its, r, e⟩ := ok a _ h
  exact ⟨its, r, e⟩
theorem Rep.flat {d : Dat} {v : V} (h : Rep H d v) (hf : d.dep = 0) : flatV v = true := by
  cases d with
  | non => cases h; rfl
  | bl _ => cases h; rfl
  | int _ => cases h; rfl
  | str _ => cases h; rfl
  | lst _ => simp [Dat.dep] at hf
  | tup _ => simp [Dat.dep] at hf
theorem Rep.flatEq {d e : Dat} {v u : V} (h : Rep H d v) (h' : Rep H e u) (hf : d.dep = 0) (hf' : e.dep = 0) : eqV v u = Dat.eq d e := by
  cases d <;> cases e <;> first
    | (simp [Dat.dep] at hf; done)
    | (simp [Dat.dep] at hf'; done)
    | (cases h; cases h'; simp [eqV, Dat.eq]; done)
theorem eqAt_rep : ∀ (n : Nat) {d e : Dat} {v u : V} {x y : Value} {A : Around} {s : Shared}, d.dep ≤ n → HOk P w H s.heap → Rep H d v → Rep H e u → RelV v x → RelV u y → A.units + n < cLine → SeqAt.EqAt A s x y (Dat.eq d e) := by
  intro n
  induction n with
  | zero =>
    intro d e v u x y A s hd ok h1 h2 r1 r2 hu
    have f1 := h1.flat (by omega)
    by_cases he : e.dep = 0
    · have f2 := h2.flat he
      have := eqAt_V (A := A) (s := s) r1 r2 f1 f2
      rw [h1.flatEq h2 (by omega) he] at this
      exact this
    · have hu' : A.units < cLine := by omega
      cases e with
      | lst ys =>
        obtain ⟨a, xs, rfl, ha, _⟩ := h2
        obtain ⟨its, _, hl⟩ := hok_list ok ha
        cases r2
        cases d with
        | non => cases h1; cases r1; exact SeqAt.EqAt.none_list hl hu'
        | bl b => cases h1; cases r1; exact SeqAt.EqAt.bool_list b hl hu'
        | int i => cases h1; obtain ⟨t, rfl⟩ := r1; exact SeqAt.EqAt.int_list i t hl hu'
        | str z => cases h1; obtain ⟨t, rfl⟩ := r1; exact SeqAt.EqAt.str_list z t hl hu'
        | lst _ => simp [Dat.dep] at hd
        | tup _ => simp [Dat.dep] at hd
      | tup ys =>
        obtain ⟨a, xs, rfl, ha, _⟩ := h2
        obtain ⟨its, _, hl⟩ := hok_tup ok ha
        cases r2
        cases d with
        | non => cases h1; cases r1; exact SeqAt.EqAt.none_tuple hl hu'
        | bl b => cases h1; cases r1; exact SeqAt.EqAt.bool_tuple b hl hu'
        | int i => cases h1; obtain ⟨t, rfl⟩ := r1; exact SeqAt.EqAt.int_tuple i t hl hu'
        | str z => cases h1; obtain ⟨t, rfl⟩ := r1; exact SeqAt.EqAt.str_tuple z t hl hu'
        | lst _ => simp [Dat.dep] at hd
        | tup _ => simp [Dat.dep] at hd
      | _ => simp [Dat.dep] at he
  | succ n ih =>
    intro d e v u x y A s hd ok h1 h2 r1 r2 hu
    by_cases hd0 : d.dep ≤ n
    · exact ih hd0 ok h1 h2 r1 r2 (by omega)
    have hu' : A.units < cLine := by omega
    have pairs : ∀ {ds es : List Dat} {xs ys : List V} {its its2 : List Value}, Dat.depL ds ≤ n → RepL H ds xs → RepL H es ys → Vals xs its → Vals ys its2 → ∀ j (h1 : j < its.toArray.size) (h2 : j < its2.toArray.size),
        SeqAt.EqAt A.in1 s its.toArray[j] its2.toArray[j] (Dat.eq (ds.getD j .non) (es.getD j .non)) := by
      intro ds es xs ys its its2 hdl q1 q2 v1 v2 j j1 j2
      have l1 : j < xs.length := by have := v1.length; simp at j1; omega
      have l2 : j < ys.length := by have := v2.length; simp at j2; omega
      obtain ⟨d', e1, p1⟩ := q1.get (i := j) (x := xs[j]) (by simp [l1])
      obtain ⟨e', e2, p2⟩ := q2.get (i := j) (x := ys[j]) (by simp [l2])
      obtain ⟨w1, g1, z1⟩ := v1.get (i := j) (x := xs[j]) (by simp [l1])
      obtain ⟨w2, g2, z2⟩ := v2.get (i := j) (x := ys[j]) (by simp [l2])
      have k1 : its.toArray[j] = w1 := by
        obtain ⟨_, k⟩ := List.getElem?_eq_some_iff.mp g1
        simpa using k
      have k2 : its2.toArray[j] = w2 := by
        obtain ⟨_, k⟩ := List.getElem?_eq_some_iff.mp g2
        simpa using k
      rw [k1, k2, List.getD_eq_getElem?_getD, List.getD_eq_getElem?_getD, e1, e2]
      exact ih (Nat.le_trans (Dat.depL_mem (List.mem_of_getElem? e1)) hdl) ok p1 p2 z1 z2 (by rw [in1_units]; omega)
    cases d with
    | lst ds =>
      have hdl : Dat.depL ds ≤ n := by rw [Dat.dep] at hd; omega
      obtain ⟨a, xs, rfl, ha, q1⟩ := h1
      obtain ⟨its, v1, hl1⟩ := hok_list ok ha
      cases r1
      cases e with
      | non => cases h2; cases r2; exact SeqAt.EqAt.list_none hl1 hu'
      | bl b => cases h2; cases r2; exact SeqAt.EqAt.list_bool b hl1 hu'
      | int i => cases h2; obtain ⟨t, rfl⟩ := r2; exact SeqAt.EqAt.list_int i t hl1 hu'
      | str z => cases h2; obtain ⟨t, rfl⟩ := r2; exact SeqAt.EqAt.list_str z t hl1 hu'
      | tup es =>
        obtain ⟨b, ys, rfl, hb, q2⟩ := h2
        obtain ⟨its2, v2, hl2⟩ := hok_tup ok hb
        cases r2
        exact SeqAt.EqAt.of_refs (ne_of ha hb (fun z => nomatch z)) (SeqAt.RcAt.list_tuple hl1 hl2 hu')
      | lst es =>
        obtain ⟨b, ys, rfl, hb, q2⟩ := h2
        obtain ⟨its2, v2, hl2⟩ := hok_list ok hb
        cases r2
        have len1 : its.toArray.size = ds.length := by have := v1.length; have := q1.length; simp; omega
        have len2 : its2.toArray.size = es.length := by have := v2.length; have := q2.length; simp; omega
        show SeqAt.EqAt A s (.ref a) (.ref b) (Dat.eqL ds es)
        by_cases hne : a = b
        · 
          subst hne
          rw [ha] at hb
          cases hb
          have same : Dat.eqL ds es = true := by
            rw [RepL.inj q1 q2]; exact Dat.eqL_refl _
          rw [same]
          exact SeqAt.EqAt.same _
        · refine SeqAt.EqAt.of_refs hne ?_
          by_cases hs : ds.length = es.length
          · have := SeqAt.RcAt.lists (A := A) (s := s) hl1 hl2 (by rw [len1, len2, hs]) hu' (pairs hdl q1 q2 v1 v2)
            rw [len1, Dat.eqL_all hs _ (fun j h1 h2 => by rw [List.getD_eq_getElem?_getD, List.getD_eq_getElem?_getD]; simp [h1, h2])] at this
            exact this
          · rw [Dat.eqL_len hs]
            exact SeqAt.RcAt.lists_lengths hl1 hl2 (by rw [len1, len2]; simpa using hs) hu'
    | tup ds =>
      have hdl : Dat.depL ds ≤ n := by rw [Dat.dep] at hd; omega
      obtain ⟨a, xs, rfl, ha, q1⟩ := h1
      obtain ⟨its, v1, hl1⟩ := hok_tup ok ha
      cases r1
      cases e with
      | non => cases h2; cases r2; exact SeqAt.EqAt.tuple_none hl1 hu'
      | bl b => cases h2; cases r2; exact SeqAt.EqAt.tuple_bool b hl1 hu'
      | int i => cases h2; obtain ⟨t, rfl⟩ := r2; exact SeqAt.EqAt.tuple_int i t hl1 hu'
      | str z => cases h2; obtain ⟨t, rfl⟩ := r2; exact SeqAt.EqAt.tuple_str z t hl1 hu'
      | lst es =>
        obtain ⟨b, ys, rfl, hb, q2⟩ := h2
        obtain ⟨its2, v2, hl2⟩ := hok_list ok hb
        cases r2
        exact SeqAt.EqAt.of_refs (ne_of ha hb (fun z => nomatch z)) (SeqAt.RcAt.tuple_list hl1 hl2 hu')
      | tup es =>
        obtain ⟨b, ys, rfl, hb, q2⟩ := h2
        obtain ⟨its2, v2, hl2⟩ := hok_tup ok hb
        cases r2
        have len1 : its.toArray.size = ds.length := by have := v1.length; have := q1.length; simp; omega
        have len2 : its2.toArray.size = es.length := by have := v2.length; have := q2.length; simp; omega
        show SeqAt.EqAt A s (.ref a) (.ref b) (Dat.eqL ds es)
        by_cases hne : a = b
        · subst hne
          rw [ha] at hb
          cases hb
          have same : Dat.eqL ds es = true := by
            rw [RepL.inj q1 q2]; exact Dat.eqL_refl _
          rw [same]
          exact SeqAt.EqAt.same _
        · refine SeqAt.EqAt.of_refs hne ?_
          have := SeqAt.RcAt.tuples (A := A) (s := s) hl1 hl2 hu' (pairs hdl q1 q2 v1 v2)
          by_cases hs : ds.length = es.length
          · rw [len1, len2, ← hs, Nat.min_self, beq_self_eq_true, Bool.and_true, Dat.eqL_all hs _ (fun j h1 h2 => by rw [List.getD_eq_getElem?_getD, List.getD_eq_getElem?_getD]; simp [h1, h2])] at this
            exact this
          · rw [len1, len2, show (ds.length == es.length) = false by simpa using hs, Bool.and_false] at this
            rw [Dat.eqL_len hs]
            exact this
    | _ => simp [Dat.dep] at hd0
theorem eq_pairs {n : Nat} {A : Around} {s : Shared} (ok : HOk P w H s.heap) {ds es : List Dat} {xs ys : List V} {its its2 : List Value} (hdl : Dat.depL ds ≤ n) (hu : A.units + n < cLine) (q1 : RepL H ds xs) (q2 : RepL H es ys) (v1 : Vals xs its) (v2 : Vals ys its2) :
    ∀ j (h1 : j < its.toArray.size) (h2 : j < its2.toArray.size), SeqAt.EqAt A s its.toArray[j] its2.toArray[j] (Dat.eq (ds.getD j .non) (es.getD j .non)) := by
  intro j j1 j2
  have l1 : j < xs.length := by have := v1.length; simp at j1; omega
  have l2 : j < ys.length := by have := v2.length; simp at j2; omega
  obtain ⟨d', e1, p1⟩ := q1.get (i := j) (x := xs[j]) (by simp [l1])
  obtain ⟨e', e2, p2⟩ := q2.get (i := j) (x := ys[j]) (by simp [l2])
  obtain ⟨w1, g1, z1⟩ := v1.get (i := j) (x := xs[j]) (by simp [l1])
  obtain ⟨w2, g2, z2⟩ := v2.get (i := j) (x := ys[j]) (by simp [l2])
  have k1 : its.toArray[j] = w1 := by
    obtain ⟨_, k⟩ := List.getElem?_eq_some_iff.mp g1
    simpa using k
  have k2 : its2.toArray[j] = w2 := by
    obtain ⟨_, k⟩ := List.getElem?_eq_some_iff.mp g2
    simpa using k
  rw [k1, k2, List.getD_eq_getElem?_getD, List.getD_eq_getElem?_getD, e1, e2]
  exact eqAt_rep n (Nat.le_trans (Dat.depL_mem (List.mem_of_getElem? e1)) hdl) ok p1 p2 z1 z2 hu
theorem rcAt_rep (n : Nat) {d e : Dat} {v u : V} {x y : Value} {A : Around} {s : Shared} (hd : d.dep ≤ n) (ok : HOk P w H s.heap) (h1 : Rep H d v) (h2 : Rep H e u) (r1 : RelV v x) (r2 : RelV u y) (hu : A.units + n < cLine) : SeqAt.RcAt A s x y (Dat.eq d e) := by
  have hu' : A.units < cLine := by omega
  cases d with
  | non =>
    cases h1; cases r1
    cases e with
    | non =>
      cases h2; cases r2
      exact SeqAt.RcAt.none_none
    | bl b =>
      cases h2; cases r2
      exact SeqAt.RcAt.none_bool b
    | int b =>
      cases h2; obtain ⟨t2, rfl⟩ := r2
      exact SeqAt.RcAt.none_int b t2
    | str b =>
      cases h2; obtain ⟨t2, rfl⟩ := r2
      exact SeqAt.RcAt.none_str b t2
    | lst es =>
      obtain ⟨p2, ys, rfl, hb, q2⟩ := h2
      obtain ⟨its2, v2, hl2⟩ := hok_list ok hb
      cases r2
      exact SeqAt.RcAt.none_list hl2 hu'
    | tup es =>
      obtain ⟨p2, ys, rfl, hb, q2⟩ := h2
      obtain ⟨its2, v2, hl2⟩ := hok_tup ok hb
      cases r2
      exact SeqAt.RcAt.none_tuple hl2 hu'
  | bl a =>
    cases h1; cases r1
    cases e with
    | non =>
      cases h2; cases r2
      exact SeqAt.RcAt.bool_none a
    | bl b =>
      cases h2; cases r2
      exact SeqAt.RcAt.bool_bool a b
    | int b =>
      cases h2; obtain ⟨t2, rfl⟩ := r2
      exact SeqAt.RcAt.bool_int a b t2
    | str b =>
      cases h2; obtain ⟨t2, rfl⟩ := r2
      exact SeqAt.RcAt.bool_str a b t2
    | lst es =>
      obtain ⟨p2, ys, rfl, hb, q2⟩ := h2
      obtain ⟨its2, v2, hl2⟩ := hok_list ok hb
      cases r2
      exact SeqAt.RcAt.bool_list a hl2 hu'
    | tup es =>
      obtain ⟨p2, ys, rfl, hb, q2⟩ := h2
      obtain ⟨its2, v2, hl2⟩ := hok_tup ok hb
      cases r2
      exact SeqAt.RcAt.bool_tuple a hl2 hu'
  | int a =>
    cases h1; obtain ⟨t1, rfl⟩ := r1
    cases e with
    | non =>
      cases h2; cases r2
      exact SeqAt.RcAt.int_none a t1
    | bl b =>
      cases h2; cases r2
      exact SeqAt.RcAt.int_bool a t1 b
    | int b =>
      cases h2; obtain ⟨t2, rfl⟩ := r2
      exact SeqAt.RcAt.int_int a t1 b t2
    | str b =>
      cases h2; obtain ⟨t2, rfl⟩ := r2
      exact SeqAt.RcAt.int_str a t1 b t2
    | lst es =>
      obtain ⟨p2, ys, rfl, hb, q2⟩ := h2
      obtain ⟨its2, v2, hl2⟩ := hok_list ok hb
      cases r2
      exact SeqAt.RcAt.int_list a t1 hl2 hu'
    | tup es =>
      obtain ⟨p2, ys, rfl, hb, q2⟩ := h2
      obtain ⟨its2, v2, hl2⟩ := hok_tup ok hb
      cases r2
      exact SeqAt.RcAt.int_tuple a t1 hl2 hu'
  | str a =>
    cases h1; obtain ⟨t1, rfl⟩ := r1
    cases e with
    | non =>
      cases h2; cases r2
      exact SeqAt.RcAt.str_none a t1
    | bl b =>
      cases h2; cases r2
      exact SeqAt.RcAt.str_bool a t1 b
    | int b =>
      cases h2; obtain ⟨t2, rfl⟩ := r2
      exact SeqAt.RcAt.str_int a t1 b t2
    | str b =>
      cases h2; obtain ⟨t2, rfl⟩ := r2
      exact SeqAt.RcAt.str_str a t1 b t2
    | lst es =>
      obtain ⟨p2, ys, rfl, hb, q2⟩ := h2
      obtain ⟨its2, v2, hl2⟩ := hok_list ok hb
      cases r2
      exact SeqAt.RcAt.str_list a t1 hl2 hu'
    | tup es =>
      obtain ⟨p2, ys, rfl, hb, q2⟩ := h2
      obtain ⟨its2, v2, hl2⟩ := hok_tup ok hb
      cases r2
      exact SeqAt.RcAt.str_tuple a t1 hl2 hu'
  | lst ds =>
    have hdl : Dat.depL ds + 1 ≤ n := by rw [Dat.dep] at hd; exact hd
    obtain ⟨p, xs, rfl, ha, q1⟩ := h1
    obtain ⟨its, v1, hl1⟩ := hok_list ok ha
    cases r1
    cases e with
    | non =>
      cases h2; cases r2
      exact SeqAt.RcAt.list_none hl1 hu'
    | bl b =>
      cases h2; cases r2
      exact SeqAt.RcAt.list_bool b hl1 hu'
    | int b =>
      cases h2; obtain ⟨t2, rfl⟩ := r2
      exact SeqAt.RcAt.list_int b t2 hl1 hu'
    | str b =>
      cases h2; obtain ⟨t2, rfl⟩ := r2
      exact SeqAt.RcAt.list_str b t2 hl1 hu'
    | lst es =>
      obtain ⟨p2, ys, rfl, hb, q2⟩ := h2
      obtain ⟨its2, v2, hl2⟩ := hok_list ok hb
      cases r2
      have len1 : its.toArray.size = ds.length := by have := v1.length; have := q1.length; simp; omega
      have len2 : its2.toArray.size = es.length := by have := v2.length; have := q2.length; simp; omega
      show SeqAt.RcAt A s (.ref p) (.ref p2) (Dat.eqL ds es)
      by_cases hs : ds.length = es.length
      · have := SeqAt.RcAt.lists (A := A) (s := s) hl1 hl2 (by rw [len1, len2, hs]) hu' (eq_pairs ok (by omega) (by rw [in1_units]; omega : A.in1.units + (n - 1) < cLine) q1 q2 v1 v2)
        rw [len1, Dat.eqL_all hs _ (fun j h1 h2 => by rw [List.getD_eq_getElem?_getD, List.getD_eq_getElem?_getD]; simp [h1, h2])] at this
        exact this
      · rw [Dat.eqL_len hs]
        exact SeqAt.RcAt.lists_lengths hl1 hl2 (by rw [len1, len2]; simpa using hs) hu'
    | tup es =>
      obtain ⟨p2, ys, rfl, hb, q2⟩ := h2
      obtain ⟨its2, v2, hl2⟩ := hok_tup ok hb
      cases r2
      exact SeqAt.RcAt.list_tuple hl1 hl2 hu'
  | tup ds =>
    have hdl : Dat.depL ds + 1 ≤ n := by rw [Dat.dep] at hd; exact hd
    obtain ⟨p, xs, rfl, ha, q1⟩ := h1
    obtain ⟨its, v1, hl1⟩ := hok_tup ok ha
    cases r1
    cases e with
    | non =>
      cases h2; cases r2
      exact SeqAt.RcAt.tuple_none hl1 hu'
    | bl b =>
      cases h2; cases r2
      exact SeqAt.RcAt.tuple_bool b hl1 hu'
    | int b =>
      cases h2; obtain ⟨t2, rfl⟩ := r2
      exact SeqAt.RcAt.tuple_int b t2 hl1 hu'
    | str b =>
      cases h2; obtain ⟨t2, rfl⟩ := r2
      exact SeqAt.RcAt.tuple_str b t2 hl1 hu'
    | lst es =>
      obtain ⟨p2, ys, rfl, hb, q2⟩ := h2
      obtain ⟨its2, v2, hl2⟩ := hok_list ok hb
      cases r2
      exact SeqAt.RcAt.tuple_list hl1 hl2 hu'
    | tup es =>
      obtain ⟨p2, ys, rfl, hb, q2⟩ := h2
      obtain ⟨its2, v2, hl2⟩ := hok_tup ok hb
      cases r2
      have len1 : its.toArray.size = ds.length := by have := v1.length; have := q1.length; simp; omega
      have len2 : its2.toArray.size = es.length := by have := v2.length; have := q2.length; simp; omega
      show SeqAt.RcAt A s (.ref p) (.ref p2) (Dat.eqL ds es)
      have := SeqAt.RcAt.tuples (A := A) (s := s) hl1 hl2 hu' (eq_pairs ok (by omega) (by rw [in1_units]; omega : A.in1.units + (n - 1) < cLine) q1 q2 v1 v2)
      by_cases hs : ds.length = es.length
      · rw [len1, len2, ← hs, Nat.min_self, beq_self_eq_true, Bool.and_true, Dat.eqL_all hs _ (fun j h1 h2 => by rw [List.getD_eq_getElem?_getD, List.getD_eq_getElem?_getD]; simp [h1, h2])] at this
        exact this
      · rw [len1, len2, show (ds.length == es.length) = false by simpa using hs, Bool.and_false] at this
        rw [Dat.eqL_len hs]
        exact this
theorem rcNeAt_rep (n : Nat) {d e : Dat} {v u : V} {x y : Value} {A : Around} {s : Shared} (hd : d.dep ≤ n) (ok : HOk P w H s.heap) (h1 : Rep H d v) (h2 : Rep H e u) (r1 : RelV v x) (r2 : RelV u y) (hu : A.units + n < cLine) : SeqAt.RcNeAt A s x y (!Dat.eq d e) := by
  have hu' : A.units < cLine := by omega
  cases d with
  | non =>
    cases h1; cases r1
    cases e with
    | non =>
      cases h2; cases r2
      exact SeqAt.RcNeAt.none_none
    | bl b =>
      cases h2; cases r2
      exact SeqAt.RcNeAt.none_bool b
    | int b =>
      cases h2; obtain ⟨t2, rfl⟩ := r2
      exact SeqAt.RcNeAt.none_int b t2
    | str b =>
      cases h2; obtain ⟨t2, rfl⟩ := r2
      exact SeqAt.RcNeAt.none_str b t2
    | lst es =>
      obtain ⟨p2, ys, rfl, hb, q2⟩ := h2
      obtain ⟨its2, v2, hl2⟩ := hok_list ok hb
      cases r2
      exact SeqAt.RcNeAt.none_list hl2 hu'
    | tup es =>
      obtain ⟨p2, ys, rfl, hb, q2⟩ := h2
      obtain ⟨its2, v2, hl2⟩ := hok_tup ok hb
      cases r2
      exact SeqAt.RcNeAt.none_tuple hl2 hu'
  | bl a =>
    cases h1; cases r1
    cases e with
    | non =>
      cases h2; cases r2
      exact SeqAt.RcNeAt.bool_none a
    | bl b =>
      cases h2; cases r2
      exact SeqAt.RcNeAt.bool_bool a b
    | int b =>
      cases h2; obtain ⟨t2, rfl⟩ := r2
      exact SeqAt.RcNeAt.bool_int a b t2
    | str b =>
      cases h2; obtain ⟨t2, rfl⟩ := r2
      exact SeqAt.RcNeAt.bool_str a b t2
    | lst es =>
      obtain ⟨p2, ys, rfl, hb, q2⟩ := h2
      obtain ⟨its2, v2, hl2⟩ := hok_list ok hb
      cases r2
      exact SeqAt.RcNeAt.bool_list a hl2 hu'
    | tup es =>
      obtain ⟨p2, ys, rfl, hb, q2⟩ := h2
      obtain ⟨its2, v2, hl2⟩ := hok_tup ok hb
      cases r2
      exact SeqAt.RcNeAt.bool_tuple a hl2 hu'
  | int a =>
    cases h1; obtain ⟨t1, rfl⟩ := r1
    cases e with
    | non =>
      cases h2; cases r2
      exact SeqAt.RcNeAt.int_none a t1
    | bl b =>
      cases h2; cases r2
      exact SeqAt.RcNeAt.int_bool a t1 b
    | int b =>
      cases h2; obtain ⟨t2, rfl⟩ := r2
      exact SeqAt.RcNeAt.int_int a t1 b t2
    | str b =>
      cases h2; obtain ⟨t2, rfl⟩ := r2
      exact SeqAt.RcNeAt.int_str a t1 b t2
    | lst es =>
      obtain ⟨p2, ys, rfl, hb, q2⟩ := h2
      obtain ⟨its2, v2, hl2⟩ := hok_list ok hb
      cases r2
      exact SeqAt.RcNeAt.int_list a t1 hl2 hu'
    | tup es =>
      obtain ⟨p2, ys, rfl, hb, q2⟩ := h2
      obtain ⟨its2, v2, hl2⟩ := hok_tup ok hb
      cases r2
      exact SeqAt.RcNeAt.int_tuple a t1 hl2 hu'
  | str a =>
    cases h1; obtain ⟨t1, rfl⟩ := r1
    cases e with
    | non =>
      cases h2; cases r2
      exact SeqAt.RcNeAt.str_none a t1
    | bl b =>
      cases h2; cases r2
      exact SeqAt.RcNeAt.str_bool a t1 b
    | int b =>
      cases h2; obtain ⟨t2, rfl⟩ := r2
      exact SeqAt.RcNeAt.str_int a t1 b t2
    | str b =>
      cases h2; obtain ⟨t2, rfl⟩ := r2
      exact SeqAt.RcNeAt.str_str a t1 b t2
    | lst es =>
      obtain ⟨p2, ys, rfl, hb, q2⟩ := h2
      obtain ⟨its2, v2, hl2⟩ := hok_list ok hb
      cases r2
      exact SeqAt.RcNeAt.str_list a t1 hl2 hu'
    | tup es =>
      obtain ⟨p2, ys, rfl, hb, q2⟩ := h2
      obtain ⟨its2, v2, hl2⟩ := hok_tup ok hb
      cases r2
      exact SeqAt.RcNeAt.str_tuple a t1 hl2 hu'
  | lst ds =>
    have hdl : Dat.depL ds + 1 ≤ n := by rw [Dat.dep] at hd; exact hd
    obtain ⟨p, xs, rfl, ha, q1⟩ := h1
    obtain ⟨its, v1, hl1⟩ := hok_list ok ha
    cases r1
    cases e with
    | non =>
      cases h2; cases r2
      exact SeqAt.RcNeAt.list_none hl1 hu'
    | bl b =>
      cases h2; cases r2
      exact SeqAt.RcNeAt.list_bool b hl1 hu'
    | int b =>
      cases h2; obtain ⟨t2, rfl⟩ := r2
      exact SeqAt.RcNeAt.list_int b t2 hl1 hu'
    | str b =>
      cases h2; obtain ⟨t2, rfl⟩ := r2
      exact SeqAt.RcNeAt.list_str b t2 hl1 hu'
    | lst es =>
      obtain ⟨p2, ys, rfl, hb, q2⟩ := h2
      obtain ⟨its2, v2, hl2⟩ := hok_list ok hb
      cases r2
      have len1 : its.toArray.size = ds.length := by have := v1.length; have := q1.length; simp; omega
      have len2 : its2.toArray.size = es.length := by have := v2.length; have := q2.length; simp; omega
      show SeqAt.RcNeAt A s (.ref p) (.ref p2) (!Dat.eqL ds es)
      by_cases hs : ds.length = es.length
      · have := SeqAt.RcNeAt.lists (A := A) (s := s) hl1 hl2 (by rw [len1, len2, hs]) hu' (eq_pairs ok (by omega) (by rw [in1_units]; omega : A.in1.units + (n - 1) < cLine) q1 q2 v1 v2)
        rw [len1, Dat.eqL_all hs _ (fun j h1 h2 => by rw [List.getD_eq_getElem?_getD, List.getD_eq_getElem?_getD]; simp [h1, h2])] at this
        exact this
      · rw [Dat.eqL_len hs]
        exact SeqAt.RcNeAt.lists_lengths hl1 hl2 (by rw [len1, len2]; simpa using hs) hu'
    | tup es =>
      obtain ⟨p2, ys, rfl, hb, q2⟩ := h2
      obtain ⟨its2, v2, hl2⟩ := hok_tup ok hb
      cases r2
      exact SeqAt.RcNeAt.list_tuple hl1 hl2 hu'
  | tup ds =>
    have hdl : Dat.depL ds + 1 ≤ n := by rw [Dat.dep] at hd; exact hd
    obtain ⟨p, xs, rfl, ha, q1⟩ := h1
    obtain ⟨its, v1, hl1⟩ := hok_tup ok ha
    cases r1
    cases e with
    | non =>
      cases h2; cases r2
      exact SeqAt.RcNeAt.tuple_none hl1 hu'
    | bl b =>
      cases h2; cases r2
      exact SeqAt.RcNeAt.tuple_bool b hl1 hu'
    | int b =>
      cases h2; obtain ⟨t2, rfl⟩ := r2
      exact SeqAt.RcNeAt.tuple_int b t2 hl1 hu'
    | str b =>
      cases h2; obtain ⟨t2, rfl⟩ := r2
      exact SeqAt.RcNeAt.tuple_str b t2 hl1 hu'
    | lst es =>
      obtain ⟨p2, ys, rfl, hb, q2⟩ := h2
      obtain ⟨its2, v2, hl2⟩ := hok_list ok hb
      cases r2
      exact SeqAt.RcNeAt.tuple_list hl1 hl2 hu'
    | tup es =>
      obtain ⟨p2, ys, rfl, hb, q2⟩ := h2
      obtain ⟨its2, v2, hl2⟩ := hok_tup ok hb
      cases r2
      have len1 : its.toArray.size = ds.length := by have := v1.length; have := q1.length; simp; omega
      have len2 : its2.toArray.size = es.length := by have := v2.length; have := q2.length; simp; omega
      show SeqAt.RcNeAt A s (.ref p) (.ref p2) (!Dat.eqL ds es)
      have := SeqAt.RcNeAt.tuples (A := A) (s := s) hl1 hl2 hu' (eq_pairs ok (by omega) (by rw [in1_units]; omega : A.in1.units + (n - 1) < cLine) q1 q2 v1 v2)
      by_cases hs : ds.length = es.length
      · rw [len1, len2, ← hs, Nat.min_self, beq_self_eq_true, Bool.and_true, Dat.eqL_all hs _ (fun j h1 h2 => by rw [List.getD_eq_getElem?_getD, List.getD_eq_getElem?_getD]; simp [h1, h2])] at this
        exact this
      · rw [len1, len2, show (ds.length == es.length) = false by simpa using hs, Bool.and_false] at this
        rw [Dat.eqL_len hs]
        exact this
end
section
variable {X : Cx}
def rEqD : R2 := fun x y H Q => ∃ d e, Rep H d x ∧ Rep H e y ∧ d.dep ≤ 40 ∧ Q (.bl (Dat.eq d e)) H
def rNeD : R2 := fun x y H Q => ∃ d e, Rep H d x ∧ Rep H e y ∧ d.dep ≤ 40 ∧ Q (.bl (!Dat.eq d e)) H
theorem op_eqD (hu : X.A.units + 64 < cLine) : OpR X (compareOp .Eq) rEqD := by
  intro pins s σ H x y v u Q I rx ry h
  obtain ⟨d, e, h1, h2, hd, q⟩ := h
  exact rcAt_rep 40 hd I.hok h1 h2 rx ry (by omega) _ _ _ _ ⟨.bl _, H, I, rfl, q⟩
theorem op_neD (hu : X.A.units + 64 < cLine) : OpR X (compareOp .NotEq) rNeD := by
  intro pins s σ H x y v u Q I rx ry h
  obtain ⟨d, e, h1, h2, hd, q⟩ := h
  exact rcNeAt_rep 40 hd I.hok h1 h2 rx ry (by omega) _ _ _ _ ⟨.bl _, H, I, rfl, q⟩
def tyName (H : Hp) : V → Option String
  | .non => some "NoneType"
  | .bl _ => some "bool"
  | .int _ => some "int"
  | .str _ => some "str"
  | .ref a => match H a with
    | some (.lst _) => some "list"
    | some (.tup _) => some "tuple"
    | some (.dK _) => some "dict"
    | _ => none
  | _ => none
def isSub (T n : String) : Bool := T == n || (T == "bool" && n == "int")
theorem call_isinst : CallR X (.builtin "isinstance") (fun vs H Q => ∃ x n T, vs = [x, .ty n] ∧ tyName H x = some T ∧ n ∈ ["int", "bool", "str", "list", "tuple", "dict"] ∧ Q (.bl (isSub T n)) H) := by
  intro pins s σ H vs us Q I r h
  obtain ⟨x, n, T, rfl, ht, hn, q⟩ := h
  obtain ⟨u, w', rfl, rx, rn⟩ := vals2 r
  cases (show w' = Value.type n from rn)
  have key : ∃ t, TyOf X.K H x t ∧ t = .type T := by
    cases x with
    | non => cases ht; exact ⟨_, .non, rfl⟩
    | bl b => cases ht; exact ⟨_, .bl b, rfl⟩
    | int b => cases ht; exact ⟨_, .int b, rfl⟩
    | str b => cases ht; exact ⟨_, .str b, rfl⟩
    | ref a =>
      unfold tyName at ht
      dsimp only at ht
      cases e : H a with
      | none => rw [e] at ht; cases ht
      | some o =>
        rw [e] at ht
        cases o with
        | lst xs => cases ht; exact ⟨_, .lst e, rfl⟩
        | tup xs => cases ht; exact ⟨_, .tup e, rfl⟩
        | dK xs => cases ht; exact ⟨_, .dK e, rfl⟩
        | _ => cases ht
    | _ => cases ht
  obtain ⟨t, ty, rfl⟩ := key
  have hT : T ∈ ["NoneType", "bool", "int", "str", "list", "tuple", "dict"] := by
    cases x with
    | non => cases ht; decide
    | bl b => cases ht; decide
    | int b => cases ht; decide
    | str b => cases ht; decide
    | ref a =>
      unfold tyName at ht
      dsimp only at ht
      cases e : H a with
      | none => rw [e] at ht; cases ht
      | some o =>
        rw [e] at ht
        cases o with
        | lst xs => cases ht; decide
        | tup xs => cases ht; decide
        | dK xs => cases ht; decide
        | _ => cases ht
    | _ => cases ht
  have e : PySem.W.kitOne X.K (.type T) (.type n) = some (isSub T n) := by
    simp only [List.mem_cons, List.mem_nil_iff, or_false] at hT hn
    rcases hT with rfl | rfl | rfl | rfl | rfl | rfl | rfl <;> rcases hn with rfl | rfl | rfl | rfl | rfl | rfl <;> rfl
  exact isinst_ok I rx ty e fun tk => ⟨.bl _, H, I.tok tk, rfl, q⟩
theorem truth_bools {prog : Program} {w : World} {A : Around} {bs : List Bool} : TruthOf prog w A (fun i v => (bs.map Value.bool).toArray[i]? = some v) (fun i => bs.getD i false) := by
  intro i v s Q E hv hq
  have hv' : (bs[i]?).map Value.bool = some v := by simpa using hv
  cases e : bs[i]? with
  | none => rw [e] at hv'; cases hv'
  | some b =>
    rw [e] at hv'
    cases hv'
    dsimp only at hq
    rw [List.getD_eq_getElem?_getD, e] at hq
    exact wpAny_truthy_bool hq
theorem vals_bools : ∀ {bs : List Bool} {its : List Value}, Vals (bs.map V.bl) its → its = bs.map Value.bool
  | [], _, .nil => rfl
  | b :: r, _, .cons h t => by
    have h' : _ = Value.bool b := h
    rw [h', vals_bools t]; rfl
theorem all_getD : ∀ (bs : List Bool), (List.range bs.length).all (fun i => bs.getD i false) = bs.all id
  | [] => rfl
  | b :: r => by
    rw [List.length_cons, List.range_succ_eq_map, List.all_cons, List.all_cons, ← all_getD r, List.all_map]
    rfl
theorem call_all (hc : X.calm = true) : CallR X (.builtin "all") (fun vs H Q => ∃ (a : Addr) (bs : List Bool), vs = [.ref a] ∧ H a = some (.lst (bs.map V.bl)) ∧ Q (.bl (bs.all id)) H) := by
  intro pins s σ H vs us Q I r h
  obtain ⟨a, bs, rfl, ha, q⟩ := h
  obtain ⟨u, rfl, rx⟩ := vals1 r
  cases rx
  obtain ⟨its, rv, hl⟩ := hok_list I.hok ha
  have e := vals_bools rv
  subst e
  refine call_all_walk (wpAny_pyIter_list hl ?_)
  have hlt : a < s.heap.objs.size := by obtain ⟨o, ho, _⟩ := hl; exact Heap.lt_size ho
  refine ⟨s.heap.objs.size, _, _, _, _, _, fun i => bs.getD i false, rfl, Walks.list (show X.A.in1.handled = none from I.ok.hd hc) s.heap.objs.size a (Nat.ne_of_lt hlt) _,
    ⟨⟨_, Heap.get?_push_size _ rfl, rfl, rfl⟩, hl.at fun o e => Heap.get?_push_of_some _ e⟩, truth_bools, fun h' tk hk => ?_⟩
  refine ⟨.bl _, H, I.kept (t' := tk) fun b o e => hk b o ?_ (Heap.get?_push_of_some _ e), rfl, ?_⟩
  · have := Heap.lt_size e
    simp only [List.mem_singleton]
    exact Nat.ne_of_lt this
  · have : (bs.map Value.bool).toArray.size = bs.length := by simp
    rw [this, all_getD]
    exact q
def numsV (lo : Int) (n : Nat) : List V := (List.range n).map fun i => .int (lo + (i : Nat))
theorem vals_of_get : ∀ {xs : List V} {its : List Value}, xs.length = its.length → (∀ (j : Nat) (x : V) (v : Value), xs[j]? = some x → its[j]? = some v → RelV x v) → Vals xs its
  | [], [], _, _ => .nil
  | [], _ :: _, h, _ => by simp at h
  | _ :: _, [], h, _ => by simp at h
  | x :: xs, v :: its, h, g => .cons (g 0 x v rfl rfl) (vals_of_get (by simpa using h) fun j y u e1 e2 => g (j + 1) y u (by simpa using e1) (by simpa using e2))
theorem vals_nums {lo : Int} {n : Nat} {its : List Value} (hl : its.length = n) (h : ∀ (j : Nat) (v : Value), its[j]? = some v → ∃ t, v = Value.int (lo + (j : Int) * 1) t) : Vals (numsV lo n) its := by
  refine vals_of_get (by simp [numsV, hl]) fun j x v e1 e2 => ?_
  unfold numsV at e1
  rw [List.getElem?_map] at e1
  cases e : (List.range n)[j]? with
  | none => rw [e] at e1; cases e1
  | some i =>
    rw [e] at e1
    cases e1
    have hi : i = j := by
      obtain ⟨h1, h2⟩ := List.getElem?_eq_some_iff.mp e
      rw [List.getElem_range] at h2
      exact h2.symm
    subst hi
    obtain ⟨t, ht⟩ := h i v e2
    exact ⟨t, by rw [ht, Int.mul_one]⟩
theorem call_rng1 : CallR X (.type "range") (fun vs H Q => ∃ j : Int, vs = [.int j] ∧ ∀ p, H p = none → Q (.ref p) (upd H p (.rng 0 j))) := by
  intro pins s σ H vs us Q I r h
  obtain ⟨j, rfl, q⟩ := h
  obtain ⟨u, rfl, rx⟩ := vals1 r
  obtain ⟨t, rfl⟩ := rx
  exact call_range_1 ⟨.ref _, _, I.laid (o := .rng 0 j) (fun b o e => Heap.get?_push_of_some _ e) (Nat.le_refl _) ⟨_, _, _, Heap.get?_push_size _ rfl⟩, rfl, q _ I.fresh⟩
theorem call_rng2 : CallR X (.type "range") (fun vs H Q => ∃ i j : Int, vs = [.int i, .int j] ∧ ∀ p, H p = none → Q (.ref p) (upd H p (.rng i j))) := by
  intro pins s σ H vs us Q I r h
  obtain ⟨i, j, rfl, q⟩ := h
  obtain ⟨u, u', rfl, rx, rx'⟩ := vals2 r
  obtain ⟨t, rfl⟩ := rx
  obtain ⟨t', rfl⟩ := rx'
  exact call_range_2 ⟨.ref _, _, I.laid (o := .rng i j) (fun b o e => Heap.get?_push_of_some _ e) (Nat.le_refl _) ⟨_, _, _, Heap.get?_push_size _ rfl⟩, rfl, q _ I.fresh⟩
theorem call_list_rng (hc : X.calm = true) : CallR X (.type "list") (fun vs H Q => ∃ p lo hi, vs = [.ref p] ∧ H p = some (.rng lo hi) ∧ (-(2 ^ 62) ≤ lo ∧ lo < 2 ^ 62 ∧ -(2 ^ 62) ≤ hi ∧ hi < 2 ^ 62) ∧ hi - lo ≤ 1000000 ∧ ∀ l, H l = none → Q (.ref l) (upd H l (.lst (numsV lo (hi - lo).toNat)))) := by
  intro pins s σ H vs us Q I r h
  obtain ⟨p, lo, hi, rfl, hp, ⟨b1, b2, b3, b4⟩, hz, q⟩ := h
  obtain ⟨u, rfl, rx⟩ := vals1 r
  cases rx
  obtain ⟨t, u, v, e⟩ := (show ObjOk X.prog X.w H s.heap p (.rng lo hi) from I.hok p _ hp)
  have hn : Builtin.Range.rangeSize lo hi 1 = (((hi - lo).toNat : Nat) : Int) := by rw [rangeSize_one]; split <;> omega
  refine call_list_range (n := (hi - lo).toNat) (I.ok.hd hc) e (small_one b1 b2 b3 b4) hn (by omega) fun h' tk acc' c' hk hS hacc => ?_
  have rv : Vals (numsV lo (hi - lo).toNat) acc'.toList := vals_nums (by simpa using hacc.1) fun j v hj => hacc.2 j v (by simpa using hj)
  refine ⟨.ref _, _, I.laid (o := .lst (numsV lo (hi - lo).toNat)) hk (Nat.le_refl _) ⟨?_, acc'.toList, c', rv, by simpa using hS⟩, rfl, q _ I.fresh⟩
  have hl : (numsV lo (hi - lo).toNat).length = (hi - lo).toNat := by simp [numsV]
  rw [hl, sizeLine_eq]
  omega
end
end L2

namespace L2
open PySem PySem.Spec PyProof.Rows
section
variable {X : Cx}
def rAddU : R2 := fun x y H Q => match x, y with
  | .int i, .int j => Q (.int (i + j)) H
  | .str i, .str j => i.length + j.length ≤ sizeLine ∧ Q (.str (i ++ j)) H
  | .ref l, .ref b => ∃ xs zs, H l = some (.lst xs) ∧ H b = some (.lst zs) ∧ xs.length + zs.length ≤ sizeLine ∧ ∀ p, H p = none → Q (.ref p) (upd H p (.lst (xs ++ zs)))
  | _, _ => False
theorem u_add : OpR X (binaryOp .Add) rAddU := by
  intro pins s σ H x y v u Q I rx ry h
  cases x <;> cases y <;> first
    | exact op_add pins s σ H _ _ v u Q I rx ry ⟨_, _, rfl, rfl, h⟩
    | exact op_add_str pins s σ H _ _ v u Q I rx ry ⟨_, _, rfl, rfl, h.1, h.2⟩
    | (obtain ⟨xs, zs, h1, h2, h3, h4⟩ := h; exact op_cat pins s σ H _ _ v u Q I rx ry ⟨_, _, xs, zs, rfl, rfl, h1, h2, h3, h4⟩)
    | exact False.elim h
def rMulU : R2 := fun x y H Q => match x, y with
  | .int i, .int j => CMul i j ∧ Q (.int (i * j)) H
  | _, _ => False
def rSubU : R2 := fun x y H Q => match x, y with
  | .int i, .int j => Q (.int (i - j)) H
  | _, _ => False
theorem u_sub : OpR X (binaryOp .Sub) rSubU := by
  intro pins s σ H x y v u Q I rx ry h
  cases x <;> cases y <;> first
    | exact op_sub pins s σ H _ _ v u Q I rx ry ⟨_, _, rfl, rfl, h⟩
    | exact False.elim h
def rModU : R2 := fun x y H Q => match x, y with
  | .int i, .int j => 0 < j ∧ Q (.int (i % j)) H
  | _, _ => False
theorem u_mod : OpR X (binaryOp .Mod) rModU := by
  intro pins s σ H x y v u Q I rx ry h
  cases x <;> cases y <;> first
    | exact op_mod pins s σ H _ _ v u Q I rx ry ⟨_, _, rfl, rfl, h.1, h.2⟩
    | exact False.elim h
def rPowU : R2 := fun x y H Q => match x, y with
  | .int i, .int j => CPow i j ∧ Q (.int (i ^ j.toNat)) H
  | _, _ => False
theorem u_pow : OpR X (binaryOp .Pow) rPowU := by
  intro pins s σ H x y v u Q I rx ry h
  cases x <;> cases y <;> first
    | exact op_pow pins s σ H _ _ v u Q I rx ry ⟨_, _, rfl, rfl, h.1, h.2⟩
    | exact False.elim h
def rNegU : V → Hp → VK → Prop := fun x H Q => match x with
  | .int i => Q (.int (-i)) H
  | _ => False
theorem u_neg : UnR X (unaryOp .USub) rNegU := by
  intro pins s σ H x v Q I rx h
  cases x <;> first
    | exact un_neg pins s σ H _ v Q I rx ⟨_, rfl, h⟩
    | exact False.elim h
def rCmpU (p : Int → Int → Bool) : R2 := fun x y H Q => match x, y with
  | .int i, .int j => Q (.bl (p i j)) H
  | _, _ => False
theorem u_lt : OpR X (compareOp .Lt) (rCmpU fun i j => decide (i < j)) := by
  intro pins s σ H x y v u Q I rx ry h
  cases x <;> cases y <;> first
    | exact op_lt pins s σ H _ _ v u Q I rx ry ⟨_, _, rfl, rfl, h⟩
    | exact False.elim h
theorem u_gt : OpR X (compareOp .Gt) (rCmpU fun i j => decide (j < i)) := by
  intro pins s σ H x y v u Q I rx ry h
  cases x <;> cases y <;> first
    | exact op_gt pins s σ H _ _ v u Q I rx ry ⟨_, _, rfl, rfl, h⟩
    | exact False.elim h
def rEqU : R2 := fun x y H Q => match x, y with
  | .int i, .int j => Q (.bl (decide (i = j))) H
  | .str i, .str j => Q (.bl (decide (i = j))) H
  | .bl i, .bl j => Q (.bl (decide (i = j))) H
  | x, y => rEqD x y H Q
def rNeU : R2 := fun x y H Q => match x, y with
  | .int i, .int j => Q (.bl (!decide (i = j))) H
  | .str i, .str j => Q (.bl (!decide (i = j))) H
  | .bl i, .bl j => Q (.bl (!decide (i = j))) H
  | x, y => rNeD x y H Q
theorem u_eq (hu : X.A.units + 64 < cLine) : OpR X (compareOp .Eq) rEqU := by
  intro pins s σ H x y v u Q I rx ry h
  cases x <;> cases y <;> first
    | (refine op_eq pins s σ H _ _ v u Q I rx ry ⟨rfl, ?_⟩; have h' := h; simp only [rEqU] at h'; simpa using h')
    | exact op_eqD hu pins s σ H _ _ v u Q I rx ry h
theorem u_ne (hu : X.A.units + 64 < cLine) : OpR X (compareOp .NotEq) rNeU := by
  intro pins s σ H x y v u Q I rx ry h
  cases x <;> cases y <;> first
    | (refine op_ne pins s σ H _ _ v u Q I rx ry ⟨rfl, ?_⟩; have h' := h; simp only [rNeU] at h'; simpa using h')
    | exact op_neD hu pins s σ H _ _ v u Q I rx ry h
def rIxU (K : PySem.W.Frag) : R2 := fun x y H Q => match x, y with
  | .str z, .int i => ∃ c, z.length ≤ sizeLine ∧ atI z.cps.toList i = some c ∧ Q (.str ⟨#[c]⟩) H
  | .ref p, .int i => ∃ xs v, (SqL K H p xs ∨ SqT K H p xs) ∧ atI xs i = some v ∧ Q v H
  | _, _ => False
theorem u_ix : IxR X (rIxU X.K) := by
  intro value slice pins s σ H x y v u Q I rx ry h hs
  cases x <;> cases y <;> first
    | (obtain ⟨c, h1, h2, h3⟩ := h; exact ix_str value slice pins s σ H _ _ v u Q I rx ry ⟨_, _, c, rfl, rfl, h1, h2, h3⟩ hs)
    | (obtain ⟨xs, w, h1 | h1, h2, h3⟩ := h
       · exact ix_list value slice pins s σ H _ _ v u Q I rx ry ⟨_, xs, _, w, rfl, rfl, h1, h2, h3⟩ hs
       · exact ix_tup value slice pins s σ H _ _ v u Q I rx ry ⟨_, xs, _, w, rfl, rfl, h1, h2, h3⟩ hs)
    | exact False.elim h
def rLenU (K : PySem.W.Frag) : List V → Hp → VK → Prop := fun vs H Q => match vs with
  | [.str z] => z.length ≤ sizeLine ∧ Q (.int z.length) H
  | [.ref p] => ∃ xs, (SqL K H p xs ∨ SqT K H p xs) ∧ Q (.int xs.length) H
  | _ => False
theorem k_len : CallR X (.builtin "len") (rLenU X.K) := by
  intro pins s σ H vs us Q I r h
  match vs, h with
  | [.str z], h => exact call_len_str pins s σ H _ us Q I r ⟨z, rfl, h.1, h.2⟩
  | [.ref p], h =>
    obtain ⟨xs, h1, h2⟩ := h
    exact call_len_seq pins s σ H _ us Q I r ⟨p, xs, rfl, h1, h2⟩
def rListU (K : PySem.W.Frag) : List V → Hp → VK → Prop := fun vs H Q => match vs with
  | [.ref p] => (∃ xs, (SqL K H p xs ∨ SqT K H p xs) ∧ ∀ l, H l = none → Q (.ref l) (upd H l (.lst xs))) ∨
      ∃ lo hi, H p = some (.rng lo hi) ∧ (-(2 ^ 62) ≤ lo ∧ lo < 2 ^ 62 ∧ -(2 ^ 62) ≤ hi ∧ hi < 2 ^ 62) ∧ hi - lo ≤ 1000000 ∧ ∀ l, H l = none → Q (.ref l) (upd H l (.lst (numsV lo (hi - lo).toNat)))
  | _ => False
theorem k_list (hc : X.calm = true) : CallR X (.type "list") (rListU X.K) := by
  intro pins s σ H vs us Q I r h
  match vs, h with
  | [.ref p], h =>
    rcases h with ⟨xs, h1, h2⟩ | ⟨lo, hi, h1, h2, h3, h4⟩
    · exact call_list_of pins s σ H _ us Q I r ⟨p, xs, rfl, h1, h2⟩
    · exact call_list_rng hc pins s σ H _ us Q I r ⟨p, lo, hi, rfl, h1, h2, h3, h4⟩
def rRangeU : List V → Hp → VK → Prop := fun vs H Q => match vs with
  | [.int j] => ∀ p, H p = none → Q (.ref p) (upd H p (.rng 0 j))
  | [.int i, .int j] => ∀ p, H p = none → Q (.ref p) (upd H p (.rng i j))
  | _ => False
theorem k_range : CallR X (.type "range") rRangeU := by
  intro pins s σ H vs us Q I r h
  match vs, h with
  | [.int j], h => exact call_rng1 pins s σ H _ us Q I r ⟨j, rfl, h⟩
  | [.int i, .int j], h => exact call_rng2 pins s σ H _ us Q I r ⟨i, j, rfl, h⟩
def rIsiU : List V → Hp → VK → Prop := fun vs H Q => match vs with
  | [x, .ty n] => ∃ T, tyName H x = some T ∧ n ∈ ["int", "bool", "str", "list", "tuple", "dict"] ∧ Q (.bl (isSub T n)) H
  | _ => False
theorem k_isinstance : CallR X (.builtin "isinstance") rIsiU := by
  intro pins s σ H vs us Q I r h
  match vs, h with
  | [x, .ty n], h =>
    obtain ⟨T, h1, h2, h3⟩ := h
    exact call_isinst pins s σ H _ us Q I r ⟨x, n, T, rfl, h1, h2, h3⟩
def rAllU : List V → Hp → VK → Prop := fun vs H Q => match vs with
  | [.ref a] => ∃ bs : List Bool, H a = some (.lst (bs.map V.bl)) ∧ Q (.bl (bs.all id)) H
  | _ => False
theorem k_all (hc : X.calm = true) : CallR X (.builtin "all") rAllU := by
  intro pins s σ H vs us Q I r h
  match vs, h with
  | [.ref a], h =>
    obtain ⟨bs, h1, h2⟩ := h
    exact call_all hc pins s σ H _ us Q I r ⟨a, bs, rfl, h1, h2⟩
end
def compCheck (N N' : List Str) (k : Nat) (sc esc : Scope) : Bool :=
  (sc.kind == .function) && decide ((sc.names.map (·.1)).Nodup) && (N'.length == N.length + k) &&
  ((List.range N.length).all fun i => match N'[i]? with
    | none => true
    | some x => (sc.names.lookup x == none) || (sc.names.any (fun p => p.1 == x && p.2 == .free) && N[i]? == some x)) &&
  (sc.names.all fun p => p.2 != .free || esc.names.lookup p.1 == some .cell || esc.names.lookup p.1 == some .free)
theorem cn {X : Cx} {sc : Scope} (N' : List Str) (k : Nat) (h : compCheck X.N N' k sc X.env.scope = true) : CompNames X.N N' k sc X.env := by
  unfold compCheck at h
  simp only [Bool.and_eq_true, decide_eq_true_eq, beq_iff_eq] at h
  obtain ⟨⟨⟨⟨h1, h2⟩, h3⟩, h4⟩, h5⟩ := h
  refine ⟨h1, h2, h3, fun i x e hi => ?_, fun x hx => ?_⟩
  · have q := List.all_eq_true.mp h4 i (List.mem_range.mpr hi)
    rw [e] at q
    simp only [Bool.or_eq_true, Bool.and_eq_true, beq_iff_eq, List.any_eq_true] at q
    rcases q with q | ⟨⟨p, hp, e1, e2⟩, e3⟩
    · exact .inr q
    · obtain ⟨y, kk⟩ := p
      dsimp only at e1 e2
      subst e1; subst e2
      exact .inl ⟨hp, e3⟩
  · have q := List.all_eq_true.mp h5 _ hx
    simp only [Bool.or_eq_true, bne_iff_ne, ne_eq, not_true_eq_false, false_or, beq_iff_eq] at q
    exact q
theorem PE.imp {X : Cx} {e : Expr} {t t' : TE} (h : PE X e t) (i : ∀ σ H Q, t' σ H Q → t σ H Q) : PE X e t' := fun pins s σ H Q I q => h pins s σ H Q I (i σ H Q q)
def vM (i : Nat) : TE := fun σ H Q => match σ[i]? with
  | some (some v) => Q v H
  | _ => False
theorem pn {X : Cx} (i : Nat) {x : Str} {pos : Pos} (hN : X.N[i]? = some x := by rfl) (hv : Vis X.env.scope x := by first | exact Or.inl rfl | exact Or.inr (Or.inl rfl) | exact Or.inr (Or.inr rfl)) (hd : (x == ("__debug__" : Str)) = false := by decide)
    (hcd : (x == ("__classdict__" : Str)) = false := by decide) : PE X (.Name x pos) (vM i) := (pe_var hN hv hd hcd).imp fun σ H Q h => by
  unfold vM at h
  cases e : σ[i]? with
  | none => rw [e] at h; exact False.elim h
  | some w =>
    rw [e] at h
    cases w with
    | none => exact False.elim h
    | some v => exact ⟨v, e, h⟩
def bM (t : TE) : TT := fun σ H Q => t σ H fun x H' => match x with
  | .bl k => Q k H'
  | .int i => Q (i != 0) H'
  | .non => Q false H'
  | _ => False
section
variable {X : Cx} {a b c : Expr} {ta tb tc : TE} {tA tB : TT} {rest : List Expr} {pos : Pos}
theorem tru_of {K : PySem.W.Frag} {x : V} {H : Hp} {Q : Bool → Hp → Prop} (h : match x with | .bl k => Q k H | .int i => Q (i != 0) H | .non => Q false H | _ => False) : ∃ k, TruV K x H k ∧ Q k H := by
  cases x with
  | bl k => exact ⟨k, rfl, h⟩
  | int i => exact ⟨_, rfl, h⟩
  | non => exact ⟨_, rfl, h⟩
  | _ => exact False.elim h
theorem pt_m (ha : PE X a ta) (he : ∀ whole, isTrue a X.env whole = (do let v ← whole; standAt a.pos; holding [v] (truthy v)) := by intro _; rfl) : PT X a (bM ta) := by
  intro pins s σ H Q I h
  refine isTrue_plain (thn (ha pins s σ H _ I h) fun v s1 ⟨x, H1, I1, r1, q1⟩ => ?_) (he _)
  exact thn (tru_ok pins s1 σ H1 x v Q I1 r1 (tru_of q1)) fun _ _ q => q
theorem pt_cm {op : CmpOp} {r : R2} (ho : OpR X (compareOp op) r) (ha : PE X a ta) (hb : PE X b tb) (hm : behindInMarks op b = false) : PT X (.Compare a [op] [b] pos) (fun σ H Q => ta σ H fun x H1 => tb σ H1 fun y H2 => r x y H2 fun z H3 => match z with | .bl k => Q k H3 | _ => False) := by
  intro pins s σ H Q I h
  refine wpAny_isTrue_Compare1 (thn (ha pins s σ H _ I h) fun v s1 ⟨x, H1, I1, r1, q1⟩ => thn (hb pins s1 σ H1 _ I1 q1) fun u s2 ⟨y, H2, I2, r2, q2⟩ =>
    thn (ho pins s2 σ H2 x y v u _ I2 r1 r2 q2) fun d s3 ⟨z, H3, I3, r3, q3⟩ => ?_) hm
  cases z with
  | bl k => cases r3; exact wpAny_truthy_bool ⟨H3, I3, q3⟩
  | _ => exact False.elim q3
theorem pe_am (ha : PE X a ta) (hb : PE X (.BoolOp .And (b :: rest) pos) tb) : PE X (.BoolOp .And (a :: b :: rest) pos) (fun σ H Q => ta σ H fun x H1 => match x with | .bl c => if c = true then tb σ H1 Q else Q (.bl false) H1 | _ => False) := by
  intro pins s σ H Q I h
  refine BoolOp_and (thn (ha pins s σ H _ I h) fun v s1 ⟨x, H1, I1, r1, q1⟩ => ?_)
  cases x with
  | bl c =>
    cases r1
    refine wpAny_truthy_bool ?_
    cases c with
    | true => exact hb pins s1 σ H1 Q I1 (by simpa using q1)
    | false => exact ⟨.bl false, H1, I1, rfl, by simpa using q1⟩
  | _ => exact False.elim q1
theorem pe_nm (ha : PE X a ta) : PE X (.UnaryOp .Not a pos) (fun σ H Q => ta σ H fun x H1 => match x with | .bl c => Q (.bl (!c)) H1 | _ => False) := by
  intro pins s σ H Q I h
  refine UnaryOp_ (thn (ha pins s σ H _ I h) fun v s1 ⟨x, H1, I1, r1, q1⟩ => ?_)
  cases x with
  | bl c => cases r1; exact not_of (wpAny_truthy_bool ⟨.bl (!c), H1, I1, rfl, q1⟩)
  | _ => exact False.elim q1
def setM : V → V → V → Hp → (Hp → Prop) → Prop := fun o i v H Q => match o, i with
  | .ref p, .int k => ∃ xs j, H p = some (.lst xs) ∧ ixN xs.length k = some j ∧ Q (upd H p (.lst (xs.set j v)))
  | _, _ => False
theorem u_set : PSet X setM := by
  intro pins s σ H o i v ov iv u Q I ro ri rv h
  cases o <;> cases i <;> first
    | (obtain ⟨xs, j, h1, h2, h3⟩ := h; exact set_list pins s σ H _ _ v ov iv u Q I ro ri rv ⟨_, xs, _, j, rfl, rfl, h1, h2, h3⟩)
    | exact False.elim h
def appM : V → List V → Hp → VK → Prop := fun x vs H Q => match x, vs with
  | .ref l, [y] => ∃ xs, H l = some (.lst xs) ∧ xs.length < sizeLine ∧ Q .non (upd H l (.lst (xs ++ [y])))
  | _, _ => False
theorem mt_appM : MtR X "list.append" appM := by
  intro pins s σ H x vs v us Q I rx rv h
  match x, vs, rx, rv, h with
  | .ref l, [y], rx, rv, h =>
    obtain ⟨xs, h1, h2, h3⟩ := h
    exact mt_append pins s σ H _ _ v us Q I rx rv ⟨l, xs, y, rfl, rfl, h1, h2, h3⟩
def popM : V → List V → Hp → VK → Prop := fun x vs H Q => match x, vs with
  | .ref l, [.int i] => ∃ xs k y, H l = some (.lst xs) ∧ (-(2 ^ 63) ≤ i ∧ i < 2 ^ 63) ∧ seqIndex? i xs.length = some k ∧ xs[k]? = some y ∧ Q y (upd H l (.lst (xs.eraseIdx k)))
  | .ref l, [] => ∃ xs y, H l = some (.lst xs) ∧ xs[xs.length - 1]? = some y ∧ Q y (upd H l (.lst xs.dropLast))
  | _, _ => False
theorem mt_popM : MtR X "list.pop" popM := by
  intro pins s σ H x vs v us Q I rx rv h
  match x, vs, rx, rv, h with
  | .ref l, [.int i], rx, rv, h =>
    obtain ⟨xs, k, y, h1, h2, h3, h4, h5⟩ := h
    exact mt_popAt pins s σ H _ _ v us Q I rx rv ⟨l, xs, i, k, y, rfl, rfl, h1, h2.1, h2.2, h3, h4, h5⟩
  | .ref l, [], rx, rv, h =>
    obtain ⟨xs, y, h1, h2, h3⟩ := h
    exact mt_pop pins s σ H _ _ v us Q I rx rv ⟨l, xs, y, rfl, rfl, h1, h2, h3⟩
end
theorem pt_w {X : Cx} {e : Expr} {t : TT} (h : PW X e t) : PT X e t := h.pt
def Has (P : Program) (w : World) (K : PySem.W.Frag) (mg : Str → Option Value) (base : Heap) (x : Str) (k : Nat) (ps : List Str) (sp : Sp) : Prop :=
  ∃ f fd, FnOk P w K mg base CX0 k f fd ps sp ∧ mg x = some (.ref f) ∧ PySem.W.keepIn K (.ref f) = true ∧ Binds K fd ps []
def Def (K : PySem.W.Frag) (mg : Str → Option Value) (x : Str) (st : Stmt) : Prop := ∃ f fd, Fun K x x st f fd ∧ mg x = some (.ref f)
section
variable {X : Cx} {x : Str} {j k : Nat} {ps : List Str} {sp : Sp} {e : Expr} {es : List Expr} {t : TA} {p pos : Pos}
theorem pe_fn (h : Has X.prog X.w X.K X.mg X.base x j ps sp) (hjk : j ≤ k) (hr : Room k X.A) (hg : Gl X x) (ha : PA X (e :: es) t) (hdb : (x == ("__debug__" : Str)) = false := by decide)
    (he : starEach (e :: es) X.env = (false, eval e X.env) :: starEach es X.env := by rfl) (hpl : (backTo pos (starEach es X.env)).any (·.1) = false := by rfl) : PE X (.Call (.Name x p) (e :: es) [] pos) (tCall sp [] E0 t) := by
  obtain ⟨f, fd, G, m, kp, b⟩ := h
  exact pe_call G (hr.mono hjk) hg m kp b .nil pass0 ha hdb he hpl
end
section
variable {P : Program} {w : World} {K : PySem.W.Frag} {mg : Str → Option Value} {base : Heap}
theorem Def.ok {x : Str} {st : Stmt} {N ps : List Str} {k : Nat} {sp : Sp} (D : Def K mg x st) (S : FnScope N ps (defScope st))
    (hb : ∀ (kV doc pm : Value) (an : Option Addr) (cdv ct : Value) (us : List Value), us.length = ps.length → bindArgs (PySem.W.fnOf x x (defArgs st) (defBody st) (defScope st) .none kV doc pm an cdv ct) ⟨us, []⟩ = pure (ps.zip us))
    (len : ∀ vs H Q E, sp vs H Q E → vs.length = ps.length)
    (hbody : ∀ (f : Addr) (cdv : Value) (A : Around) (outer : List Env) (s : Shared) (H : Hp) (vs : List V) (Q : VK) (E : XK), Room k (A.deeper (envOfC x (defScope st) s.heap.objs.size f cdv)) → sp vs H Q E →
      ∃ t, PSs (cxOf CX0 P w K mg base N x (defScope st) f cdv A outer s H E).nox (defBody st) t ∧ t { nx := fun _ H' => Q .non H', rt := Q } (start N vs) H) : Has P w K mg base x (k + 1) ps sp := by
  obtain ⟨f, fd, F, m⟩ := D
  exact ⟨f, fd, F.ok S len (fun cdv A outer s H vs Q E hr h => hbody f cdv A outer s H vs Q E hr h), m, F.kp, F.binds hb⟩
end
end L2

namespace L2
open PySem PySem.Spec PyProof.Rows
section
variable {X : Cx} {pins : List (Addr × Obj)} {σ : St} {H : Hp} {s : Shared}
def Ite (K : PySem.W.Frag) (a : Addr) : It :=
  ⟨fun i H => ∃ xs x, SqL K H a xs ∧ xs[i]? = some x, fun i H x H' => ∃ T y, x = .ref T ∧ H T = none ∧ H' = upd H T (.tup [.int i, y]) ∧ ∀ xs, SqL K H a xs → xs[i]? = some y, fun i H => ∃ xs, SqL K H a xs ∧ xs.length ≤ i⟩
def iEnum (K : PySem.W.Frag) (tl : TA) : TI := fun σ H R => tl σ H fun vs H1 => match vs with
  | [.ref a] => (∃ xs, SqL K H1 a xs) ∧ R (Ite K a) H1
  | _ => False
end
section
variable {X : Cx} {K : PySem.W.Frag}
theorem k_lenK (hK : X.K = K := by rfl) : CallR X (.builtin "len") (rLenU K) := hK ▸ k_len
theorem k_listK (hc : X.calm = true) (hK : X.K = K := by rfl) : CallR X (.type "list") (rListU K) := hK ▸ k_list hc
theorem u_ixK (hK : X.K = K := by rfl) : IxR X (rIxU K) := hK ▸ u_ix
theorem pg_tupK {es : List Expr} {k : Nat} {t : TGs} {n : Nat} {pos : Pos} (hc : X.calm = true) (h : PGs X es t)
    (hn : (assignEach es X.env).length = n := by rfl) (hst : (assignEach es X.env).findIdx? (·.1) = none := by rfl) (hK : X.K = K := by rfl) : PG X (.Tuple es k pos) (gTup K n t) := hK ▸ pg_tup hc h hn hst
def tML (r : V → List V → Hp → VK → Prop) (to : TE) (t : TA) : TE := fun σ H Q => to σ H fun x H1 => match x with
  | .ref p => ∃ xs, H1 p = some (.lst xs) ∧ t σ H1 fun vs H2 => r x vs H2 Q
  | _ => False
variable {o e : Expr} {es : List Expr} {to : TE} {t : TA} {name : Str} {apos cpos : Pos} {T id : String} {r : V → List V → Hp → VK → Prop}
theorem pe_ml (pa : PlainAttrs "list") (slot : Slot "list" name id) (hty : typeOf (.builtin id) = pure (.type "method_descriptor")) (hm : MtR X id r) (ho : PE X o to) (ha : PA X (e :: es) t)
    (hbase : attributeBase o name X.env (eval o X.env) = eval o X.env := by rfl)
    (hfew : ((backTo cpos (starEach (e :: es) X.env)).all (fun x => !x.1) && (backToKw cpos (keywordEach [] X.env)).all (fun x => x.1.isSome)
      && decide ((e :: es).length + ([] : List Keyword).length + (if ([] : List Keyword).isEmpty then 0 else 1) < 30)) = true := by rfl)
    (hline : (apos.endLine == cpos.line) = true := by rfl) (hs : starEach (e :: es) X.env = (false, eval e X.env) :: starEach es X.env := by rfl) (hplain : (backTo cpos (starEach es X.env)).any (·.1) = false := by rfl) :
    PE X (.Call (.Attribute o name apos) (e :: es) [] cpos) (tML r to t) := by
  intro pins s σ H Q I h
  refine wpAny_Call_method_late hbase hfew hline rfl (thn (ho pins s σ H _ I h) fun v s1 ⟨x, H1, I1, r1, q1⟩ => ?_)
  cases x with
  | ref p => ?_
  | _ => exact False.elim q1
  obtain ⟨xs, hx, q1⟩ := q1
  obtain ⟨h1, h2⟩ := tyV_is (T := "list") I1 r1 (.inl ⟨rfl, xs, SqL.of hx⟩)
  refine ⟨"list", id, pa, slot, hty, h1, h2, ?_⟩
  have hA := ha cpos pins s1 σ H1 _ I1 q1
  rw [hs] at hA ⊢
  refine Calls.callWith_builtin (by show (false || (backTo cpos (starEach es X.env)).any (·.1)) = false; rw [hplain] <;> rfl) (Calls.evalArgs_plain ?_)
  exact thn hA fun us s2 ⟨vs, H2, I2, r2, q2⟩ => hm pins s2 σ H2 (.ref p) vs v us Q I2 r1 r2 q2
theorem pe_ml0 (pa : PlainAttrs "list") (slot : Slot "list" name id) (hty : typeOf (.builtin id) = pure (.type "method_descriptor")) (hm : MtR X id r) (ho : PE X o to)
    (hbase : attributeBase o name X.env (eval o X.env) = eval o X.env := by rfl) (hline : (apos.endLine == cpos.line) = true := by rfl) : PE X (.Call (.Attribute o name apos) [] [] cpos) (tML r to tNil) := by
  intro pins s σ H Q I h
  refine wpAny_Call_method0_late hbase hline (thn (ho pins s σ H _ I h) fun v s1 ⟨x, H1, I1, r1, q1⟩ => ?_)
  cases x with
  | ref p => ?_
  | _ => exact False.elim q1
  obtain ⟨xs, hx, q1⟩ := q1
  obtain ⟨h1, h2⟩ := tyV_is (T := "list") I1 r1 (.inl ⟨rfl, xs, SqL.of hx⟩)
  exact ⟨"list", id, pa, slot, hty, h1, h2, Calls.callWith_builtin rfl (PySem.evalArgs_none (hm pins s1 σ H1 (.ref p) [] v [] Q I1 r1 .nil q1))⟩
end
end L2

namespace L2
open PySem PySem.Spec PyProof.Rows
theorem same_new {H : Hp} {p : Addr} (h : H p = none) (o : HO) : Same H (upd H p o) := fun b u q => by rw [upd_ne (ne_of_none q h)]; exact q
theorem Same.upd {H H' : Hp} {p : Addr} (s : Same H H') (h : H p = none) (o : HO) : Same H (upd H' p o) := fun b u q => by rw [upd_ne (ne_of_none q h)]; exact s b u q
theorem repL_ints {H : Hp} : ∀ (ns : List Int), RepL H (ns.map Dat.int) (ns.map V.int)
  | [] => rfl
  | n :: r => ⟨.int n, r.map V.int, rfl, rfl, repL_ints r⟩
theorem depL_ints : ∀ (ns : List Int), Dat.depL (ns.map Dat.int) = 0
  | [] => rfl
  | n :: r => by
    rw [List.map_cons, Dat.depL, depL_ints r]
    rfl
theorem eqL_ints : ∀ (ns ms : List Int), Dat.eqL (ns.map Dat.int) (ms.map Dat.int) = decide (ns = ms)
  | [], [] => by simp [Dat.eqL]
  | [], _ :: _ => by simp [Dat.eqL]
  | _ :: _, [] => by simp [Dat.eqL]
  | n :: r, m :: q => by
    rw [List.map_cons, List.map_cons, Dat.eqL, eqL_ints r q, Dat.eq]
    by_cases h : n = m
    · subst h; simp
    · simp [h]
theorem set_ints {ns : List Int} {i : Nat} {x : Int} : (ns.map V.int).set i (.int x) = (ns.set i x).map V.int := by
  rw [List.map_set]
theorem big {n : Nat} (h : n ≤ 100000) : n < sizeLine := by rw [sizeLine_eq]; omega
end L2

namespace L2
open PySem PySem.Spec PyProof.Rows
theorem ints_vals : ∀ {ns : List Int} {vs : List Value}, Vals (ns.map V.int) vs → IntsAre vs ns
  | [], _, .nil => .nil
  | n :: r, _, .cons h t => by
    obtain ⟨tk, rfl⟩ := h
    exact .cons n tk (ints_vals t)
section
variable {X : Cx}
end
section
variable {X : Cx}
end
end L2

namespace Mi
open PySem
noncomputable section
inductive Sv where
  | i (n : Int) | s (x : Str)
inductive Sw where
  | non | bl (b : Bool) | int (i : Int) | str (x : Str)
inductive Dt where
  | non | bl (b : Bool) | int (i : Int) | str (x : Str) | lst (xs : List Dt) | tup (xs : List Dt) | scr (ns : List Int) | exc (c f : Str) (d : Dt) | ins (c : Str) (fs : List (Str × Sv)) | dct (kvs : List (Sum Int Str × Sw))
mutual
def Dt.dep : Dt → Nat
  | .lst xs => Dt.depL xs + 1
  | .tup xs => Dt.depL xs + 1
  | .scr _ => 1000
  | .exc _ _ _ => 1000
  | .ins _ _ => 1000
  | .dct _ => 1000
  | _ => 0
def Dt.depL : List Dt → Nat
  | [] => 0
  | x :: r => max x.dep (Dt.depL r)
end
mutual
def Dt.eq : Dt → Dt → Bool
  | .non, .non => true
  | .bl a, .bl b => a == b
  | .bl a, .int b => (if a then 1 else 0) == b
  | .int a, .bl b => a == (if b then 1 else 0)
  | .int a, .int b => a == b
  | .str a, .str b => a == b
  | .lst xs, .lst ys => Dt.eqL xs ys
  | .tup xs, .tup ys => Dt.eqL xs ys
  | _, _ => false
def Dt.eqL : List Dt → List Dt → Bool
  | [], [] => true
  | x :: r, y :: q => Dt.eq x y && Dt.eqL r q
  | _, _ => false
end
structure Xn where
  cls : Str
  f : Str
  d : Dt
abbrev R (α : Type) := Option (Except Xn α)
def okR {α : Type} (a : α) : R α := some (.ok a)
def bindR {α β : Type} (x : R α) (f : α → R β) : R β := match x with
  | none => none
  | some (.error e) => some (.error e)
  | some (.ok a) => f a
def optR {α : Type} (o : Option α) : R α := match o with
  | none => none
  | some a => okR a
@[simp] theorem bindR_ok {α β : Type} (a : α) (f : α → R β) : bindR (okR a) f = f a := rfl
@[simp] theorem bindR_none {α β : Type} (f : α → R β) : bindR none f = none := rfl
@[simp] theorem bindR_err {α β : Type} (e : Xn) (f : α → R β) : bindR (some (.error e)) f = some (.error e) := rfl
@[simp] theorem optR_some {α : Type} (a : α) : optR (some a) = okR a := rfl
@[simp] theorem optR_none {α : Type} : optR (none : Option α) = none := rfl
abbrev Rh := List (Option Dt)
abbrev Sl := Dt × Nat
abbrev Ro := List (Option Sl)
abbrev EM := Rh → R Dt
abbrev TM := Rh → R Bool
abbrev AM := Rh → R (List Dt)
abbrev FM := List Dt → R Dt
def ixA (n : Nat) (i : Int) : Option Nat := if 0 ≤ i then (if i < n then some i.toNat else none) else if -(n : Int) ≤ i then some (i + n).toNat else none
def itA {α : Type} (xs : List α) (i : Int) : Option α := (ixA xs.length i).bind fun j => xs[j]?
def addD : Dt → Dt → Option Dt
  | .int i, .int j => some (.int (i + j))
  | .str i, .str j => @ite _ (i.length + j.length ≤ 100000) (Classical.propDecidable _) (some (.str (i ++ j))) none
  | .lst xs, .lst ys => @ite _ (xs.length + ys.length ≤ 100000) (Classical.propDecidable _) (some (.lst (xs ++ ys))) none
  | _, _ => none
def subD : Dt → Dt → Option Dt
  | .int i, .int j => some (.int (i - j))
  | _, _ => none
def mulD : Dt → Dt → Option Dt
  | .int i, .int j => @ite _ (((-18446744073709551616 < i ∧ i < 18446744073709551616) ∨ (-18446744073709551616 < j ∧ j < 18446744073709551616)) ∨ i.natAbs.log2 + j.natAbs.log2 ≤ 67108864) (Classical.propDecidable _) (some (.int (i * j))) none
  | _, _ => none
def divD : Dt → Dt → Option Dt
  | .int i, .int j => @ite _ (0 < j ∧ j < 1000000000000000000000000) (Classical.propDecidable _) (some (.int (i / j))) none
  | _, _ => none
def modD : Dt → Dt → Option Dt
  | .int i, .int j => if 0 < j then some (.int (i % j)) else none
  | _, _ => none
def powD : Dt → Dt → Option Dt
  | .int i, .int j => @ite _ (0 ≤ j ∧ j ≤ 1000000 ∧ i.natAbs < 18446744073709551616) (Classical.propDecidable _) (some (.int (i ^ j.toNat))) none
  | _, _ => none
def negD : Dt → Option Dt
  | .int i => some (.int (-i))
  | _ => none
def cmpD (p : Int → Int → Bool) : Dt → Dt → Option Dt
  | .int i, .int j => some (.bl (p i j))
  | _, _ => none
def eqD (x y : Dt) : Option Dt := if x.dep ≤ 40 ∧ y.dep ≤ 40 then some (.bl (Dt.eq x y)) else none
def neD (x y : Dt) : Option Dt := if x.dep ≤ 40 ∧ y.dep ≤ 40 then some (.bl (!Dt.eq x y)) else none
def isNonD : Dt → Bool
  | .non => true
  | _ => false
def isD (x y : Dt) : Option Dt := match y with
  | .non => some (.bl (isNonD x))
  | _ => none
def isntD (x y : Dt) : Option Dt := match y with
  | .non => some (.bl (!isNonD x))
  | _ => none
def ixD : Dt → Dt → Option Dt
  | .lst xs, .int i => itA xs i
  | .tup xs, .int i => itA xs i
  | .scr ns, .int i => (itA ns i).map .int
  | .str z, .int i => @ite _ (z.length ≤ 100000) (Classical.propDecidable _) ((itA z.cps.toList i).map fun c => .str ⟨#[c]⟩) none
  | _, _ => none
def lenD : List Dt → Option Dt
  | [.lst xs] => some (.int xs.length)
  | [.tup xs] => some (.int xs.length)
  | [.scr ns] => some (.int ns.length)
  | [.str z] => @ite _ (z.length ≤ 100000) (Classical.propDecidable _) (some (.int z.length)) none
  | _ => none
def listD : List Dt → Option Dt
  | [.lst xs] => some (.lst xs)
  | [.tup xs] => some (.lst xs)
  | [.scr ns] => some (.lst (ns.map .int))
  | _ => none
def nums (lo : Int) (n : Nat) : List Dt := (List.range n).map fun i : Nat => .int (lo + (i : Int))
def rangeD : List Dt → Option Dt
  | [.int j] => @ite _ ((-4611686018427387904 ≤ j ∧ j < 4611686018427387904) ∧ j ≤ 100000) (Classical.propDecidable _) (some (.lst (nums 0 j.toNat))) none
  | [.int i, .int j] => @ite _ ((-4611686018427387904 ≤ i ∧ i < 4611686018427387904 ∧ -4611686018427387904 ≤ j ∧ j < 4611686018427387904) ∧ j - i ≤ 100000) (Classical.propDecidable _) (some (.lst (nums i (j - i).toNat))) none
  | _ => none
def tyD : Dt → String
  | .non => "NoneType"
  | .bl _ => "bool"
  | .int _ => "int"
  | .str _ => "str"
  | .lst _ => "list"
  | .tup _ => "tuple"
  | .scr _ => ""
  | .exc _ _ _ => ""
  | .ins _ _ => ""
  | .dct _ => ""
def isiD (n : String) (x : Dt) : Option Dt := if tyD x = "" then none else some (.bl (tyD x == n || (tyD x == "bool" && n == "int")))
def boolsD : List Dt → Option (List Bool)
  | [] => some []
  | .bl b :: r => (boolsD r).map (b :: ·)
  | _ :: _ => none
def allD : List Dt → Option Dt
  | [.lst xs] => (boolsD xs).map fun bs => .bl (bs.all id)
  | _ => none
def intD : List Dt → Option Dt
  | [.int i] => some (.int i)
  | [.bl k] => some (.int (if k = true then 1 else 0))
  | _ => none
def absD : List Dt → Option Dt
  | [.int i] => some (.int (if i < 0 then -i else i))
  | _ => none
def hasD (x : Dt) (ys : List Dt) : Option Bool := if x.dep = 0 ∧ Dt.depL ys = 0 then some (ys.any fun y => Dt.eq y x) else none
def inD (ng : Bool) (x y : Dt) : Option Dt := match y with
  | .lst ys => (hasD x ys).map fun b => .bl (if ng = true then !b else b)
  | .tup ys => (hasD x ys).map fun b => .bl (if ng = true then !b else b)
  | .str z => match x with
    | .str y => match y.cps.toList with
      | [c] => some (.bl (if ng = true then !decide (c ∈ z.cps.toList) else decide (c ∈ z.cps.toList)))
      | _ => none
    | _ => none
  | _ => none
def cutIx (n d : Nat) : Option Int → Nat
  | none => d
  | some v => if v < 0 then (v + (n : Int)).toNat else min v.toNat n
def cutA {α : Type} (xs : List α) (lo hi : Option Int) : List α := (xs.drop (cutIx xs.length 0 lo)).take (cutIx xs.length xs.length hi - cutIx xs.length 0 lo)
def slD : Dt → Option Int → Option Int → Option Dt
  | .lst xs, lo, hi => some (.lst (cutA xs lo hi))
  | .str z, lo, hi => @ite _ (z.length ≤ 100000) (Classical.propDecidable _) (some (.str ⟨(cutA z.cps.toList lo hi).toArray⟩)) none
  | _, _, _ => none
abbrev OM := Rh → R (Option Int)
def oNo : OM := fun _ => okR none
def oE (e : Rh → R Dt) : OM := fun ρ => bindR (e ρ) fun d => match d with
  | .int i => okR (some i)
  | _ => none
def eSl (a : Rh → R Dt) (lo hi : OM) : Rh → R Dt := fun ρ => bindR (a ρ) fun x => bindR (lo ρ) fun l => bindR (hi ρ) fun h => optR (slD x l h)
def posC (c : Nat) : List Nat → Option Nat
  | [] => none
  | x :: r => if x = c then some 0 else (posC c r).map (· + 1)
def findD (x : Dt) (ys : List Dt) : Option Dt := match x, ys with
  | .str z, [.str y] => match y.cps.toList with
    | [c] => some (.int (match posC c z.cps.toList with | some i => (i : Int) | none => -1))
    | _ => none
  | _, _ => none
def countD (x : Dt) (ys : List Dt) : Option Dt := match x, ys with
  | .str z, [.str y] => match y.cps.toList with
    | [c] => some (.int (z.cps.toList.count c : Nat))
    | _ => none
  | _, _ => none
def isStrD : Dt → Bool
  | .str _ => true
  | _ => false
def eMt (f : Dt → List Dt → Option Dt) (a : Rh → R Dt) (am : Rh → R (List Dt)) : Rh → R Dt := fun ρ => bindR (a ρ) fun x => if isStrD x = true then bindR (am ρ) fun xs => optR (f x xs) else none
def signsD (z : Str) : List Dt := z.cps.toList.map fun c => .str ⟨#[c]⟩
def eC (d : Dt) : EM := fun _ => okR d
def eV (i : Nat) : EM := fun ρ => match ρ[i]? with
  | some (some d) => okR d
  | _ => none
def eB (f : Dt → Dt → Option Dt) (a b : EM) : EM := fun ρ => bindR (a ρ) fun x => bindR (b ρ) fun y => optR (f x y)
def eU (f : Dt → Option Dt) (a : EM) : EM := fun ρ => bindR (a ρ) fun x => optR (f x)
def eAnd (a b : EM) : EM := fun ρ => bindR (a ρ) fun x => match x with
  | .bl k => if k = true then b ρ else okR (.bl false)
  | _ => none
def eOr (a b : EM) : EM := fun ρ => bindR (a ρ) fun x => match x with
  | .bl k => if k = true then okR (.bl true) else b ρ
  | _ => none
def eNot (a : EM) : EM := fun ρ => bindR (a ρ) fun x => match x with
  | .bl k => okR (.bl (!k))
  | _ => none
def eChain (p q : Dt → Dt → Option Dt) (a b c : EM) : EM := fun ρ => bindR (a ρ) fun x => bindR (b ρ) fun y => bindR (optR (p x y)) fun z => match z with
  | .bl k => if k = true then bindR (c ρ) fun w => optR (q y w) else okR (.bl false)
  | _ => none
def eIf (c : TM) (a b : EM) : EM := fun ρ => bindR (c ρ) fun k => if k = true then a ρ else b ρ
def aNil : AM := fun _ => okR []
def aCons (e : EM) (r : AM) : AM := fun ρ => bindR (e ρ) fun x => bindR (r ρ) fun xs => okR (x :: xs)
def eLst (a : AM) : EM := fun ρ => bindR (a ρ) fun xs => @ite _ (xs.length ≤ 100000) (Classical.propDecidable _) (okR (.lst xs)) none
def eTup (a : AM) : EM := fun ρ => bindR (a ρ) fun xs => @ite _ (xs.length ≤ 100000) (Classical.propDecidable _) (okR (.tup xs)) none
def eCall (f : FM) (a : AM) : EM := fun ρ => bindR (a ρ) f
def eBi (f : List Dt → Option Dt) (a : AM) : EM := fun ρ => bindR (a ρ) fun xs => optR (f xs)
def eIsi (n : String) (a : EM) : EM := fun ρ => bindR (a ρ) fun x => optR (isiD n x)
def tB (a : EM) : TM := fun ρ => bindR (a ρ) fun x => match x with
  | .bl k => okR k
  | _ => none
def tM (a : EM) : TM := fun ρ => bindR (a ρ) fun x => match x with
  | .bl k => okR k
  | .int i => okR (i != 0)
  | .non => okR false
  | _ => none
def tAn (a b : TM) : TM := fun ρ => bindR (a ρ) fun k => if k = true then b ρ else okR false
def tOr (a b : TM) : TM := fun ρ => bindR (a ρ) fun k => if k = true then okR true else b ρ
def tNo (a : TM) : TM := fun ρ => bindR (a ρ) fun k => okR (!k)
def tYes : TM := fun _ => okR true
abbrev IM := Rh → R (List Dt)
def iSq (e : EM) : IM := fun ρ => bindR (e ρ) fun d => match d with
  | .lst xs => okR xs
  | .tup xs => okR xs
  | .scr ns => okR (ns.map .int)
  | .str z => okR (signsD z)
  | _ => none
def iR1 (e : AM) : IM := fun ρ => bindR (e ρ) fun vs => match vs with
  | [.int j] => @ite _ (-4611686018427387904 ≤ j ∧ j < 4611686018427387904) (Classical.propDecidable _) (okR (nums 0 j.toNat)) none
  | _ => none
def enumD (n : Nat) : List Dt → List Dt
  | [] => []
  | x :: r => .tup [.int n, x] :: enumD (n + 1) r
def iEn (e : AM) : IM := fun ρ => bindR (e ρ) fun vs => match vs with
  | [.lst xs] => okR (enumD 0 xs)
  | _ => none
def zipD : List Dt → List Dt → List Dt
  | x :: r, y :: q => .tup [x, y] :: zipD r q
  | _, _ => []
def iZi (e : AM) : IM := fun ρ => bindR (e ρ) fun vs => match vs with
  | [.lst xs, .lst ys] => okR (zipD xs ys)
  | _ => none
inductive Tg where
  | one (i : Nat)
  | tup (is : List Nat)
def bindT : Tg → Dt → Option (List (Nat × Dt))
  | .one i, d => some [(i, d)]
  | .tup is, .tup ds => if ds.length = is.length then some (is.zip ds) else none
  | .tup _, _ => none
def Tg.idx : Tg → List Nat
  | .one i => [i]
  | .tup is => is
def setsH : Rh → List (Nat × Dt) → Rh
  | ρ, [] => ρ
  | ρ, (i, d) :: r => setsH (ρ.set i (some d)) r
def setsO : Ro → List (Nat × Dt) → Ro
  | ρ, [] => ρ
  | ρ, (i, d) :: r => setsO (ρ.set i (some (d, 0))) r
def compGo (ρ : Rh) (k : Nat) (tg : Tg) (c : TM) (e : EM) : List Dt → List Dt → R (List Dt)
  | [], acc => okR acc
  | d :: ds, acc => match bindT tg d with
    | none => none
    | some bs => bindR (c (setsH (ρ ++ List.replicate k none) bs)) fun b => if b = true then bindR (e (setsH (ρ ++ List.replicate k none) bs)) fun x => compGo ρ k tg c e ds (acc ++ [x]) else compGo ρ k tg c e ds acc
def eComp (it : IM) (k : Nat) (tg : Tg) (c : TM) (e : EM) : EM := fun ρ => bindR (it ρ) fun ds => @ite _ (ds.length ≤ 100000 ∧ (tg.idx.all fun i => decide (ρ.length ≤ i)) = true) (Classical.propDecidable _) (bindR (compGo ρ k tg c e ds []) fun es => okR (.lst es)) none
inductive Out where
  | nx (ρ : Ro) | rt (d : Dt) | bk (ρ : Ro) | ct (ρ : Ro)
abbrev SM := Ro → R Out
def full (ρ : Ro) : Rh := ρ.map fun o => o.map Prod.fst
def frz (ρ : Ro) : Rh := ρ.map fun o => match o with
  | some (d, n) => if n = 0 ∨ d.dep = 0 then some d else none
  | none => none
def frz1 (i : Nat) (ρ : Ro) : Ro := match ρ[i]? with
  | some (some (d, _)) => ρ.set i (some (d, 0))
  | _ => ρ
def frzAt : List Nat → Ro → Ro
  | [], ρ => ρ
  | i :: r, ρ => frzAt r (frz1 i ρ)
def sNil : SM := fun ρ => okR (.nx ρ)
def sSeq (a b : SM) : SM := fun ρ => bindR (a ρ) fun o => match o with
  | .nx ρ' => b ρ'
  | o => okR o
def sNever : SM := fun _ => none
def sBreak : SM := fun ρ => okR (.bk ρ)
def sCont : SM := fun ρ => okR (.ct ρ)
def sIf (c : TM) (a b : SM) : SM := fun ρ => bindR (c (full ρ)) fun k => if k = true then a ρ else b ρ
def sDrop (e : EM) : SM := fun ρ => bindR (e (full ρ)) fun _ => okR (.nx ρ)
def sSet (i n : Nat) (vs : List Nat) (e : EM) : SM := fun ρ => bindR (e (full ρ)) fun d =>
  if d.dep ≤ n then okR (.nx (ρ.set i (some (d, n)))) else bindR (e (frz (frzAt vs ρ))) fun d' => okR (.nx ((frzAt vs ρ).set i (some (d', n))))
def sUnp (is : List Nat) (vs : List Nat) (e : EM) : SM := fun ρ => bindR (e (frz (frzAt vs ρ))) fun d => match bindT (.tup is) d with
  | none => none
  | some bs => okR (.nx (setsO (frzAt vs ρ) bs))
def sRet (L n : Nat) (vs : List Nat) (e : EM) : SM := fun ρ => bindR (e (full ρ)) fun d =>
  if d.dep ≤ n ∧ d.dep ≤ L then okR (.rt d) else if n = L then bindR (e (frz (frzAt vs ρ))) fun d' => okR (.rt d') else none
def sRetN : SM := fun _ => okR (.rt .non)
def sRetV (L i : Nat) : SM := fun ρ => match ρ[i]? with
  | some (some (d, k)) => if k = L ∨ L = 0 ∨ (d.dep ≤ k ∧ d.dep ≤ L ∧ k < 1000) then okR (.rt d) else none
  | _ => none
def sApp (i n : Nat) (e : EM) : SM := fun ρ => match ρ[i]? with
  | some (some (.lst ds, k + 1)) => bindR (e (full ρ)) fun d => @ite _ (ds.length ≤ 100000 ∧ d.dep ≤ n ∧ d.dep ≤ k) (Classical.propDecidable _) (okR (.nx (ρ.set i (some (.lst (ds ++ [d]), k + 1))))) none
  | _ => none
def sPop (j i : Nat) (e : EM) : SM := fun ρ => match ρ[i]? with
  | some (some (.lst ds, k + 1)) => bindR (e (full ρ)) fun d => match d with
    | .int z => match ixA ds.length z with
      | some q => match ds[q]? with
        | some c => @ite _ (i ≠ j ∧ ds.length ≤ 1000000) (Classical.propDecidable _) (okR (.nx ((ρ.set i (some (.lst (ds.eraseIdx q), k + 1))).set j (some (c, k))))) none
        | none => none
      | none => none
    | _ => none
  | _ => none
def sAppPop (j i : Nat) (e : EM) : SM := fun ρ => match ρ[j]?, ρ[i]? with
  | some (some (.lst es, l + 1)), some (some (.lst ds, k + 1)) => bindR (e (full ρ)) fun d => match d with
    | .int z => match ixA ds.length z with
      | some q => match ds[q]? with
        | some c => @ite _ (i ≠ j ∧ ds.length ≤ 1000000 ∧ es.length ≤ 100000 ∧ (k = l ∨ (c.dep ≤ k ∧ c.dep ≤ l ∧ k < 1000))) (Classical.propDecidable _) (okR (.nx ((ρ.set i (some (.lst (ds.eraseIdx q), k + 1))).set j (some (.lst (es ++ [c]), l + 1))))) none
        | none => none
      | none => none
    | _ => none
  | _, _ => none
def sItem (i n : Nat) (e1 e2 : EM) : SM := fun ρ => bindR (e2 (full ρ)) fun d => match ρ[i]? with
  | some (some (.lst ds, k + 1)) => bindR (e1 (full ρ)) fun z => match z with
    | .int z => match ixA ds.length z with
      | some q => if d.dep ≤ n ∧ d.dep ≤ k then okR (.nx (ρ.set i (some (.lst (ds.set q d), k + 1)))) else none
      | none => none
    | _ => none
  | _ => none
def forGo (tg : Tg) (b : SM) : List Dt → SM
  | [], ρ => okR (.nx ρ)
  | d :: ds, ρ => match bindT tg d with
    | none => none
    | some bs => bindR (b (setsO ρ bs)) fun o => match o with
      | .nx ρ' => forGo tg b ds ρ'
      | .ct ρ' => forGo tg b ds ρ'
      | .bk ρ' => okR (.nx ρ')
      | .rt d => okR (.rt d)
def sFor (vs : List Nat) (it : IM) (tg : Tg) (b : SM) : SM := fun ρ => bindR (it (frz (frzAt vs ρ))) fun ds => forGo tg b ds (frzAt vs ρ)
def sForR (it : IM) (i : Nat) (b : SM) : SM := fun ρ => bindR (it (full ρ)) fun ds => forGo (.one i) b ds ρ
def whGo (c : TM) (b : SM) : Nat → SM
  | 0, _ => none
  | m + 1, ρ => bindR (c (full ρ)) fun k => if k = true then bindR (b ρ) fun o => match o with
      | .nx ρ' => whGo c b m ρ'
      | .ct ρ' => whGo c b m ρ'
      | .bk ρ' => okR (.nx ρ')
      | .rt d => okR (.rt d)
    else okR (.nx ρ)
def WNs : { n : Nat // n = 1000000 } := Classical.choice ⟨⟨1000000, rfl⟩⟩
def WN : Nat := WNs.val
theorem WN_eq : WN = 1000000 := WNs.property
def sWhile (c : TM) (b : SM) : SM := fun ρ => whGo c b WN ρ
def startO (n : Nat) (ds : List Dt) : Ro := ds.map (fun d => some (d, 0)) ++ List.replicate (n - ds.length) none
def endF : Out → R Dt
  | .nx _ => okR .non
  | .rt d => okR d
  | _ => none
def runF (P n : Nat) (b : SM) : FM := fun ds => if ds.length = P then bindR (b (startO n ds)) endF else none
end
end Mi

namespace L2
open PySem PySem.Spec PyProof.Rows
section
variable {X : Cx}
end
def Its (z : Str) : It := ⟨fun i _ => i < z.cps.size, fun i H x H' => H' = H ∧ ∃ c, z.cps[i]? = some c ∧ x = .str ⟨#[c]⟩, fun i _ => z.cps.size ≤ i⟩
theorem turn_str {P : Program} {w : World} {K : PySem.W.Frag} {tg : Expr} (z : Str) (t : Tok) (it : Addr) (ty : String) (hty : ty = strIterType z) : Turn P w K tg (Its z) [it] it (fun i h => h.IsStrIter it ty z t i) where
  mem := by simp
  obj := fun i h st b hb => by
    have e : b = it := by simpa using hb
    subst e
    obtain ⟨o, e, c, d⟩ := st
    exact ⟨o, e, fun v z => by rw [d] at z; cases z⟩
  keep := fun i h h' st k => by obtain ⟨o, ho, r⟩ := st; exact ⟨o, k it (by simp) o ho, r⟩
  item := by
    intro X hP hw hK hc i pins s σ H E I hf st hg
    subst hP hw hK
    have hi : i < z.cps.size := hg
    have hx : z.cps[i]? = some z.cps[i] := Array.getElem?_eq_getElem hi
    obtain ⟨f0, f1, f2, f3, f4, f5⟩ := hf it (by simp)
    have fin : ∀ h', h'.IsStrIter it ty z t (i + 1) → Heap.SameBut it s.heap h' → ∃ u, some (Value.str ⟨#[z.cps[i]]⟩ s.toks) = some u ∧ wpAny (model X.prog X.w) X.A (letOwnedTupleGo tg (.ref it) u) (fun _ s2 => ∃ x H', Inv X pins σ H' s2 ∧ RelV x u ∧ (Its z).yld i H x H' ∧ s2.heap.IsStrIter it ty z t (i + 1) ∧ ∀ b ∈ [it], H' b = none) E { s with heap := h', toks := s.toks + 1 } := by
      intro h' st' sb
      have I1 : Inv X pins σ H { s with heap := h', toks := s.toks + 1 } := I.turned (t' := s.toks + 1) (fun b o hb e => (sb.2 b hb).trans e) f0 f1 f3 f4 f5
      obtain ⟨o, e, c, d⟩ := id st'
      refine ⟨_, rfl, go_of (s := { s with heap := h', toks := s.toks + 1 }) e c d ?_ ⟨.str ⟨#[z.cps[i]]⟩, H, I1, ⟨_, rfl⟩, ⟨rfl, _, hx, rfl⟩, st', fun b hb => (hf b hb).1⟩⟩
      rw [hty]; unfold strIterType; split <;> decide
    cases ha : z.cps.all (· < 128)
    · have e : ty = "str_iterator" := by rw [hty]; unfold strIterType; rw [ha]; rfl
      subst e
      exact wpAny_pyNext_wide_item st hx fun h' a b => fin h' a b
    · have e : ty = "str_ascii_iterator" := by rw [hty]; unfold strIterType; rw [ha]; rfl
      subst e
      exact wpAny_pyNext_ascii_item st hx fun h' a b => fin h' a b
  done := by
    intro X hP hw hK hc i pins s σ H E I hf st hg
    subst hP hw hK
    have hx : z.cps[i]? = none := Array.getElem?_eq_none hg
    obtain ⟨f0, f1, f2, f3, f4, f5⟩ := hf it (by simp)
    have fin : ∀ h', Heap.ExtBut it s.heap h' → (none : Option Value) = none ∧ Inv X pins σ H { s with heap := h' } := fun h' eb => ⟨rfl, I.turned (t' := s.toks) (fun b o hb e => eb b o hb e) f0 f1 f3 f4 f5⟩
    cases ha : z.cps.all (· < 128)
    · have e : ty = "str_iterator" := by rw [hty]; unfold strIterType; rw [ha]; rfl
      subst e
      exact wpAny_pyNext_wide_end (I.ok.hd hc) st hx fun h' a => fin h' a
    · have e : ty = "str_ascii_iterator" := by rw [hty]; unfold strIterType; rw [ha]; rfl
      subst e
      exact wpAny_pyNext_ascii_end (I.ok.hd hc) st hx fun h' a => fin h' a
  self := fun A i s Q E st h => by
    cases ha : z.cps.all (· < 128)
    · have e : ty = "str_iterator" := by rw [hty]; unfold strIterType; rw [ha]; rfl
      subst e
      exact wpAny_pyIter_striter_wide st h
    · have e : ty = "str_ascii_iterator" := by rw [hty]; unfold strIterType; rw [ha]; rfl
      subst e
      exact wpAny_pyIter_striter_ascii st h
section
variable {X : Cx}
def iAny (K : PySem.W.Frag) (tl : TE) : TI := fun σ H R => tl σ H fun x H1 => match x with
  | .ref a => (∃ xs, SqL K H1 a xs) ∧ R (Itl K a) H1 ∨ (∃ xs, SqT K H1 a xs) ∧ R (Itt K a) H1
  | .str z => R (Its z) H1
  | _ => False
theorem pi_all {K : PySem.W.Frag} {tg l : Expr} {tl : TE} (hl : PE X l tl) (hK : X.K = K := by rfl) : PI X tg l (iAny K tl) := by
  subst hK
  intro pins s σ H R I h
  refine thn (hl pins s σ H _ I h) fun v s1 ⟨x, H1, I1, r1, q1⟩ => ?_
  cases x with
  | ref a =>
    cases r1
    rcases q1 with ⟨⟨xs, hq⟩, q⟩ | ⟨⟨xs, hq⟩, q⟩
    · obtain ⟨its, rv, p, hz⟩ := I1.list hq
      refine wpAny_pyIter_list p.isList ?_
      refine ⟨s1.heap.objs.size, [s1.heap.objs.size], _, _, H1, rfl, I1.kept (t' := s1.toks) fun b o e => Heap.get?_push_of_some _ e, turn_list a _, ⟨_, Heap.get?_push_size _ rfl, rfl, rfl⟩, fun b hb => ?_, q⟩
      have e : b = s1.heap.objs.size := by simpa using hb
      subst e
      exact I1.fpOk (Nat.le_refl _) (I1.hok.fresh (Nat.le_refl _))
    · obtain ⟨its, rv, p, hz⟩ := I1.tuple hq
      refine wpAny_pyIter_tuple (show s1.heap.IsTuple a its.toArray from p) ?_
      refine ⟨s1.heap.objs.size, [s1.heap.objs.size], _, _, H1, rfl, I1.kept (t' := s1.toks) fun b o e => Heap.get?_push_of_some _ e, turn_tuple a _, ⟨_, Heap.get?_push_size _ rfl, rfl, rfl⟩, fun b hb => ?_, q⟩
      have e : b = s1.heap.objs.size := by simpa using hb
      subst e
      exact I1.fpOk (Nat.le_refl _) (I1.hok.fresh (Nat.le_refl _))
  | str z =>
    obtain ⟨t, rfl⟩ := r1
    refine wpAny_pyIter_strU ?_
    refine ⟨s1.heap.objs.size, [s1.heap.objs.size], _, _, H1, rfl, I1.kept (t' := s1.toks) fun b o e => Heap.get?_push_of_some _ e, turn_str z t _ _ rfl, ⟨_, Heap.get?_push_size _ rfl, rfl, rfl⟩, fun b hb => ?_, q1⟩
    have e : b = s1.heap.objs.size := by simpa using hb
    subst e
    exact I1.fpOk (Nat.le_refl _) (I1.hok.fresh (Nat.le_refl _))
  | _ => exact False.elim q1
theorem strs_vals : ∀ {ys : List Str} {us : List Value}, Vals (ys.map V.str) us → StrsAre us ys
  | [], _, .nil => .nil
  | y :: ys, _, .cons r t => by obtain ⟨k, rfl⟩ := r; exact .cons y k (strs_vals t)
end
end L2

namespace L2
open PySem PySem.Spec PyProof.Rows
section
variable {X : Cx} {K : PySem.W.Frag}
end
end L2

namespace L2
open PySem PySem.Spec PyProof.Rows
def XO (e : Addr) (C : Value) (d : Option Addr) (h : Heap) : Prop := ∃ oe vs, h.get? e = some oe ∧ oe.cls = C ∧ oe.dict = d ∧ oe.data = .fields vs ∧ 1 < vs.size
abbrev xo (e : Addr) (C : Value) (d : Option Addr) : HO := .ext (XO e C d)
def Fl (n : Nat) (e : Addr) (C : Value) (d : Option Addr) (mk : Value) (H : Hp) (h : Heap) : Prop :=
  ∃ oe vs T oT ts, h.get? e = some oe ∧ oe.cls = C ∧ oe.dict = d ∧ oe.data = .fields vs ∧ vs[1]? = some (.ref T) ∧ n ≤ T ∧ T ≠ e ∧ H T = none ∧ h.get? T = some oT ∧ oT.data = .fields ts ∧ ts[3]? = some mk
def Fly (n : Nat) (e : Addr) (C : Value) (d : Option Addr) (H : Hp) (h : Heap) : Prop :=
  H e = some (xo e C d) ∧ ((∃ oe vs, h.get? e = some oe ∧ oe.cls = C ∧ oe.dict = d ∧ oe.data = .fields vs ∧ vs[1]? = some .none) ∨ Fl n e C d .none H h)
structure Nt (n : Nat) (fs ch : List Addr) (e : Addr) (H : Hp) (h h' : Heap) : Prop where
  keep : ∀ b o, h.get? b = some o → b ≠ e → b ∉ fs → b ∉ ch → h'.get? b = some o
  slot : ∀ b o, h.get? b = some o → b ≠ e → b ∉ ch → ∃ sl, h'.get? b = some { o with slots := sl }
  there : ∀ b o, h.get? b = some o → ∃ o', h'.get? b = some o'
  old : ∀ b ∈ ch, n ≤ b ∧ H b = none ∧ ∃ o vs, h.get? b = some o ∧ o.data = .fields vs
section
variable {M : Model} {A : Around} {E : Value → Shared → Prop} {s : Shared} {n : Nat} {e L : Addr} {C : Value} {d : Option Addr} {H : Hp} {base : Heap} {env : Env} {outer : List Env}
end
section
variable {X : Cx} {pins : List (Addr × Obj)} {σ : St} {H : Hp} {s : Shared} {n : Nat} {e : Addr} {C : Value} {d : Option Addr} {A : Around} {E : Value → Shared → Prop} {fs ch : List Addr} {h h' : Heap}
end
def CXe (P : Program) (w : World) : CXT := fun outer H s E x s' => ∃ e C d H', x = .ref e ∧ s'.os = s.os ∧ AllBare s'.gens ∧ Un (frs outer) [] H H' s.heap s'.heap ∧ HOk P w H' s'.heap ∧ Fly s.heap.objs.size e C d H' s'.heap ∧ s.heap.objs.size ≤ s'.heap.objs.size ∧ E x d H'
section
variable {X : Cx} {pins : List (Addr × Obj)} {σ : St} {H : Hp} {s s' : Shared} {E E' : XK}
def XP (X : Cx) (pins : List (Addr × Obj)) (σ : St) (E : XK) (x : Value) (s' : Shared) : Prop := ∃ n e C d H', x = .ref e ∧ Inv X pins σ H' s' ∧ Fly n e C d H' s'.heap ∧ X.s₀.heap.objs.size ≤ n ∧ n ≤ s'.heap.objs.size ∧ (∀ p ∈ X.pn ++ pins, p.1 < n) ∧ E x d H'
end
section
variable {P : Program} {w : World} {K : PySem.W.Frag} {mg : Str → Option Value} {base : Heap} {N : List Str} {qual : Str} {scope : Scope} {f : Addr} {cd : Value} {A : Around} {outer : List Env} {s : Shared} {H : Hp} {E E' : XK}
end
end L2

namespace L2
open PySem PySem.Spec PyProof.Rows
abbrev TEX := St → Hp → VK → XK → Prop
abbrev TSX := Ends → (St → XK) → St → Hp → Prop
section
variable {X : Cx} {k : Nat} {f : Addr} {fd : FuncData} {ps : List Str} {sp : Sp} {dvs : List V} {ds : List Value} {x : Str} {p pos : Pos} {e : Expr} {es : List Expr} {t : TA} {te : TE} {tx : TEX} {st : Stmt} {rest : List Stmt} {u u' : TSX}
variable {pins : List (Addr × Obj)} {σ : St} {H : Hp} {s : Shared} {a : Addr}
end
end L2

namespace PySem.W
open PySem PySem.Calls PyProof.Rows Builtin Builtin.ObjectAttr
def excTail : List Value → Bool
  | .ref _ :: r => excTail r
  | [.type a, .type b, .type c, .type d] => a == "ValueError" && b == "Exception" && c == "BaseException" && d == "object"
  | _ => false
def excOver (K : Frag) (C : Addr) : Bool := (clsIn K C).any fun cd => excTail cd.mro
section
variable {prog : Program} {w : World} {A : Around} {s : Shared} {K : Frag} {x C : Addr} {R : Result → Shared → Prop}
end
end PySem.W
namespace PySem.Xc
open PySem
section
variable {M : Model} {prog : Program} {w : World} {A : Around} {E : Value → Shared → Prop} {h : Heap} {g : Array GenState} {d : Drawn} {t : Nat} {os : OsState} {R : Result → Shared → Prop}
variable {nm q : Str} {C N : Addr} {bs bm bmB : List Value} {hdct : Bool} {sn : List Str} {sub : List Value} {ab : Bool} {col : Option Bool} {dd : Option Addr} {k0 k1 k2 k3 k5 : Option Value} {B newId initId : String}
end
end PySem.Xc

namespace PySem.W
open PySem
def xcIn (K : Frag) (C : Addr) : Bool := match K.lookup C with
  | some ⟨.type "type", _, .cls cd, sl⟩ => (match cd.mro, sl.toList with
    | .ref C' :: bm, [_, _, _, _, some (.builtin n), _] => C' == C && !cd.hasDel && excTail bm && n == "ValueError.__new__" && cd.hasDict
    | _, _ => false)
  | _ => false
end PySem.W
namespace PySem.Xc
open PySem
section
variable {M : Model} {A : Around} {E : Value → Shared → Prop} {s : Shared} {env : Env}
variable {nm q : Str} {C N : Addr} {bs bm : List Value} {hdct : Bool} {sn : List Str} {sub : List Value} {ab : Bool} {col : Option Bool} {dd : Option Addr} {k0 k1 k2 k3 k5 : Option Value} {newId : String}
end
section
open PySem.W
variable {prog : Program} {w : World} {A : Around} {E : Value → Shared → Prop} {K : Frag} {x C : Addr} {ox : Obj} {od : Option Obj} {name : Str} {expr fill : Bool} {h : Heap} {g : Array GenState} {d : Drawn} {t : Nat} {os : OsState}
end
end PySem.Xc
namespace L2
open PySem PySem.Spec PyProof.Rows
def XN (e : Addr) (C : Value) (d : Option Addr) (h : Heap) : Prop := ∃ t1, h.get? e = some { cls := C, dict := d, data := .fields #[.ref t1, .none, .none, .none, .bool false, .none] }
abbrev xn (e : Addr) (C : Value) (d : Option Addr) : HO := .ext (XN e C d)
section
variable {X : Cx} {pins : List (Addr × Obj)} {σ : St} {H : Hp} {s : Shared} {k : Nat} {f C : Addr} {fd : FuncData} {ps : List Str} {sp : Sp} {x : Str} {p pos : Pos} {e : Expr} {es : List Expr} {t : TA} {te : TE}
structure XBase (K : PySem.W.Frag) (B : Addr) : Prop where
  ga : PySem.W.specialIn K (.ref B) "__getattribute__" = some (some (.builtin "type.__getattribute__"))
  rd : PySem.W.readsIn K B (.type "type") = true
  fd : PySem.W.findCls K (.ref B) (.type "type") "__init__" = some (.val (.builtin "ValueError.__init__"))
  hi : PySem.W.handedIn (.builtin "ValueError.__init__") = true
structure XSet (K : PySem.W.Frag) (C : Addr) (f : Str) : Prop where
  st : PySem.W.findIn K (.ref C) "__setattr__" = some (some (.builtin "object.__setattr__"))
  ov : PySem.W.excOver K C = true
  tk : PySem.W.takerIn K C f = some none
  hd : (PySem.W.clsIn K C).any (·.hasDict) = true
end
end L2

namespace PySem.Xc
open PySem PySem.W
section
variable {prog : Program} {w : World} {A : Around} {E : Value → Shared → Prop} {K : Frag} {x C : Addr} {ox : Obj} {od : Option Obj} {name : Str} {expr fill : Bool} {h : Heap} {g : Array GenState} {d : Drawn} {t : Nat} {os : OsState}
end
structure XIs (K : Frag) (C : Addr) : Prop where
  xc : xcIn K C = true
  ga : findIn K (.ref C) "__getattribute__" = some (some (.builtin "BaseException.__getattribute__"))
  gg : findIn K (.ref C) "__getattr__" = some none
  hd : hasDictIn K C = true
  ca : findIn K (.ref C) "__class__" = some (some (.builtin "object.__class__"))
  cg : specialIn K (.builtin "object.__class__") "__get__" = some (some (.builtin "getset_descriptor.__get__"))
  ct : takesIn K (.builtin "object.__class__") = some true
  mo : mroIn K C (.type "object") = some true
end PySem.Xc
namespace L2
open PySem PySem.Spec PyProof.Rows
section
variable {X : Cx} {pins : List (Addr × Obj)} {σ : St} {H : Hp} {s : Shared} {C e d : Addr} {f : Str} {pos : Pos} {ta : TE}
def isX (H : Hp) (e C : Addr) (d : Option Addr) : Prop := H e = some (xn e (.ref C) d) ∨ H e = some (xo e (.ref C) d)
end
end L2

namespace L2
open PySem PySem.Spec PyProof.Rows
section
variable {P : Program} {w : World} {K : PySem.W.Frag} {mg : Str → Option Value} {base : Heap} {x : Str} {k : Nat} {ps N : List Str} {sp sp' : Sp} {st : Stmt}
end
section
variable {X : Cx} {x : Str} {j k : Nat} {ps : List Str} {sp : Sp} {e : Expr} {es : List Expr} {t : TA} {p pos : Pos} {E : XK}
end
end L2

namespace Att
open PySem PySem.W PySem.Calls PyProof.Rows
theorem weights {ns : List Int} (h : WData.weightAll (ns.map WData.int) ≤ 2 ^ 20) : ∀ i ∈ ns, i.natAbs.log2 < 2 ^ 20 := by
  induction ns with
  | nil => intro i hi; cases hi
  | cons n r ih =>
    rw [List.map_cons, WData.weightAll] at h
    intro i hi
    rcases List.mem_cons.mp hi with rfl | hi
    · rw [WData.weight] at h
      split at h
      · rename_i z
        have : i = 0 := beq_iff_eq.mp z
        subst this
        decide
      · omega
    · exact ih (by omega) i hi
theorem attach_callW {l : OpenLaw} {n : Nat} {q : Program} {loose : List Str} {XP : (Str → Option Value) → Heap → Prop} {YP : World → Heap → Prop} {d : DefRec}
    (hn : l.most = some n) (hdf : d.params.defaults = [])
    (call : ∀ (w : World) (s₀ s₁ : Shared) (mg mb : Str → Option Value) (fa : Addr) (o : Obj) (pm cd doc : Value) (a : Addr) (vs : List Value) (ns : List Int),
      Ground q loose [] XP w s₀ mg mb s₁.heap → YP w s₁.heap →
      s₁.heap.get? fa = some o → o.data = .func (docDef d.name d.params d.body d.scope pm cd doc) → s₁.heap.CodeRec cd d.name → mg d.name = some (.ref fa) →
      s₁.heap.get? a = some { cls := .type "list", data := .seq vs.toArray } → IntsAre vs ns → ns.length ≤ n → (∀ i ∈ ns, i.natAbs.log2 < 2 ^ 20) → s₁.gens = #[] →
      codeAny (model l.prog w) callerA (.call (.ref fa) ⟨[.ref a], []⟩) (fun r s' => r = .ok (.ret (.bool true)) ∧ OldK s₁.heap s'.heap ∧ s'.os = s₁.os ∧ AllBare s'.gens) s₁) :
    WalkO q loose XP YP l.row.toRowW d [] (fun f vs => PySem.call f vs) := by
  intro w s₀ s₁ mg mb G Y fa o pm cd doc dV kV ho hd hcd hD hmg hg args vals as hpre hlay hrd hwl hlo
  obtain rfl : dV = .none := Dflts.none hD hdf
  obtain rfl : kV = .none := Dflts.noKw hD
  obtain ⟨a, vs, ns, rfl, rfl, hobj, hints, hlen⟩ := script_of hn hpre hwl
  have hw : ∀ i ∈ ns, i.natAbs.log2 < 2 ^ 20 := by
    have hl : WData.layableAll [WData.list (ns.map WData.int)] = true := hlay
    simp only [WData.layableAll, List.all_cons, List.all_nil, Bool.and_true, WData.layable, Bool.and_eq_true, decide_eq_true_eq] at hl
    exact weights (by have := hl.2; rw [WData.weight] at this; exact this)
  refine enter_call (codeAny_mono (call w s₀ s₁ mg mb fa o pm cd doc a vs ns G Y ho (fd_plain hd) hcd hmg hobj hints hlen hw hg) fun r s' hq => ?_)
  obtain ⟨rfl, h2, h3, h4⟩ := hq
  exact ⟨.inl ⟨.bool true, .bool true, [], rfl, fun _ => rfl, .bool true, post_true l _, fun _ => ⟨List.Pairwise.nil, fun _ hm => (nomatch hm)⟩⟩, h2, h3, h4⟩
end Att
namespace L2
open PySem PySem.Spec PyProof.Rows
theorem walk_ofW {l : PySem.W.OpenLaw} {n k : Nat} {q : Program} {loose : List Str} {XP : (Str → Option Value) → Heap → Prop} {YP : World → Heap → Prop} {d : DefRec} {K : Params → PySem.W.Frag} {CX : World → CXT} {sp : World → Sp} {x : Str}
    (hn : l.most = some n) (hn2 : n ≤ sizeLine) (hdf : d.params.defaults = []) (hr : Room k callerA)
    (hY : ∀ (w : World) (h : Heap), YP w h → (K w.params).In h)
    (F : ∀ (w : World) (mg : Str → Option Value) (fa : Addr) (h : Heap), (K w.params).In h → h.Ns mainGlobals mg → mg d.name = some (.ref fa) →
      ∃ fd : FuncData, (∀ (s : Shared) (u : Value), BindsTo s fd ⟨[u], []⟩ [(x, u)]) ∧
        ∀ base : Heap, (K w.params).In base → base.Ns mainGlobals mg → FnOk l.prog w (K w.params) mg base (CX w) k fa fd [x] (sp w))
    (hsp : ∀ (w : World) (H : Hp) (a : Addr) (ns : List Int), ns.length ≤ n → (∀ i ∈ ns, i.natAbs.log2 < 2 ^ 20) → Only H → SqL (K w.params) H a (ns.map V.int) → sp w [.ref a] H (fun v _ => v = .bl true) fun _ _ _ => False)
    (hCX : ∀ (w : World) (H : Hp) (s : Shared) (e : Value) (s' : Shared), CX w [] H s (fun _ _ _ => False) e s' → False) :
    PySem.W.WalkO q loose XP YP l.row.toRowW d [] (fun f vs => PySem.call f vs) := by
  refine Att.attach_callW hn hdf fun w s₀ s₁ mg mb fa o pm cd doc a vs ns G Y ho hd hcd hmg hobj hints hlen hw hg => ?_
  have KX := hY w _ Y
  obtain ⟨fd, hb, hF⟩ := F w mg fa _ KX G.T.g hmg
  exact law_call KX G.T.g G.T.b G.T.builtins G.T.nolimit hg hobj hints (Nat.le_trans hlen hn2) hr hF hb (fun H hO hS => hsp w H a ns hlen hw hO hS) fun H e s' => hCX w H s₁ e s'
def MulOk (i j : Int) : Prop := ((-(2 ^ 64) < i ∧ i < 2 ^ 64) ∨ (-(2 ^ 64) < j ∧ j < 2 ^ 64)) ∨ i.natAbs.log2 + j.natAbs.log2 ≤ 67108864
theorem bits_le (i : Int) : Builtin.Int.intBits i ≤ i.natAbs.log2 + 1 := by
  unfold Builtin.Int.intBits
  split <;> omega
theorem MulOk.ok {i j : Int} (h : MulOk i j) : IntMulOk i j := by
  rcases h with h | h
  · exact CMul.ok h
  · unfold IntMulOk
    have h1 := bits_le i
    have h2 := bits_le j
    have h3 : Builtin.Int.intTooBig ((Builtin.Int.intBits i : Int) + (Builtin.Int.intBits j : Int)) = false := by
      unfold Builtin.Int.intTooBig
      have : (bitsLine : Int) = 134217728 := by decide
      rw [this]
      simp only [gt_iff_lt, decide_eq_false_iff_not, Int.not_lt]
      omega
    rw [h3, Bool.and_false]
    exact Bool.false_ne_true
section
variable {X : Cx}
def rMulW : R2 := fun x y H Q => match x, y with
  | .int i, .int j => MulOk i j ∧ Q (.int (i * j)) H
  | _, _ => False
theorem op_mulW : OpR X (binaryOp .Mult) (rI MulOk fun i j => .int (i * j)) := opI fun _ _ _ _ _ _ _ hc q => mul_int q hc.ok
theorem u_mulW : OpR X (binaryOp .Mult) rMulW := by
  intro pins s σ H x y v u Q I rx ry h
  cases x <;> cases y <;> first
    | exact op_mulW pins s σ H _ _ v u Q I rx ry ⟨_, _, rfl, rfl, h.1, h.2⟩
    | exact False.elim h
def rDivW : R2 := fun x y H Q => match x, y with
  | .int i, .int j => (0 < j ∧ j < 1000000000000000000000000) ∧ Q (.int (i / j)) H
  | _, _ => False
theorem log2_lt {n : Nat} (h : n < 1000000000000000000000000) : n.log2 < 9000 := by
  by_cases z : n = 0
  · subst z; decide
  · have h2 : n < 2 ^ 80 := by omega
    have := (Nat.log2_lt z).mpr h2
    omega
theorem op_divW : OpR X (binaryOp .FloorDiv) (rI (fun _ j => 0 < j ∧ j < 1000000000000000000000000) fun i j => .int (i / j)) := opI fun i j _ _ _ _ _ hc q => by
  have h1 : (0 : Int) < j := hc.1
  have h2 : j < 1000000000000000000000000 := hc.2
  exact floordiv_int (by omega) (by rw [Int.fdiv_eq_ediv_of_nonneg i (by omega)]; exact q) (.inl (PyProof.noPylong_of_log2 (log2_lt (by omega))))
theorem u_divW : OpR X (binaryOp .FloorDiv) rDivW := by
  intro pins s σ H x y v u Q I rx ry h
  cases x <;> cases y <;> first
    | exact op_divW pins s σ H _ _ v u Q I rx ry ⟨_, _, rfl, rfl, h.1, h.2⟩
    | exact False.elim h
end
end L2

namespace L3
open PySem PySem.Spec
open L2 hiding Rep RepL
open Mi (Dt Xn R okR bindR optR bindR_ok bindR_none bindR_err optR_some optR_none Rh Sl Ro EM TM AM FM IM SM Tg Out bindT setsH setsO full frz frz1 frzAt)
class Kc where
  K : PySem.W.Frag
variable [Kc]
def clK (K : PySem.W.Frag) (c : Str) : Option Addr := match PySem.W.nsIn K mainGlobals c with
  | some (some (.ref C)) => some C
  | _ => none
def SqR (K : PySem.W.Frag) (H : Hp) (a : Addr) (xs : List V) : Prop := SqL K H a xs ∨ SqT K H a xs
theorem seqT_mono {K : PySem.W.Frag} {H H' : Hp} {a : Addr} {xs : List V} (e : Same H H') (h : SqT K H a xs) : SqT K H' a xs := by
  rcases h with (h | ⟨o, h⟩) | h
  · exact .inl (.inl (e _ _ h))
  · exact .inl (.inr ⟨o, e _ _ h⟩)
  · exact .inr h
theorem seqR_mono {K : PySem.W.Frag} {H H' : Hp} {a : Addr} {xs : List V} (e : Same H H') (h : SqR K H a xs) : SqR K H' a xs := h.imp (fun z => e.seq z) fun z => seqT_mono e z
def svV : Mi.Sv → V
  | .i n => .int n
  | .s x => .str x
def swV : Mi.Sw → V
  | .non => .non
  | .bl b => .bl b
  | .int i => .int i
  | .str x => .str x
mutual
def Rep (H : Hp) : Dt → V → Prop
  | .non, v => v = .non
  | .bl b, v => v = .bl b
  | .int i, v => v = .int i
  | .str x, v => v = .str x
  | .lst ds, v => ∃ a xs, v = .ref a ∧ H a = some (.lst xs) ∧ RepL H ds xs
  | .tup ds, v => ∃ a xs, v = .ref a ∧ H a = some (.tup xs) ∧ RepL H ds xs
  | .scr ns, v => ∃ a, v = .ref a ∧ SqR Kc.K H a (ns.map V.int)
  | .exc c f d, v => ∃ e C da, v = .ref e ∧ isX H e C da ∧ clK Kc.K c = some C ∧ ((da = none ∧ f = "") ∨ ∃ a gs w, da = some a ∧ H a = some (.xd gs) ∧ gs.lookup f = some w ∧ Rep H d w)
  | .ins c fs, v => ∃ a C dx, v = .ref a ∧ clK Kc.K c = some C ∧ H a = some (.ins C dx (fs.map fun p => (p.1, svV p.2)))
  | .dct kvs, v => ∃ a, v = .ref a ∧ H a = some (.dK (kvs.map fun p => (p.1, swV p.2)))
def RepL (H : Hp) : List Dt → List V → Prop
  | [], xs => xs = []
  | d :: r, xs => ∃ x q, xs = x :: q ∧ Rep H d x ∧ RepL H r q
end
mutual
theorem Rep.mono {H H' : Hp} (s : Same H H') : ∀ {d : Dt} {v : V}, Rep H d v → Rep H' d v
  | .non, _, h => h
  | .bl _, _, h => h
  | .int _, _, h => h
  | .str _, _, h => h
  | .lst _, _, h => by obtain ⟨a, xs, e, e', r⟩ := h; exact ⟨a, xs, e, s _ _ e', RepL.mono s r⟩
  | .tup _, _, h => by obtain ⟨a, xs, e, e', r⟩ := h; exact ⟨a, xs, e, s _ _ e', RepL.mono s r⟩
  | .scr _, _, h => by obtain ⟨a, e, e'⟩ := h; exact ⟨a, e, seqR_mono s e'⟩
  | .exc _ _ _, _, h => by
    obtain ⟨a, C, da, e, e', hc, r⟩ := h
    refine ⟨a, C, da, e, e'.imp (fun z => s _ _ z) fun z => s _ _ z, hc, r.imp (fun z => z) ?_⟩
    rintro ⟨b, gs, w, h1, h2, h3, h4⟩
    exact ⟨b, gs, w, h1, s _ _ h2, h3, Rep.mono s h4⟩
  | .ins _ _, _, h => by obtain ⟨a, C, dx, e, hc, h1⟩ := h; exact ⟨a, C, dx, e, hc, s _ _ h1⟩
  | .dct _, _, h => by obtain ⟨a, e, h1⟩ := h; exact ⟨a, e, s _ _ h1⟩
theorem RepL.mono {H H' : Hp} (s : Same H H') : ∀ {ds : List Dt} {xs : List V}, RepL H ds xs → RepL H' ds xs
  | [], _, h => h
  | _ :: _, _, h => by obtain ⟨x, q, e, r, t⟩ := h; exact ⟨x, q, e, Rep.mono s r, RepL.mono s t⟩
end
theorem RepL.length {H : Hp} : ∀ {ds : List Dt} {xs : List V}, RepL H ds xs → xs.length = ds.length
  | [], _, h => by cases h; rfl
  | _ :: _, _, h => by obtain ⟨x, q, e, r, t⟩ := h; subst e; simp [RepL.length t]
mutual
def conv : Dt → L2.Dat
  | .non => .non
  | .bl b => .bl b
  | .int i => .int i
  | .str x => .str x
  | .lst ds => .lst (convL ds)
  | .tup ds => .tup (convL ds)
  | .scr _ => .non
  | .exc _ _ _ => .non
  | .ins _ _ => .non
  | .dct _ => .non
def convL : List Dt → List L2.Dat
  | [] => []
  | d :: r => conv d :: convL r
end
mutual
theorem conv_dep : ∀ {d : Dt}, d.dep ≤ 40 → (conv d).dep ≤ d.dep
  | .non, _ => Nat.le_refl _
  | .bl _, _ => Nat.le_refl _
  | .int _, _ => Nat.le_refl _
  | .str _, _ => Nat.le_refl _
  | .lst ds, h => by rw [Dt.dep] at h ⊢; rw [conv, L2.Dat.dep]; have := conv_depL (ds := ds) (by omega); omega
  | .tup ds, h => by rw [Dt.dep] at h ⊢; rw [conv, L2.Dat.dep]; have := conv_depL (ds := ds) (by omega); omega
  | .scr _, h => by rw [Dt.dep] at h; omega
  | .exc _ _ _, h => by rw [Dt.dep] at h; omega
  | .ins _ _, h => by rw [Dt.dep] at h; omega
  | .dct _, h => by rw [Dt.dep] at h; omega
theorem conv_depL : ∀ {ds : List Dt}, Dt.depL ds ≤ 40 → L2.Dat.depL (convL ds) ≤ Dt.depL ds
  | [], _ => Nat.le_refl _
  | d :: r, h => by
    rw [Dt.depL] at h ⊢
    rw [convL, L2.Dat.depL]
    have h1 := conv_dep (d := d) (by omega)
    have h2 := conv_depL (ds := r) (by omega)
    omega
end
mutual
theorem conv_rep {H : Hp} : ∀ {d : Dt} {v : V}, d.dep ≤ 40 → Rep H d v → L2.Rep H (conv d) v
  | .non, _, _, h => h
  | .bl _, _, _, h => h
  | .int _, _, _, h => h
  | .str _, _, _, h => h
  | .lst ds, _, hd, h => by obtain ⟨a, xs, e, e', r⟩ := h; exact ⟨a, xs, e, e', conv_repL (by rw [Dt.dep] at hd; omega) r⟩
  | .tup ds, _, hd, h => by obtain ⟨a, xs, e, e', r⟩ := h; exact ⟨a, xs, e, e', conv_repL (by rw [Dt.dep] at hd; omega) r⟩
  | .scr _, _, h, _ => by rw [Dt.dep] at h; omega
  | .exc _ _ _, _, h, _ => by rw [Dt.dep] at h; omega
  | .ins _ _, _, h, _ => by rw [Dt.dep] at h; omega
  | .dct _, _, h, _ => by rw [Dt.dep] at h; omega
theorem conv_repL {H : Hp} : ∀ {ds : List Dt} {xs : List V}, Dt.depL ds ≤ 40 → RepL H ds xs → L2.RepL H (convL ds) xs
  | [], _, _, h => h
  | d :: r, _, hd, h => by
    rw [Dt.depL] at hd
    obtain ⟨x, q, e, a, b⟩ := h
    exact ⟨x, q, e, conv_rep (by omega) a, conv_repL (by omega) b⟩
end
mutual
theorem conv_eq : ∀ {d e : Dt}, d.dep ≤ 40 → e.dep ≤ 40 → L2.Dat.eq (conv d) (conv e) = Dt.eq d e
  | .scr _, _, h, _ => by rw [Dt.dep] at h; omega
  | .exc _ _ _, _, h, _ => by rw [Dt.dep] at h; omega
  | .ins _ _, _, h, _ => by rw [Dt.dep] at h; omega
  | .dct _, _, h, _ => by rw [Dt.dep] at h; omega
  | .lst ds, e, h, h' => by
    rw [Dt.dep] at h
    cases e with
    | lst es => rw [Dt.dep] at h'; rw [conv, conv, L2.Dat.eq, Dt.eq]; exact conv_eqL (by omega) (by omega)
    | scr _ => rw [Dt.dep] at h'; omega
    | exc _ _ _ => rw [Dt.dep] at h'; omega
    | ins _ _ => rw [Dt.dep] at h'; omega
    | dct _ => rw [Dt.dep] at h'; omega
    | _ => simp [conv, L2.Dat.eq, Dt.eq]
  | .tup ds, e, h, h' => by
    rw [Dt.dep] at h
    cases e with
    | tup es => rw [Dt.dep] at h'; rw [conv, conv, L2.Dat.eq, Dt.eq]; exact conv_eqL (by omega) (by omega)
    | scr _ => rw [Dt.dep] at h'; omega
    | exc _ _ _ => rw [Dt.dep] at h'; omega
    | ins _ _ => rw [Dt.dep] at h'; omega
    | dct _ => rw [Dt.dep] at h'; omega
    | _ => simp [conv, L2.Dat.eq, Dt.eq]
  | .non, e, _, h' => by
    cases e with
    | scr _ => rw [Dt.dep] at h'; omega
    | exc _ _ _ => rw [Dt.dep] at h'; omega
    | ins _ _ => rw [Dt.dep] at h'; omega
    | dct _ => rw [Dt.dep] at h'; omega
    | _ => simp [conv, L2.Dat.eq, Dt.eq]
  | .bl _, e, _, h' => by
    cases e with
    | scr _ => rw [Dt.dep] at h'; omega
    | exc _ _ _ => rw [Dt.dep] at h'; omega
    | ins _ _ => rw [Dt.dep] at h'; omega
    | dct _ => rw [Dt.dep] at h'; omega
    | _ => simp [conv, L2.Dat.eq, Dt.eq]
  | .int _, e, _, h' => by
    cases e with
    | scr _ => rw [Dt.dep] at h'; omega
    | exc _ _ _ => rw [Dt.dep] at h'; omega
    | ins _ _ => rw [Dt.dep] at h'; omega
    | dct _ => rw [Dt.dep] at h'; omega
    | _ => simp [conv, L2.Dat.eq, Dt.eq]
  | .str _, e, _, h' => by
    cases e with
    | scr _ => rw [Dt.dep] at h'; omega
    | exc _ _ _ => rw [Dt.dep] at h'; omega
    | ins _ _ => rw [Dt.dep] at h'; omega
    | dct _ => rw [Dt.dep] at h'; omega
    | _ => simp [conv, L2.Dat.eq, Dt.eq]
theorem conv_eqL : ∀ {ds es : List Dt}, Dt.depL ds ≤ 40 → Dt.depL es ≤ 40 → L2.Dat.eqL (convL ds) (convL es) = Dt.eqL ds es
  | [], [], _, _ => by simp [convL, L2.Dat.eqL, Dt.eqL]
  | [], _ :: _, _, _ => by simp [convL, L2.Dat.eqL, Dt.eqL]
  | _ :: _, [], _, _ => by simp [convL, L2.Dat.eqL, Dt.eqL]
  | d :: r, e :: t, h, h' => by
    rw [Dt.depL] at h h'
    rw [convL, convL, L2.Dat.eqL, Dt.eqL, conv_eq (by omega) (by omega), conv_eqL (by omega) (by omega)]
end
theorem repL_at {G : Hp} : ∀ {ds : List Dt} {xs : List V} {q : Nat} {d : Dt} {x : V}, RepL G ds xs → ds[q]? = some d → xs[q]? = some x → Rep G d x
  | [], _, _, _, _, _, h, _ => by simp at h
  | d :: r, xs, 0, e, y, h, h1, h2 => by
    obtain ⟨x, t, rfl, a, b⟩ := h
    simp at h1 h2; subst h1; subst h2; exact a
  | d :: r, xs, q + 1, e, y, h, h1, h2 => by
    obtain ⟨x, t, rfl, a, b⟩ := h
    exact repL_at b (by simpa using h1) (by simpa using h2)
theorem repL_of {G : Hp} : ∀ {ds : List Dt} {xs : List V}, xs.length = ds.length → (∀ (q : Nat) (d : Dt) (x : V), ds[q]? = some d → xs[q]? = some x → Rep G d x) → RepL G ds xs
  | [], [], _, _ => rfl
  | [], _ :: _, h, _ => by simp at h
  | _ :: _, [], h, _ => by simp at h
  | d :: r, x :: t, h, k => ⟨x, t, rfl, k 0 d x rfl rfl, repL_of (by simpa using h) fun q e y h1 h2 => k (q + 1) e y (by simpa using h1) (by simpa using h2)⟩
theorem depL_le {n : Nat} : ∀ {ds : List Dt}, Dt.depL ds ≤ n → ∀ {q : Nat} {d : Dt}, ds[q]? = some d → d.dep ≤ n
  | [], _, _, _, h => by simp at h
  | e :: r, h, 0, d, h1 => by simp at h1; subst h1; rw [Dt.depL] at h; omega
  | e :: r, h, q + 1, d, h1 => by rw [Dt.depL] at h; exact depL_le (ds := r) (by omega) (q := q) (by simpa using h1)
theorem Rep.scalar {G G2 : Hp} {d : Dt} {v : V} (h : Rep G d v) (hd : d.dep = 0) : Rep G2 d v := by
  cases d with
  | lst ds => rw [Dt.dep] at hd; omega
  | tup ds => rw [Dt.dep] at hd; omega
  | scr ns => rw [Dt.dep] at hd; omega
  | exc _ _ _ => rw [Dt.dep] at hd; omega
  | ins _ _ => rw [Dt.dep] at hd; omega
  | dct _ => rw [Dt.dep] at hd; omega
  | _ => exact h
structure Kids (P : (Addr → Prop) → Dt → V → Prop) (S : Addr → Prop) (a : Addr) (ds : List Dt) (xs : List V) (T : Nat → Addr → Prop) : Prop where
  len : xs.length = ds.length
  own : ∀ (q : Nat) (d : Dt) (x : V), ds[q]? = some d → xs[q]? = some x → P (T q) d x
  top : S a
  out : ∀ q, ¬ T q a
  dis : ∀ q r b, T q b → T r b → q = r
  sub : ∀ q b, T q b → S b
def Own (G H : Hp) : Nat → (Addr → Prop) → Dt → V → Prop
  | 0, _, d, v => Rep G d v
  | n + 1, S, d, v => match d with
    | .lst ds => ∃ a xs T, v = .ref a ∧ H a = some (.lst xs) ∧ Kids (Own G H n) S a ds xs T
    | .tup ds => ∃ a xs T, v = .ref a ∧ H a = some (.tup xs) ∧ Kids (Own G H n) S a ds xs T
    | .dct kvs => ∃ a, v = .ref a ∧ H a = some (.dK (kvs.map fun p => (p.1, swV p.2))) ∧ S a
    | d => Rep G d v
theorem Kids.imp {P P' : (Addr → Prop) → Dt → V → Prop} {S S' : Addr → Prop} {a : Addr} {ds : List Dt} {xs : List V} {T : Nat → Addr → Prop} (k : Kids P S a ds xs T)
    (h : ∀ q d x, ds[q]? = some d → P (T q) d x → P' (T q) d x) (hs : ∀ b, S b → S' b) : Kids P' S' a ds xs T :=
  ⟨k.len, fun q d x h1 h2 => h q d x h1 (k.own q d x h1 h2), hs _ k.top, k.out, k.dis, fun q b t => hs _ (k.sub q b t)⟩
theorem Own.mono {G G' H H' : Hp} (sG : Same G G') (sH : Same H H') : ∀ {n : Nat} {S : Addr → Prop} {d : Dt} {v : V}, Own G H n S d v → Own G' H' n S d v
  | 0, S, d, v, h => Rep.mono sG h
  | n + 1, S, d, v, h => by
    cases d with
    | lst ds => obtain ⟨a, xs, T, e, ha, k⟩ := h; exact ⟨a, xs, T, e, sH _ _ ha, k.imp (fun _ _ _ _ p => Own.mono sG sH p) fun _ z => z⟩
    | tup ds => obtain ⟨a, xs, T, e, ha, k⟩ := h; exact ⟨a, xs, T, e, sH _ _ ha, k.imp (fun _ _ _ _ p => Own.mono sG sH p) fun _ z => z⟩
    | dct kvs => obtain ⟨a, e, ha, hs⟩ := h; exact ⟨a, e, sH _ _ ha, hs⟩
    | _ => exact Rep.mono sG h
theorem Own.sub {G H : Hp} {n : Nat} {S S' : Addr → Prop} {d : Dt} {v : V} (h : Own G H n S d v) (hs : ∀ b, S b → S' b) : Own G H n S' d v := by
  cases n with
  | zero => exact h
  | succ n =>
    cases d with
    | lst ds => obtain ⟨a, xs, T, e, ha, k⟩ := h; exact ⟨a, xs, T, e, ha, k.imp (fun _ _ _ _ p => p) hs⟩
    | tup ds => obtain ⟨a, xs, T, e, ha, k⟩ := h; exact ⟨a, xs, T, e, ha, k.imp (fun _ _ _ _ p => p) hs⟩
    | dct kvs => obtain ⟨a, e, ha, h2⟩ := h; exact ⟨a, e, ha, hs _ h2⟩
    | _ => exact h
theorem Own.rep {G H J : Hp} (sG : Same G J) : ∀ {n : Nat} {S : Addr → Prop} {d : Dt} {v : V}, Own G H n S d v → (∀ a o, S a → H a = some o → J a = some o) → Rep J d v
  | 0, S, d, v, h, _ => Rep.mono sG h
  | n + 1, S, d, v, h, hj => by
    cases d with
    | lst ds => obtain ⟨a, xs, T, e, ha, k⟩ := h; exact ⟨a, xs, e, hj _ _ k.top ha, repL_of k.len fun q d x h1 h2 => Own.rep sG (k.own q d x h1 h2) fun b o t hb => hj b o (k.sub q b t) hb⟩
    | tup ds => obtain ⟨a, xs, T, e, ha, k⟩ := h; exact ⟨a, xs, e, hj _ _ k.top ha, repL_of k.len fun q d x h1 h2 => Own.rep sG (k.own q d x h1 h2) fun b o t hb => hj b o (k.sub q b t) hb⟩
    | dct kvs => obtain ⟨a, e, ha, hs⟩ := h; exact ⟨a, e, hj _ _ hs ha⟩
    | _ => exact Rep.mono sG h
theorem Own.at {G G2 H : Hp} : ∀ {n k : Nat} {S : Addr → Prop} {d : Dt} {v : V}, Own G H n S d v → d.dep ≤ n → d.dep ≤ k → n < 1000 → Own G2 H k S d v
  | n, k, S, d, v, h, hn, hk, hz => by
    cases d with
    | lst ds =>
      rw [Dt.dep] at hn hk
      cases n with
      | zero => omega
      | succ n =>
        cases k with
        | zero => omega
        | succ k =>
          obtain ⟨a, xs, T, e, ha, kd⟩ := h
          refine ⟨a, xs, T, e, ha, kd.imp (fun q d x h1 p => ?_) fun _ z => z⟩
          exact Own.at p (depL_le (by omega) h1) (depL_le (by omega) h1) (by omega)
    | tup ds =>
      rw [Dt.dep] at hn hk
      cases n with
      | zero => omega
      | succ n =>
        cases k with
        | zero => omega
        | succ k =>
          obtain ⟨a, xs, T, e, ha, kd⟩ := h
          refine ⟨a, xs, T, e, ha, kd.imp (fun q d x h1 p => ?_) fun _ z => z⟩
          exact Own.at p (depL_le (by omega) h1) (depL_le (by omega) h1) (by omega)
    | non => cases n <;> cases k <;> exact h
    | bl b => cases n <;> cases k <;> exact h
    | int i => cases n <;> cases k <;> exact h
    | str x => cases n <;> cases k <;> exact h
    | scr ns => rw [Dt.dep] at hn; omega
    | exc _ _ _ => rw [Dt.dep] at hn; omega
    | ins _ _ => rw [Dt.dep] at hn; omega
    | dct _ => rw [Dt.dep] at hn; omega
termination_by n => n
theorem Own.scalar {G H G2 H2 : Hp} {n k : Nat} {S S2 : Addr → Prop} {d : Dt} {v : V} (h : Own G H n S d v) (hd : d.dep = 0) : Own G2 H2 k S2 d v := by
  cases d with
  | lst ds => rw [Dt.dep] at hd; omega
  | tup ds => rw [Dt.dep] at hd; omega
  | non => cases n <;> cases k <;> exact h
  | bl b => cases n <;> cases k <;> exact h
  | int i => cases n <;> cases k <;> exact h
  | str x => cases n <;> cases k <;> exact h
  | scr ns => rw [Dt.dep] at hd; omega
  | exc _ _ _ => rw [Dt.dep] at hd; omega
  | ins _ _ => rw [Dt.dep] at hd; omega
  | dct _ => rw [Dt.dep] at hd; omega
theorem own_of {G H : Hp} {n : Nat} {S : Addr → Prop} {d : Dt} {v : V} (h : Rep G d v) (hd : d.dep = 0) : Own G H n S d v := Own.scalar (n := 0) (G := G) (H := H) (S := S) h hd
theorem Own.upd {G H : Hp} {p : Addr} {o : HO} : ∀ {n : Nat} {S : Addr → Prop} {d : Dt} {v : V}, Own G H n S d v → ¬ S p → Own G (upd H p o) n S d v
  | 0, S, d, v, h, _ => h
  | n + 1, S, d, v, h, hp => by
    cases d with
    | lst ds =>
      obtain ⟨a, xs, T, e, ha, k⟩ := h
      have hap : a ≠ p := fun z => hp (z ▸ k.top)
      exact ⟨a, xs, T, e, (upd_ne hap).trans ha, k.imp (fun q _ _ _ w => Own.upd w fun z => hp (k.sub q _ z)) fun _ z => z⟩
    | tup ds =>
      obtain ⟨a, xs, T, e, ha, k⟩ := h
      have hap : a ≠ p := fun z => hp (z ▸ k.top)
      exact ⟨a, xs, T, e, (upd_ne hap).trans ha, k.imp (fun q _ _ _ w => Own.upd w fun z => hp (k.sub q _ z)) fun _ z => z⟩
    | dct kvs =>
      obtain ⟨a, e, ha, hs⟩ := h
      have hap : a ≠ p := fun z => hp (z ▸ hs)
      exact ⟨a, e, (upd_ne hap).trans ha, hs⟩
    | _ => exact h
structure Ext (G H G' H' : Hp) : Prop where
  g : Same G G'
  h : Same H H'
  in' : Same G' H'
  old : ∀ b, H b ≠ none → G' b = G b
theorem Ext.refl {G H : Hp} (s : Same G H) : Ext G H G H := ⟨Same.refl _, Same.refl _, s, fun _ _ => rfl⟩
theorem _root_.L2.Same.some {H H' : Hp} (s : Same H H') {b : Addr} (h : H b ≠ Option.none) : H' b ≠ Option.none := by
  cases e : H b with
  | none => exact absurd e h
  | some o => rw [s _ _ e]; simp
theorem Ext.trans {G H G1 H1 G2 H2 : Hp} (a : Ext G H G1 H1) (b : Ext G1 H1 G2 H2) : Ext G H G2 H2 :=
  ⟨a.g.trans b.g, a.h.trans b.h, b.in', fun c hc => (b.old c (a.h.some hc)).trans (a.old c hc)⟩
structure Fr (G H G' H' : Hp) (S : Addr → Prop) : Prop where
  ext : Ext G H G' H'
  new : ∀ a, S a → H a = none ∧ G' a = none ∧ H' a ≠ none
open Classical in
noncomputable def over (G H : Hp) (S : Addr → Prop) : Hp := fun b => if S b then H b else G b
theorem over_in {G H : Hp} {S : Addr → Prop} {a : Addr} (h : S a) : over G H S a = H a := by unfold over; rw [if_pos h]
theorem over_out {G H : Hp} {S : Addr → Prop} {a : Addr} (h : ¬ S a) : over G H S a = G a := by unfold over; rw [if_neg h]
theorem over_same {G H : Hp} {S : Addr → Prop} (s : Same G H) : Same G (over G H S) ∧ Same (over G H S) H := by
  constructor
  · intro b o e
    by_cases z : S b
    · rw [over_in z]; exact s _ _ e
    · rw [over_out z]; exact e
  · intro b o e
    by_cases z : S b
    · rw [over_in z] at e; exact e
    · rw [over_out z] at e; exact s _ _ e
theorem Fr.frz {G H G' H' : Hp} {S : Addr → Prop} {n : Nat} {d : Dt} {v : V} (f : Fr G H G' H' S) (o : Own G' H' n S d v) : Ext G H (over G' H' S) H' ∧ Rep (over G' H' S) d v := by
  obtain ⟨s1, s2⟩ := over_same (S := S) f.ext.in'
  refine ⟨⟨f.ext.g.trans s1, f.ext.h, s2, fun b hb => ?_⟩, o.rep s1 fun a u ha e => by rw [over_in ha]; exact e⟩
  have z : ¬ S b := fun z => hb (f.new b z).1
  rw [over_out z]; exact f.ext.old b hb
structure View (G : Hp) (σ : St) (ρ : Rh) : Prop where
  len : ρ.length = σ.length
  «at» : ∀ (i : Nat) (d : Dt), ρ[i]? = some (some d) → ∃ v, σ[i]? = some (some v) ∧ Rep G d v
theorem View.mono {G G' : Hp} {σ : St} {ρ : Rh} (s : Same G G') (h : View G σ ρ) : View G' σ ρ := ⟨h.len, fun i d e => let ⟨v, a, b⟩ := h.at i d e; ⟨v, a, Rep.mono s b⟩⟩
def XRep (mg : Str → Option Value) (x : Xn) (c : Value) (da : Option Addr) (G H : Hp) : Prop :=
  ∃ e C, c = .ref e ∧ G e = some (xo e (.ref C) da) ∧ clK Kc.K x.cls = some C ∧ ((da = none ∧ x.f = "") ∨ ∃ a gs w, da = some a ∧ G a = some (.xd gs) ∧ gs.lookup x.f = some w ∧ Rep G x.d w)
def PostE (mg : Str → Option Value) (E : XK) (G H : Hp) (n : Nat) (r : R Dt) (Q : VK) : Prop := match r with
  | none => False
  | some (.error x) => ∀ c da G' H', Ext G H G' H' → XRep mg x c da G' H' → E c da H'
  | some (.ok d) => ∀ v G' H' S, Fr G H G' H' S → Own G' H' n S d v → Q v H'
def PostT (mg : Str → Option Value) (E : XK) (G H : Hp) (r : R Bool) (Q : Bool → Hp → Prop) : Prop := match r with
  | none => False
  | some (.error x) => ∀ c da G' H', Ext G H G' H' → XRep mg x c da G' H' → E c da H'
  | some (.ok b) => ∀ H', Same H H' → Q b H'
structure OwnA (G H : Hp) (n : Nat) (S : Addr → Prop) (ds : List Dt) (xs : List V) (T : Nat → Addr → Prop) : Prop where
  len : xs.length = ds.length
  own : ∀ (q : Nat) (d : Dt) (x : V), ds[q]? = some d → xs[q]? = some x → Own G H n (T q) d x
  dis : ∀ q r b, T q b → T r b → q = r
  sub : ∀ q b, T q b → S b
def PostA (mg : Str → Option Value) (E : XK) (G H : Hp) (n : Nat) (r : R (List Dt)) (Q : List V → Hp → Prop) : Prop := match r with
  | none => False
  | some (.error x) => ∀ c da G' H', Ext G H G' H' → XRep mg x c da G' H' → E c da H'
  | some (.ok ds) => ∀ vs G' H' S T, Fr G H G' H' S → OwnA G' H' n S ds vs T → Q vs H'
def DE (mg : Str → Option Value) (E : XK) (t : TE) (m : EM) (n : Nat) : Prop := ∀ (G H : Hp) (σ : St) (ρ : Rh) (Q : VK), Same G H → View G σ ρ → PostE mg E G H n (m ρ) Q → t σ H Q
def DT (mg : Str → Option Value) (E : XK) (t : TT) (m : TM) : Prop := ∀ (G H : Hp) (σ : St) (ρ : Rh) (Q : Bool → Hp → Prop), Same G H → View G σ ρ → PostT mg E G H (m ρ) Q → t σ H Q
def DA (mg : Str → Option Value) (E : XK) (t : TA) (m : AM) (n : Nat) : Prop := ∀ (G H : Hp) (σ : St) (ρ : Rh) (Q : List V → Hp → Prop), Same G H → View G σ ρ → PostA mg E G H n (m ρ) Q → t σ H Q
structure Err (mg : Str → Option Value) (E : XK) (G H : Hp) {β : Type} (P : R β → Prop) : Prop where
  no : P none → False
  er : ∀ x, P (some (.error x)) → ∀ c da G' H', Ext G H G' H' → XRep mg x c da G' H' → E c da H'
theorem Ext.same {G H H' : Hp} (s : Same G H) (h : Same H H') : Ext G H G H' := ⟨Same.refl _, h, s.trans h, fun _ _ => rfl⟩
theorem Err.from {mg : Str → Option Value} {E : XK} {G H G' H' : Hp} {β : Type} {P : R β → Prop} (e : Err mg E G H P) (x : Ext G H G' H') : Err mg E G' H' P := ⟨e.no, fun y p c da G2 H2 z w => e.er y p c da G2 H2 (x.trans z) w⟩
section
variable {mg : Str → Option Value} {E : XK} {n : Nat}
theorem errE {G H : Hp} {Q : VK} : Err mg E G H (fun r => PostE mg E G H n r Q) := ⟨fun h => h, fun _ h => h⟩
theorem errT {G H : Hp} {Q : Bool → Hp → Prop} : Err mg E G H (fun r => PostT mg E G H r Q) := ⟨fun h => h, fun _ h => h⟩
theorem errA {G H : Hp} {Q : List V → Hp → Prop} : Err mg E G H (fun r => PostA mg E G H n r Q) := ⟨fun h => h, fun _ h => h⟩
theorem DE.step {β : Type} {t : TE} {m : EM} (D : DE mg E t m n) {G H : Hp} {σ : St} {ρ : Rh} {Q : VK} {P : R β → Prop} {f : Dt → R β} (hE : Err mg E G H P) (s : Same G H) (w : View G σ ρ) (p : P (bindR (m ρ) f))
    (h : ∀ d v G' H' S, m ρ = okR d → Fr G H G' H' S → Own G' H' n S d v → P (f d) → Q v H') : t σ H Q := by
  refine D G H σ ρ Q s w ?_
  cases e : m ρ with
  | none => rw [e] at p; exact hE.no p
  | some r =>
    rw [e] at p
    cases r with
    | error x => exact hE.er x p
    | ok d => exact fun v G' H' S fr o => h d v G' H' S e fr o p
theorem DT.step {β : Type} {t : TT} {m : TM} (D : DT mg E t m) {G H : Hp} {σ : St} {ρ : Rh} {Q : Bool → Hp → Prop} {P : R β → Prop} {f : Bool → R β} (hE : Err mg E G H P) (s : Same G H) (w : View G σ ρ) (p : P (bindR (m ρ) f))
    (h : ∀ b H', m ρ = okR b → Same H H' → P (f b) → Q b H') : t σ H Q := by
  refine D G H σ ρ Q s w ?_
  cases e : m ρ with
  | none => rw [e] at p; exact hE.no p
  | some r =>
    rw [e] at p
    cases r with
    | error x => exact hE.er x p
    | ok b => exact fun H' sH => h b H' e sH p
theorem DA.step {β : Type} {t : TA} {m : AM} (D : DA mg E t m n) {G H : Hp} {σ : St} {ρ : Rh} {Q : List V → Hp → Prop} {P : R β → Prop} {f : List Dt → R β} (hE : Err mg E G H P) (s : Same G H) (w : View G σ ρ) (p : P (bindR (m ρ) f))
    (h : ∀ ds vs G' H' S T, m ρ = okR ds → Fr G H G' H' S → OwnA G' H' n S ds vs T → P (f ds) → Q vs H') : t σ H Q := by
  refine D G H σ ρ Q s w ?_
  cases e : m ρ with
  | none => rw [e] at p; exact hE.no p
  | some r =>
    rw [e] at p
    cases r with
    | error x => exact hE.er x p
    | ok ds => exact fun vs G' H' S T fr o => h ds vs G' H' S T e fr o p
theorem PostE.from {G H G' H' : Hp} {Q : VK} {r : R Dt} (p : PostE mg E G H n r Q) (x : Ext G H G' H') : PostE mg E G' H' n r Q := by
  cases r with
  | none => exact p
  | some r =>
    cases r with
    | error y => exact fun c da G2 H2 z w => p c da G2 H2 (x.trans z) w
    | ok d =>
      exact fun v G2 H2 S fr o => p v G2 H2 S ⟨x.trans fr.ext, fun a ha => ⟨x.h.free (fr.new a ha).1, (fr.new a ha).2⟩⟩ o
theorem PostT.from {G H G' H' : Hp} {Q : Bool → Hp → Prop} {r : R Bool} (p : PostT mg E G H r Q) (x : Ext G H G' H') : PostT mg E G' H' r Q := by
  cases r with
  | none => exact p
  | some r =>
    cases r with
    | error y => exact fun c da G2 H2 z w => p c da G2 H2 (x.trans z) w
    | ok d => exact fun H2 s => p H2 (x.h.trans s)
theorem Fr.from {G H G1 H1 G2 H2 : Hp} {S : Addr → Prop} (x : Ext G H G1 H1) (f : Fr G1 H1 G2 H2 S) : Fr G H G2 H2 S := ⟨x.trans f.ext, fun a ha => ⟨x.h.free (f.new a ha).1, (f.new a ha).2⟩⟩
theorem PostE.val {G H G' H' : Hp} {d : Dt} {v : V} {Q : VK} (p : PostE mg E G H n (okR d) Q) (x : Ext G H G' H') (hd : d.dep = 0) (h : Rep G' d v) : Q v H' :=
  p v G' H' (fun _ => False) ⟨x, fun _ z => z.elim⟩ (own_of h hd)
theorem PostE.kept {G H G' H' : Hp} {d : Dt} {v : V} {Q : VK} (p : PostE mg E G H 0 (okR d) Q) (x : Ext G H G' H') (h : Rep G' d v) : Q v H' :=
  p v G' H' (fun _ => False) ⟨x, fun _ z => z.elim⟩ h
theorem de_frz {t : TE} {m : EM} {n : Nat} (D : DE mg E t m n) : DE mg E t m 0 := by
  intro G H σ ρ Q s w p
  refine D G H σ ρ Q s w ?_
  cases e : m ρ with
  | none => rw [e] at p; exact p
  | some r =>
    rw [e] at p
    cases r with
    | error x => exact p
    | ok d =>
      intro v G' H' S fr o
      obtain ⟨x, r⟩ := fr.frz o
      exact PostE.kept p x r
end
end L3

namespace L3
open PySem PySem.Spec
open L2 hiding Rep RepL
open Mi (Dt Xn R okR bindR optR bindR_ok bindR_none bindR_err optR_some optR_none Rh Sl Ro EM TM AM FM IM SM Tg Out bindT setsH setsO full frz frz1 frzAt)
section
variable [Kc] {mg : Str → Option Value} {E : XK} {n k l : Nat} {ta tb tc : TE} {ma mb mc : EM}
theorem de_int {i : Int} : DE mg E (tC (.int i)) (Mi.eC (.int i)) n := fun G H σ ρ Q s w p => PostE.val p (Ext.refl s) rfl rfl
theorem de_bl {b : Bool} : DE mg E (tC (.bl b)) (Mi.eC (.bl b)) n := fun G H σ ρ Q s w p => PostE.val p (Ext.refl s) rfl rfl
theorem de_v (i : Nat) : DE mg E (vM i) (Mi.eV i) 0 := by
  intro G H σ ρ Q s w p
  unfold Mi.eV at p
  cases e : ρ[i]? with
  | none => rw [e] at p; exact p.elim
  | some o =>
    rw [e] at p
    cases o with
    | none => exact p.elim
    | some d =>
      obtain ⟨v, h1, h2⟩ := w.at i d e
      unfold vM
      rw [h1]
      exact PostE.kept p (Ext.refl s) h2
def ROp (r : R2) (f : Dt → Dt → Option Dt) (n : Nat) : Prop := ∀ (mg : Str → Option Value) (E : XK) (G H : Hp) (d e : Dt) (x y : V) (Q : VK), Same G H → Rep G d x → Rep G e y → PostE mg E G H n (optR (f d e)) Q → r x y H Q
theorem de_op {r : R2} {f : Dt → Dt → Option Dt} (hr : ROp r f n) (A : DE mg E ta ma k) (B : DE mg E tb mb l) : DE mg E (tOp r ta tb) (Mi.eB f ma mb) n := by
  intro G H σ ρ Q s w p
  refine (de_frz A).step errE s w p fun d v G1 H1 S _ fr o p1 => ?_
  refine (de_frz B).step (errE.from fr.ext) fr.ext.in' (w.mono fr.ext.g) p1 fun e u G2 H2 S2 _ fr2 o2 p2 => ?_
  exact hr mg E G2 H2 d e v u Q fr2.ext.in' (Rep.mono fr2.ext.g o) o2 (PostE.from p2 (fr.ext.trans fr2.ext))
def ROp1 (r : V → Hp → VK → Prop) (f : Dt → Option Dt) (n : Nat) : Prop := ∀ (mg : Str → Option Value) (E : XK) (G H : Hp) (d : Dt) (x : V) (Q : VK), Same G H → Rep G d x → PostE mg E G H n (optR (f d)) Q → r x H Q
theorem de_un {r : V → Hp → VK → Prop} {f : Dt → Option Dt} (hr : ROp1 r f n) (A : DE mg E ta ma k) : DE mg E (tUn r ta) (Mi.eU f ma) n := by
  intro G H σ ρ Q s w p
  refine (de_frz A).step errE s w p fun d v G1 H1 S _ fr o p1 => ?_
  exact hr mg E G1 H1 d v Q fr.ext.in' o (PostE.from p1 fr.ext)
theorem de_and (A : DE mg E ta ma k) (B : DE mg E tb mb n) : DE mg E (fun σ H Q => ta σ H fun x H1 => match x with | .bl c => if c = true then tb σ H1 Q else Q (.bl false) H1 | _ => False) (Mi.eAnd ma mb) n := by
  intro G H σ ρ Q s w p
  refine (de_frz A).step errE s w p fun d v G1 H1 S _ fr o p1 => ?_
  cases d with
  | bl b =>
    cases (show v = .bl b from o)
    cases b with
    | true => exact B G1 H1 σ ρ Q fr.ext.in' (w.mono fr.ext.g) (PostE.from p1 fr.ext)
    | false => exact PostE.val (PostE.from p1 fr.ext) (Ext.refl fr.ext.in') rfl rfl
  | _ => exact p1.elim
theorem de_not (A : DE mg E ta ma k) : DE mg E (fun σ H Q => ta σ H fun x H1 => match x with | .bl c => Q (.bl (!c)) H1 | _ => False) (Mi.eNot ma) n := by
  intro G H σ ρ Q s w p
  refine (de_frz A).step errE s w p fun d v G1 H1 S _ fr o p1 => ?_
  cases d with
  | bl b =>
    cases (show v = .bl b from o)
    exact PostE.val (PostE.from p1 fr.ext) (Ext.refl fr.ext.in') rfl rfl
  | _ => exact p1.elim
theorem dt_b (A : DE mg E ta ma k) : DT mg E (fun σ H Q => ta σ H fun z H3 => match z with | .bl k => Q k H3 | _ => False) (Mi.tB ma) := by
  intro G H σ ρ Q s w p
  refine (de_frz A).step errT s w p fun d v G1 H1 S _ fr o p1 => ?_
  cases d with
  | bl b =>
    cases (show v = .bl b from o)
    exact p1 H1 fr.ext.h
  | _ => exact p1.elim
theorem dt_m (A : DE mg E ta ma k) : DT mg E (bM ta) (Mi.tM ma) := by
  intro G H σ ρ Q s w p
  refine (de_frz A).step errT s w p fun d v G1 H1 S _ fr o p1 => ?_
  cases d with
  | bl b => cases (show v = .bl b from o); exact p1 H1 fr.ext.h
  | int b => cases (show v = .int b from o); exact p1 H1 fr.ext.h
  | non => cases (show v = .non from o); exact p1 H1 fr.ext.h
  | _ => exact p1.elim
variable {tA tB : TT} {cA cB : TM}
theorem dt_and (A : DT mg E tA cA) (B : DT mg E tB cB) : DT mg E (L2.tAnd tA tB) (Mi.tAn cA cB) := by
  intro G H σ ρ Q s w p
  refine A.step errT s w p fun b H' _ sH p1 => ?_
  cases b with
  | true => exact B G H' σ ρ Q (s.trans sH) w (PostT.from p1 (Ext.same s sH))
  | false => exact p1 H' sH
theorem dt_or (A : DT mg E tA cA) (B : DT mg E tB cB) : DT mg E (L2.tOr tA tB) (Mi.tOr cA cB) := by
  intro G H σ ρ Q s w p
  refine A.step errT s w p fun b H' _ sH p1 => ?_
  cases b with
  | false => exact B G H' σ ρ Q (s.trans sH) w (PostT.from p1 (Ext.same s sH))
  | true => exact p1 H' sH
theorem dt_not (A : DT mg E tA cA) : DT mg E (L2.tNot tA) (Mi.tNo cA) := by
  intro G H σ ρ Q s w p
  exact A.step errT s w p fun b H' _ sH p1 => p1 H' sH
theorem dt_yes : DT mg E L2.tYes Mi.tYes := fun G H σ ρ Q s w p => p H (Same.refl _)
variable {t : TA} {m : AM}
theorem da_nil : DA mg E tNil Mi.aNil n := fun G H σ ρ Q s w p => p [] G H (fun _ => False) (fun _ _ => False) ⟨Ext.refl s, fun _ z => z.elim⟩ ⟨rfl, fun q d x h => by simp at h, fun _ _ _ z => z.elim, fun _ _ z => z.elim⟩
theorem da_cons (A : DE mg E ta ma n) (B : DA mg E t m n) : DA mg E (tCons ta t) (Mi.aCons ma m) n := by
  intro G H σ ρ Q s w p
  refine A.step errA s w p fun d v G1 H1 S1 _ fr o p1 => ?_
  refine B.step (errA.from fr.ext) fr.ext.in' (w.mono fr.ext.g) p1 fun ds vs G2 H2 S2 T2 _ fr2 o2 p2 => ?_
  refine p2 (v :: vs) G2 H2 (fun a => S1 a ∨ S2 a) (fun q => match q with | 0 => S1 | q + 1 => T2 q) ⟨fr.ext.trans fr2.ext, fun a ha => ?_⟩ ⟨by simp [o2.len], fun q d' x h1 h2 => ?_, fun q r b h1 h2 => ?_, fun q b h => ?_⟩
  · rcases ha with ha | ha
    · obtain ⟨n1, n2, n3⟩ := fr.new a ha
      exact ⟨n1, (fr2.ext.old a n3).trans n2, fr2.ext.h.some n3⟩
    · obtain ⟨n1, n2, n3⟩ := fr2.new a ha
      exact ⟨fr.ext.h.free n1, n2, n3⟩
  · cases q with
    | zero => simp at h1 h2; subst h1; subst h2; exact o.mono fr2.ext.g fr2.ext.h
    | succ q => exact o2.own q d' x (by simpa using h1) (by simpa using h2)
  · have ap : ∀ r b, S1 b → T2 r b → False := fun r b h1 h2 => (fr.new b h1).2.2 (fr2.new b (o2.sub r b h2)).1
    cases q with
    | zero =>
      cases r with
      | zero => rfl
      | succ r => exact (ap r b h1 h2).elim
    | succ q =>
      cases r with
      | zero => exact (ap q b h2 h1).elim
      | succ r => rw [o2.dis q r b h1 h2]
  · cases q with
    | zero => exact .inl h
    | succ q => exact .inr (o2.sub q b h)
theorem OwnA.repL {G H : Hp} {S : Addr → Prop} {ds : List Dt} {vs : List V} {T : Nat → Addr → Prop} (o : OwnA G H 0 S ds vs T) : RepL G ds vs := repL_of o.len fun q d x h1 h2 => o.own q d x h1 h2
theorem big' {n : Nat} (h : n ≤ 100000) : n ≤ sizeLine := Nat.le_of_lt (L2.big h)
theorem Fr.add {G H G' H' : Hp} {S : Addr → Prop} (f : Fr G H G' H' S) {p : Addr} (hp : H' p = none) (o : HO) : Fr G H G' (upd H' p o) (fun a => a = p ∨ S a) := by
  have sn := L2.same_new hp o
  refine ⟨⟨f.ext.g, f.ext.h.trans sn, f.ext.in'.trans sn, f.ext.old⟩, fun a ha => ?_⟩
  rcases ha with rfl | ha
  · exact ⟨f.ext.h.free hp, f.ext.in'.free hp, by rw [upd_same]; simp⟩
  · obtain ⟨n1, n2, n3⟩ := f.new a ha
    exact ⟨n1, n2, sn.some n3⟩
theorem OwnA.kids {G' H' : Hp} {S : Addr → Prop} {ds : List Dt} {vs : List V} {T : Nat → Addr → Prop} (o : OwnA G' H' n S ds vs T) (hn : ∀ a, S a → H' a ≠ none) {p : Addr} (hp : H' p = none) (ob : HO) :
    Kids (Own G' (upd H' p ob) n) (fun a => a = p ∨ S a) p ds vs T :=
  ⟨o.len, fun q d x h1 h2 => (o.own q d x h1 h2).mono (Same.refl _) (L2.same_new hp ob), .inl rfl, fun q z => hn p (o.sub q p z) hp, o.dis, fun q b z => .inr (o.sub q b z)⟩
theorem de_lst (A : DA mg E t m n) : DE mg E (tLst t) (Mi.eLst m) (n + 1) := by
  intro G H σ ρ Q s w p
  refine A.step errE s w p fun ds vs G1 H1 S T _ fr o p1 => ?_
  by_cases hz : ds.length ≤ 100000
  · rw [if_pos hz] at p1
    refine ⟨by rw [o.len]; exact big' hz, fun a ha => ?_⟩
    exact p1 (.ref a) G1 _ _ (fr.add ha _) ⟨a, vs, T, rfl, upd_same, o.kids (fun b hb => (fr.new b hb).2.2) ha _⟩
  · rw [if_neg hz] at p1; exact p1.elim
theorem de_tup (A : DA mg E t m n) : DE mg E (tTup t) (Mi.eTup m) (n + 1) := by
  intro G H σ ρ Q s w p
  refine A.step errE s w p fun ds vs G1 H1 S T _ fr o p1 => ?_
  by_cases hz : ds.length ≤ 100000
  · rw [if_pos hz] at p1
    refine ⟨by rw [o.len]; exact big' hz, fun a ha => ?_⟩
    exact p1 (.ref a) G1 _ _ (fr.add ha _) ⟨a, vs, T, rfl, upd_same, o.kids (fun b hb => (fr.new b hb).2.2) ha _⟩
  · rw [if_neg hz] at p1; exact p1.elim
theorem PostE.lst {G H G' H' : Hp} {ds : List Dt} {xs : List V} {Q : VK} (p : PostE mg E G H 1 (okR (.lst ds)) Q) (x : Ext G H G' H') (r : RepL G' ds xs) {a : Addr} (ha : H' a = none) : Q (.ref a) (upd H' a (.lst xs)) := by
  have fr : Fr G H G' H' (fun _ => False) := ⟨x, fun _ z => z.elim⟩
  refine p (.ref a) G' _ _ (fr.add ha (.lst xs)) ⟨a, xs, fun _ _ => False, rfl, upd_same, ⟨r.length, fun q d y h1 h2 => repL_at r h1 h2, .inl rfl, fun _ z => z, fun _ _ _ z => z.elim, fun _ _ z => z.elim⟩⟩
def CBi (r : List V → Hp → VK → Prop) (f : List Dt → Option Dt) (n : Nat) : Prop := ∀ (mg : Str → Option Value) (E : XK) (G H : Hp) (ds : List Dt) (vs : List V) (Q : VK), Same G H → RepL G ds vs → PostE mg E G H n (optR (f ds)) Q → r vs H Q
theorem de_bi {r : List V → Hp → VK → Prop} {f : List Dt → Option Dt} (hr : CBi r f n) (A : DA mg E t m 0) : DE mg E (tCB r t) (Mi.eBi f m) n := by
  intro G H σ ρ Q s w p
  refine A.step errE s w p fun ds vs G1 H1 S T _ fr o p1 => ?_
  exact hr mg E G1 H1 ds vs Q fr.ext.in' o.repL (PostE.from p1 fr.ext)
def spM (mg : Str → Option Value) (L : Nat) (f : FM) : Sp := fun vs H Q E => ∃ G ds, Same G H ∧ RepL G ds vs ∧ PostE mg E G H L (f ds) Q
theorem de_call {f : FM} (A : DA mg E t m 0) : DE mg E (tCall (spM mg n f) [] E t) (Mi.eCall f m) n := by
  intro G H σ ρ Q s w p
  refine A.step errE s w p fun ds vs G1 H1 S T _ fr o p1 => ?_
  exact ⟨G1, ds, fr.ext.in', by rw [List.append_nil]; exact o.repL, PostE.from p1 fr.ext⟩
theorem r_val {G H : Hp} {o : Option Dt} {Q : VK} {d : Dt} {v : V} (s : Same G H) (p : PostE mg E G H n (optR o) Q) (e : o = some d) (hd : d.dep = 0) (h : Rep G d v) : Q v H := by
  subst e; exact PostE.val p (Ext.refl s) hd h
theorem ro_add : ROp rAddU Mi.addD 1 := by
  intro mg E G H d e x y Q s h1 h2 p
  cases d with
  | int i =>
    cases e with
    | int j => cases (show x = .int i from h1); cases (show y = .int j from h2); exact r_val s p rfl rfl rfl
    | _ => exact p.elim
  | str i =>
    cases e with
    | str j =>
      cases (show x = .str i from h1); cases (show y = .str j from h2)
      rw [Mi.addD] at p
      by_cases hz : i.length + j.length ≤ 100000
      · rw [if_pos hz] at p
        exact ⟨big' hz, PostE.val p (Ext.refl s) rfl rfl⟩
      · rw [if_neg hz] at p; exact p.elim
    | _ => exact p.elim
  | lst ds =>
    cases e with
    | lst es =>
      obtain ⟨a, xs, rfl, ha, ra⟩ := h1
      obtain ⟨b, ys, rfl, hb, rb⟩ := h2
      rw [Mi.addD] at p
      by_cases hz : ds.length + es.length ≤ 100000
      · rw [if_pos hz] at p
        refine ⟨xs, ys, s _ _ ha, s _ _ hb, by rw [ra.length, rb.length]; exact big' hz, fun q hq => ?_⟩
        refine PostE.lst p (Ext.refl s) (repL_of (by simp [ra.length, rb.length]) fun j d' x' e1 e2 => ?_) hq
        by_cases hj : j < ds.length
        · rw [List.getElem?_append_left hj] at e1
          rw [List.getElem?_append_left (by rw [ra.length]; exact hj)] at e2
          exact repL_at ra e1 e2
        · rw [List.getElem?_append_right (by omega)] at e1
          rw [List.getElem?_append_right (by rw [ra.length]; omega), ra.length] at e2
          exact repL_at rb e1 e2
      · rw [if_neg hz] at p; exact p.elim
    | _ => exact p.elim
  | _ => exact p.elim
theorem ro_sub : ROp rSubU Mi.subD n := by
  intro mg E G H d e x y Q s h1 h2 p
  cases d with
  | int i =>
    cases e with
    | int j => cases (show x = .int i from h1); cases (show y = .int j from h2); exact r_val s p rfl rfl rfl
    | _ => exact p.elim
  | _ => exact p.elim
theorem ro_mul : ROp rMulW Mi.mulD n := by
  intro mg E G H d e x y Q s h1 h2 p
  cases d with
  | int i =>
    cases e with
    | int j =>
      cases (show x = .int i from h1); cases (show y = .int j from h2)
      rw [Mi.mulD] at p
      split at p
      · rename_i hz; exact ⟨hz, PostE.val p (Ext.refl s) rfl rfl⟩
      · exact p.elim
    | _ => exact p.elim
  | _ => exact p.elim
theorem ro_div : ROp rDivW Mi.divD n := by
  intro mg E G H d e x y Q s h1 h2 p
  cases d with
  | int i =>
    cases e with
    | int j =>
      cases (show x = .int i from h1); cases (show y = .int j from h2)
      rw [Mi.divD] at p
      split at p
      · rename_i hz; exact ⟨hz, PostE.val p (Ext.refl s) rfl rfl⟩
      · exact p.elim
    | _ => exact p.elim
  | _ => exact p.elim
theorem ro_mod : ROp rModU Mi.modD n := by
  intro mg E G H d e x y Q s h1 h2 p
  cases d with
  | int i =>
    cases e with
    | int j =>
      cases (show x = .int i from h1); cases (show y = .int j from h2)
      rw [Mi.modD] at p
      split at p
      · rename_i hz; exact ⟨hz, PostE.val p (Ext.refl s) rfl rfl⟩
      · exact p.elim
    | _ => exact p.elim
  | _ => exact p.elim
theorem ro_pow : ROp rPowU Mi.powD n := by
  intro mg E G H d e x y Q s h1 h2 p
  cases d with
  | int i =>
    cases e with
    | int j =>
      cases (show x = .int i from h1); cases (show y = .int j from h2)
      rw [Mi.powD] at p
      split at p
      · rename_i hz; exact ⟨hz, PostE.val p (Ext.refl s) rfl rfl⟩
      · exact p.elim
    | _ => exact p.elim
  | _ => exact p.elim
theorem ro_neg : ROp1 rNegU Mi.negD n := by
  intro mg E G H d x Q s h1 p
  cases d with
  | int i => cases (show x = .int i from h1); exact r_val s p rfl rfl rfl
  | _ => exact p.elim
theorem ro_cmp {q : Int → Int → Bool} : ROp (rCmpU q) (Mi.cmpD q) n := by
  intro mg E G H d e x y Q s h1 h2 p
  cases d with
  | int i =>
    cases e with
    | int j => cases (show x = .int i from h1); cases (show y = .int j from h2); exact r_val s p rfl rfl rfl
    | _ => exact p.elim
  | _ => exact p.elim
theorem eqd_of {G H : Hp} {d e : Dt} {x y : V} {Q : VK} {ng : Bool} (s : Same G H) (h1 : Rep G d x) (h2 : Rep G e y) (hd : d.dep ≤ 40) (he : e.dep ≤ 40) (q : Q (.bl (if ng then !Dt.eq d e else Dt.eq d e)) H) :
    ∃ d' e', L2.Rep H d' x ∧ L2.Rep H e' y ∧ d'.dep ≤ 40 ∧ Q (.bl (if ng then !L2.Dat.eq d' e' else L2.Dat.eq d' e')) H :=
  ⟨conv d, conv e, conv_rep hd (Rep.mono s h1), conv_rep he (Rep.mono s h2), Nat.le_trans (conv_dep hd) hd, by rw [conv_eq hd he]; exact q⟩
theorem beq_dec {α : Type} [DecidableEq α] (a b : α) : (a == b) = decide (a = b) := by
  by_cases h : a = b
  · subst h; simp
  · simp [h]
theorem ro_eq : ROp rEqU Mi.eqD n := by
  intro mg E G H d e x y Q s h1 h2 p
  unfold Mi.eqD at p
  split at p
  · rename_i hz
    have q : Q (.bl (Dt.eq d e)) H := PostE.val p (Ext.refl s) rfl rfl
    have g := eqd_of (ng := false) (Q := Q) s h1 h2 hz.1 hz.2 q
    cases x <;> cases y <;> first
      | exact g
      | (cases d <;> cases e <;> first
          | (cases h1; cases h2; rw [Dt.eq, beq_dec] at q; exact q)
          | (cases h1; done)
          | (cases h2; done)
          | (obtain ⟨_, _, z, _⟩ := h1; cases z; done)
          | (obtain ⟨_, z, _⟩ := h1; cases z; done)
          | (obtain ⟨_, z, _⟩ := h2; cases z; done)
          | (obtain ⟨_, _, z, _⟩ := h2; cases z; done)
          | (obtain ⟨_, _, _, z, _⟩ := h1; cases z; done)
          | (obtain ⟨_, _, _, z, _⟩ := h2; cases z; done))
  · exact p.elim
theorem ro_ne : ROp rNeU Mi.neD n := by
  intro mg E G H d e x y Q s h1 h2 p
  unfold Mi.neD at p
  split at p
  · rename_i hz
    have q : Q (.bl (!Dt.eq d e)) H := PostE.val p (Ext.refl s) rfl rfl
    have g := eqd_of (ng := true) (Q := Q) s h1 h2 hz.1 hz.2 q
    cases x <;> cases y <;> first
      | exact g
      | (cases d <;> cases e <;> first
          | (cases h1; cases h2; rw [Dt.eq, beq_dec] at q; exact q)
          | (cases h1; done)
          | (cases h2; done)
          | (obtain ⟨_, _, z, _⟩ := h1; cases z; done)
          | (obtain ⟨_, z, _⟩ := h1; cases z; done)
          | (obtain ⟨_, z, _⟩ := h2; cases z; done)
          | (obtain ⟨_, _, z, _⟩ := h2; cases z; done)
          | (obtain ⟨_, _, _, z, _⟩ := h1; cases z; done)
          | (obtain ⟨_, _, _, z, _⟩ := h2; cases z; done))
  · exact p.elim
theorem ixA_eq (n : Nat) (i : Int) : Mi.ixA n i = ixN n i := rfl
theorem itA_eq {α : Type} (xs : List α) (i : Int) : Mi.itA xs i = atI xs i := rfl
theorem at_rep {G : Hp} {ds : List Dt} {xs : List V} {i : Int} {d : Dt} (r : RepL G ds xs) (h : Mi.itA ds i = some d) : ∃ x, atI xs i = some x ∧ Rep G d x := by
  rw [itA_eq] at h
  unfold atI at h ⊢
  rw [r.length]
  cases e : ixN ds.length i with
  | none => rw [e] at h; cases h
  | some j =>
    rw [e] at h
    have h' : ds[j]? = some d := h
    have hj : j < xs.length := by rw [r.length]; exact (List.getElem?_eq_some_iff.mp h').1
    exact ⟨xs[j], by simp [hj], repL_at r h' (by simp [hj])⟩
theorem ro_ix : ROp (rIxU Kc.K) Mi.ixD 0 := by
  intro mg E G H d e x y Q s h1 h2 p
  cases e with
  | int i =>
    cases (show y = .int i from h2)
    cases d with
    | lst ds =>
      obtain ⟨a, xs, rfl, ha, ra⟩ := h1
      cases er : Mi.itA ds i with
      | none => rw [Mi.ixD, er] at p; exact p.elim
      | some c =>
        rw [Mi.ixD, er] at p
        obtain ⟨v, e1, r1⟩ := at_rep ra er
        exact ⟨xs, v, .inl (SqL.of (s _ _ ha)), e1, PostE.kept p (Ext.refl s) r1⟩
    | tup ds =>
      obtain ⟨a, xs, rfl, ha, ra⟩ := h1
      cases er : Mi.itA ds i with
      | none => rw [Mi.ixD, er] at p; exact p.elim
      | some c =>
        rw [Mi.ixD, er] at p
        obtain ⟨v, e1, r1⟩ := at_rep ra er
        exact ⟨xs, v, .inr (SqT.of (s _ _ ha)), e1, PostE.kept p (Ext.refl s) r1⟩
    | scr ns =>
      obtain ⟨a, rfl, ha⟩ := h1
      cases er : Mi.itA ns i with
      | none => rw [Mi.ixD, er] at p; exact p.elim
      | some c =>
        rw [Mi.ixD, er] at p
        refine ⟨ns.map V.int, .int c, seqR_mono s ha, ?_, PostE.kept p (Ext.refl s) rfl⟩
        rw [itA_eq] at er
        unfold atI at er ⊢
        rw [List.length_map]
        cases e : ixN ns.length i with
        | none => rw [e] at er; cases er
        | some j =>
          rw [e] at er
          have er' : ns[j]? = some c := er
          show (ns.map V.int)[j]? = some (.int c)
          rw [List.getElem?_map, er']; rfl
    | str z =>
      cases (show x = .str z from h1)
      rw [Mi.ixD] at p
      by_cases hz : z.length ≤ 100000
      · rw [if_pos hz] at p
        cases er : Mi.itA z.cps.toList i with
        | none => rw [er] at p; exact p.elim
        | some c => rw [er] at p; exact ⟨c, big' hz, er, PostE.kept p (Ext.refl s) rfl⟩
      · rw [if_neg hz] at p; exact p.elim
    | _ => exact p.elim
  | _ => cases d <;> exact p.elim
theorem repL1 {G : Hp} {d : Dt} {vs : List V} (h : RepL G [d] vs) : ∃ x, vs = [x] ∧ Rep G d x := by
  obtain ⟨x, q, rfl, a, b⟩ := h
  cases (show q = [] from b)
  exact ⟨x, rfl, a⟩
theorem repL2 {G : Hp} {d e : Dt} {vs : List V} (h : RepL G [d, e] vs) : ∃ x y, vs = [x, y] ∧ Rep G d x ∧ Rep G e y := by
  obtain ⟨x, q, rfl, a, b⟩ := h
  obtain ⟨y, rfl, c⟩ := repL1 b
  exact ⟨x, y, rfl, a, c⟩
theorem cb_len : CBi (rLenU Kc.K) Mi.lenD n := by
  intro mg E G H ds vs Q s h p
  match ds, h, p with
  | [.lst es], h, p =>
    obtain ⟨x, rfl, a, xs, rfl, ha, ra⟩ := repL1 h
    exact ⟨xs, .inl (SqL.of (s _ _ ha)), by rw [ra.length]; exact PostE.val p (Ext.refl s) rfl rfl⟩
  | [.tup es], h, p =>
    obtain ⟨x, rfl, a, xs, rfl, ha, ra⟩ := repL1 h
    exact ⟨xs, .inr (SqT.of (s _ _ ha)), by rw [ra.length]; exact PostE.val p (Ext.refl s) rfl rfl⟩
  | [.scr ns], h, p =>
    obtain ⟨x, rfl, a, rfl, ha⟩ := repL1 h
    refine ⟨ns.map V.int, seqR_mono s ha, ?_⟩
    rw [List.length_map]
    exact PostE.val p (Ext.refl s) rfl rfl
  | [.str z], h, p =>
    obtain ⟨x, rfl, hx⟩ := repL1 h
    cases (show x = .str z from hx)
    rw [Mi.lenD] at p
    by_cases hz : z.length ≤ 100000
    · rw [if_pos hz] at p
      exact ⟨big' hz, PostE.val p (Ext.refl s) rfl rfl⟩
    · rw [if_neg hz] at p; exact p.elim
  | [], _, p => exact p.elim
  | [.non], _, p => exact p.elim
  | [.bl _], _, p => exact p.elim
  | [.int _], _, p => exact p.elim
  | x :: _ :: _, _, p => cases x <;> exact p.elim
theorem repL_ints {G : Hp} : ∀ (ns : List Int), RepL G (ns.map Dt.int) (ns.map V.int)
  | [] => rfl
  | _ :: r => ⟨_, _, rfl, rfl, repL_ints r⟩
theorem cb_list : CBi (rListU Kc.K) Mi.listD 1 := by
  intro mg E G H ds vs Q s h p
  match ds, h, p with
  | [.lst es], h, p =>
    obtain ⟨x, rfl, a, xs, rfl, ha, ra⟩ := repL1 h
    exact .inl ⟨xs, .inl (SqL.of (s _ _ ha)), fun l hl => PostE.lst p (Ext.refl s) ra hl⟩
  | [.tup es], h, p =>
    obtain ⟨x, rfl, a, xs, rfl, ha, ra⟩ := repL1 h
    exact .inl ⟨xs, .inr (SqT.of (s _ _ ha)), fun l hl => PostE.lst p (Ext.refl s) ra hl⟩
  | [.scr ns], h, p =>
    obtain ⟨x, rfl, a, rfl, ha⟩ := repL1 h
    exact .inl ⟨ns.map V.int, seqR_mono s ha, fun l hl => PostE.lst p (Ext.refl s) (repL_ints ns) hl⟩
  | [], _, p => exact p.elim
  | [.non], _, p => exact p.elim
  | [.bl _], _, p => exact p.elim
  | [.int _], _, p => exact p.elim
  | [.str _], _, p => exact p.elim
  | x :: _ :: _, _, p => cases x <;> exact p.elim
theorem rep_nums {G : Hp} (lo : Int) (k : Nat) : RepL G (Mi.nums lo k) (numsV lo k) := by
  unfold Mi.nums numsV
  refine repL_of (by simp) fun q d x h1 h2 => ?_
  rw [List.getElem?_map] at h1 h2
  cases e : (List.range k)[q]? with
  | none => rw [e] at h1; cases h1
  | some j => rw [e] at h1 h2; cases h1; cases h2; rfl
theorem de_listRange {K : PySem.W.Frag} (A : DA mg E t m 0) : DE mg E (tCB (rListU K) (tCons (tCB rRangeU t) tNil)) (Mi.eBi Mi.rangeD m) 1 := by
  intro G H σ ρ Q s w p
  refine A.step errE s w p fun ds vs G1 H1 S T _ fr o p1 => ?_
  have p2 := PostE.from p1 fr.ext
  have r := o.repL
  have s1 := fr.ext.in'
  have fin : ∀ (lo hi : Int), (-4611686018427387904 ≤ lo ∧ lo < 4611686018427387904 ∧ -4611686018427387904 ≤ hi ∧ hi < 4611686018427387904) → hi - lo ≤ 100000 → PostE mg E G1 H1 1 (okR (.lst (Mi.nums lo (hi - lo).toNat))) Q →
      ∀ q, H1 q = none → rListU K [.ref q] (upd H1 q (.rng lo hi)) Q := by
    intro lo hi hb hz pp q hq
    refine .inr ⟨lo, hi, upd_same, ⟨by omega, by omega, by omega, by omega⟩, by omega, fun l hl => ?_⟩
    have sn := L2.same_new hq (.rng lo hi)
    exact PostE.lst pp (Ext.same s1 sn) (rep_nums lo _) hl
  match ds, r, p2 with
  | [.int j], r, p2 =>
    obtain ⟨x, rfl, hx⟩ := repL1 r
    cases (show x = .int j from hx)
    rw [Mi.rangeD] at p2
    split at p2
    · rename_i hz
      intro q hq
      refine fin 0 j ⟨by decide, by decide, hz.1.1, hz.1.2⟩ (by omega) ?_ q hq
      rw [Int.sub_zero]
      exact p2
    · exact p2.elim
  | [.int i, .int j], r, p2 =>
    obtain ⟨x, y, rfl, hx, hy⟩ := repL2 r
    cases (show x = .int i from hx)
    cases (show y = .int j from hy)
    rw [Mi.rangeD] at p2
    split at p2
    · rename_i hz
      exact fun q hq => fin i j hz.1 hz.2 p2 q hq
    · exact p2.elim
  | [], _, p2 => exact p2.elim
  | [.non], _, p2 => exact p2.elim
  | [.bl _], _, p2 => exact p2.elim
  | [.str _], _, p2 => exact p2.elim
  | [.lst _], _, p2 => exact p2.elim
  | [.tup _], _, p2 => exact p2.elim
  | [.scr _], _, p2 => exact p2.elim
  | [.exc _ _ _], _, p2 => exact p2.elim
  | [.ins _ _], _, p2 => exact p2.elim
  | [.dct _], _, p2 => exact p2.elim
  | x :: y :: z :: r', _, p2 => cases x <;> cases y <;> exact p2.elim
  | [.non, _], _, p2 => exact p2.elim
  | [.bl _, _], _, p2 => exact p2.elim
  | [.str _, _], _, p2 => exact p2.elim
  | [.lst _, _], _, p2 => exact p2.elim
  | [.tup _, _], _, p2 => exact p2.elim
  | [.scr _, _], _, p2 => exact p2.elim
  | [.exc _ _ _, _], _, p2 => exact p2.elim
  | [.ins _ _, _], _, p2 => exact p2.elim
  | [.dct _, _], _, p2 => exact p2.elim
  | [.int _, .non], _, p2 => exact p2.elim
  | [.int _, .bl _], _, p2 => exact p2.elim
  | [.int _, .str _], _, p2 => exact p2.elim
  | [.int _, .lst _], _, p2 => exact p2.elim
  | [.int _, .tup _], _, p2 => exact p2.elim
  | [.int _, .scr _], _, p2 => exact p2.elim
  | [.int _, .exc _ _ _], _, p2 => exact p2.elim
  | [.int _, .ins _ _], _, p2 => exact p2.elim
  | [.int _, .dct _], _, p2 => exact p2.elim
theorem ty_of {G H : Hp} {d : Dt} {x : V} (s : Same G H) (h : Rep G d x) (hd : Mi.tyD d ≠ "") : tyName H x = some (Mi.tyD d) := by
  cases d with
  | non => cases h; rfl
  | bl _ => cases h; rfl
  | int _ => cases h; rfl
  | str _ => cases h; rfl
  | lst _ => obtain ⟨a, xs, rfl, ha, _⟩ := h; unfold tyName; dsimp only; rw [s _ _ ha]; rfl
  | tup _ => obtain ⟨a, xs, rfl, ha, _⟩ := h; unfold tyName; dsimp only; rw [s _ _ ha]; rfl
  | scr _ => exact absurd rfl hd
  | exc _ _ _ => exact absurd rfl hd
  | ins _ _ => exact absurd rfl hd
  | dct _ => exact absurd rfl hd
theorem de_isi {nm : String} (hn : nm ∈ ["int", "bool", "str", "list", "tuple", "dict"]) (A : DE mg E ta ma k) : DE mg E (tCB rIsiU (tCons ta (tCons (tC (.ty nm)) tNil))) (Mi.eIsi nm ma) n := by
  intro G H σ ρ Q s w p
  refine (de_frz A).step errE s w p fun d v G1 H1 S _ fr o p1 => ?_
  have p2 := PostE.from p1 fr.ext
  unfold Mi.isiD at p2
  split at p2
  · exact p2.elim
  · rename_i hd
    exact ⟨Mi.tyD d, ty_of fr.ext.in' o hd, hn, PostE.val p2 (Ext.refl fr.ext.in') rfl rfl⟩
theorem bools_rep {G : Hp} : ∀ {ds : List Dt} {bs : List Bool} {xs : List V}, Mi.boolsD ds = some bs → RepL G ds xs → xs = bs.map V.bl
  | [], bs, xs, h, r => by cases h; exact r
  | .bl b :: ds, bs, xs, h, r => by
    obtain ⟨x, q, rfl, a, c⟩ := r
    rw [Mi.boolsD] at h
    cases e : Mi.boolsD ds with
    | none => rw [e] at h; cases h
    | some cs =>
      rw [e] at h
      cases h
      rw [bools_rep e c, show x = .bl b from a]
      rfl
  | .non :: _, _, _, h, _ => by simp [Mi.boolsD] at h
  | .int _ :: _, _, _, h, _ => by simp [Mi.boolsD] at h
  | .str _ :: _, _, _, h, _ => by simp [Mi.boolsD] at h
  | .lst _ :: _, _, _, h, _ => by simp [Mi.boolsD] at h
  | .tup _ :: _, _, _, h, _ => by simp [Mi.boolsD] at h
  | .scr _ :: _, _, _, h, _ => by simp [Mi.boolsD] at h
  | .exc _ _ _ :: _, _, _, h, _ => by simp [Mi.boolsD] at h
  | .ins _ _ :: _, _, _, h, _ => by simp [Mi.boolsD] at h
  | .dct _ :: _, _, _, h, _ => by simp [Mi.boolsD] at h
theorem cb_all : CBi rAllU Mi.allD n := by
  intro mg E G H ds vs Q s h p
  match ds, h, p with
  | [.lst es], h, p =>
    obtain ⟨x, rfl, a, xs, rfl, ha, ra⟩ := repL1 h
    rw [Mi.allD] at p
    cases e : Mi.boolsD es with
    | none => rw [e] at p; exact p.elim
    | some bs =>
      rw [e] at p
      exact ⟨bs, by rw [← bools_rep e ra]; exact s _ _ ha, PostE.val p (Ext.refl s) rfl rfl⟩
  | [], _, p => exact p.elim
  | [.non], _, p => exact p.elim
  | [.bl _], _, p => exact p.elim
  | [.int _], _, p => exact p.elim
  | [.str _], _, p => exact p.elim
  | [.tup _], _, p => exact p.elim
  | [.scr _], _, p => exact p.elim
  | [.exc _ _ _], _, p => exact p.elim
  | [.ins _ _], _, p => exact p.elim
  | [.dct _], _, p => exact p.elim
  | x :: _ :: _, _, p => cases x <;> exact p.elim
end
end L3

namespace L3
open PySem PySem.Spec
open L2 hiding Rep RepL
open Mi (Dt Xn R okR bindR optR bindR_ok bindR_none bindR_err optR_some optR_none Rh Sl Ro EM TM AM FM IM SM Tg Out bindT setsH setsO full frz frz1 frzAt)
variable [Kc]
def ItOk (J : It) (G : Hp) (ds : List Dt) : Prop := ∀ (i : Nat) (G1 H1 : Hp), Same G G1 → Same G1 H1 → (i < ds.length → J.go i H1) ∧ (ds.length ≤ i → J.stop i H1) ∧ ∀ x H2 d, ds[i]? = some d → J.yld i H1 x H2 → ∃ G2, Ext G1 H1 G2 H2 ∧ Rep G2 d x
def baseI (ind : Bool) (G : Hp) : Hp := if ind = true then (fun _ => none) else G
def PostI (mg : Str → Option Value) (E : XK) (G H : Hp) (ind : Bool) (r : R (List Dt)) (Q : It → Hp → Prop) : Prop := match r with
  | none => False
  | some (.error x) => ∀ c da G' H', Ext G H G' H' → XRep mg x c da G' H' → E c da H'
  | some (.ok ds) => ∀ J G' H', Ext G H G' H' → ItOk J (baseI ind G') ds → Q J H'
def DI (mg : Str → Option Value) (E : XK) (t : TI) (m : IM) (ind : Bool) : Prop := ∀ (G H : Hp) (σ : St) (ρ : Rh) (Q : It → Hp → Prop), Same G H → View G σ ρ → PostI mg E G H ind (m ρ) Q → t σ H Q
section
variable {mg : Str → Option Value} {E : XK} {n k l : Nat} {ta te : TE} {ma me : EM} {t : TA} {m : AM} {ind : Bool}
theorem errI {G H : Hp} {Q : It → Hp → Prop} : Err mg E G H (fun r => PostI mg E G H ind r Q) := ⟨fun h => h, fun _ h => h⟩
theorem errB {G H : Hp} {α β : Type} {P : R β → Prop} (e : Err mg E G H P) (g : α → R β) : Err mg E G H (fun r => P (bindR r g)) := ⟨fun h => e.no h, fun x h => e.er x h⟩
theorem DI.step {β : Type} {t : TI} {m : IM} (D : DI mg E t m ind) {G H : Hp} {σ : St} {ρ : Rh} {Q : It → Hp → Prop} {P : R β → Prop} {f : List Dt → R β} (hE : Err mg E G H P) (s : Same G H) (w : View G σ ρ) (p : P (bindR (m ρ) f))
    (h : ∀ ds J G' H', m ρ = okR ds → Ext G H G' H' → ItOk J (baseI ind G') ds → P (f ds) → Q J H') : t σ H Q := by
  refine D G H σ ρ Q s w ?_
  cases e : m ρ with
  | none => rw [e] at p; exact hE.no p
  | some r =>
    rw [e] at p
    cases r with
    | error x => exact hE.er x p
    | ok ds => exact fun J G' H' x i => h ds J G' H' e x i p
theorem itl_ok {K : PySem.W.Frag} {G : Hp} {a : Addr} {xs : List V} {ds : List Dt} (ha : SqL K G a xs) (r : RepL G ds xs) : ItOk (Itl K a) G ds := by
  intro i G1 H1 s1 s2
  have hS : SqL K H1 a xs := (s1.trans s2).seq ha
  refine ⟨fun hi => ⟨xs, xs[i]'(by rw [r.length]; exact hi), hS, by simp⟩, fun hi => ⟨xs, hS, by rw [r.length]; exact hi⟩, fun x H2 d hd hy => ?_⟩
  obtain ⟨rfl, hy⟩ := hy
  exact ⟨G1, Ext.refl s2, Rep.mono s1 (repL_at r hd (hy xs hS))⟩
theorem itt_ok {K : PySem.W.Frag} {G : Hp} {a : Addr} {xs : List V} {ds : List Dt} (ha : SqT K G a xs) (r : RepL G ds xs) : ItOk (Itt K a) G ds := by
  intro i G1 H1 s1 s2
  have hS : SqT K H1 a xs := seqT_mono (s1.trans s2) ha
  refine ⟨fun hi => ⟨xs, xs[i]'(by rw [r.length]; exact hi), hS, by simp⟩, fun hi => ⟨xs, hS, by rw [r.length]; exact hi⟩, fun x H2 d hd hy => ?_⟩
  obtain ⟨rfl, hy⟩ := hy
  exact ⟨G1, Ext.refl s2, Rep.mono s1 (repL_at r hd (hy xs hS))⟩
theorem itr_ok {G : Hp} (lo : Int) (k : Nat) : ItOk (Itr lo k) G (Mi.nums lo k) := by
  intro i G1 H1 s1 s2
  have hl : (Mi.nums lo k).length = k := by simp [Mi.nums]
  refine ⟨fun hi => by rw [hl] at hi; exact hi, fun hi => by rw [hl] at hi; exact hi, fun x H2 d hd hy => ?_⟩
  obtain ⟨rfl, rfl⟩ := hy
  refine ⟨G1, Ext.refl s2, ?_⟩
  unfold Mi.nums at hd
  rw [List.getElem?_map] at hd
  cases e : (List.range k)[i]? with
  | none => rw [e] at hd; cases hd
  | some j =>
    rw [e] at hd
    cases hd
    have hj : j = i := by
      obtain ⟨h1, h2⟩ := List.getElem?_eq_some_iff.mp e
      rw [List.getElem_range] at h2; exact h2.symm
    subst hj
    rfl
theorem di_r1 (A : DA mg E t m 0) : DI mg E (iRng1 t) (Mi.iR1 m) true := by
  intro G H σ ρ Q s w p
  refine A.step errI s w p fun ds vs G1 H1 S T _ fr o p1 => ?_
  have r := o.repL
  match ds, r, p1 with
  | [.int j], r, p1 =>
    obtain ⟨x, rfl, hx⟩ := repL1 r
    cases (show x = .int j from hx)
    dsimp only at p1
    split at p1
    · rename_i hz
      exact ⟨j, rfl, by omega, by omega, p1 _ G1 H1 fr.ext (itr_ok 0 _)⟩
    · exact p1.elim
  | [], _, p => exact p.elim
  | [.non], _, p => exact p.elim
  | [.bl _], _, p => exact p.elim
  | [.str _], _, p => exact p.elim
  | [.lst _], _, p => exact p.elim
  | [.tup _], _, p => exact p.elim
  | [.scr _], _, p => exact p.elim
  | [.exc _ _ _], _, p => exact p.elim
  | [.ins _ _], _, p => exact p.elim
  | [.dct _], _, p => exact p.elim
  | x :: _ :: _, _, p => cases x <;> exact p.elim
def setsV : St → List (Nat × V) → St
  | σ, [] => σ
  | σ, (i, v) :: r => setsV (σ.set i (some v)) r
inductive BsRep (G : Hp) : List (Nat × Dt) → List (Nat × V) → Prop
  | nil : BsRep G [] []
  | cons {i d v bs ws} : Rep G d v → BsRep G bs ws → BsRep G ((i, d) :: bs) ((i, v) :: ws)
theorem View.set {G : Hp} {σ : St} {ρ : Rh} {i : Nat} {d : Dt} {v : V} (w : View G σ ρ) (r : Rep G d v) : View G (σ.set i (some v)) (ρ.set i (some d)) := by
  refine ⟨by simp [w.len], fun j e h => ?_⟩
  have hj : j < ρ.length := by
    have := (List.getElem?_eq_some_iff.mp h).1
    simpa using this
  by_cases z : i = j
  · subst z
    rw [List.getElem?_set_self hj] at h
    cases h
    exact ⟨v, List.getElem?_set_self (by rw [← w.len]; exact hj), r⟩
  · rw [List.getElem?_set_ne z] at h
    obtain ⟨u, h1, h2⟩ := w.at j e h
    exact ⟨u, by rw [List.getElem?_set_ne z]; exact h1, h2⟩
theorem View.sets {G : Hp} {bs ws} (h : BsRep G bs ws) : ∀ {σ : St} {ρ : Rh}, View G σ ρ → View G (setsV σ ws) (setsH ρ bs) := by
  induction h with
  | nil => exact fun w => w
  | cons r _ ih => exact fun w => ih (w.set r)
def TgOk (g : TG) (tg : Tg) : Prop := ∀ (G H : Hp) (σ : St) (d : Dt) (x : V) (bs : List (Nat × Dt)) (Q : St → Hp → Prop), Same G H → Rep G d x → bindT tg d = some bs → (∀ ws, BsRep G bs ws → Q (setsV σ ws) H) → g x σ H Q
def TgsOk (g : TGs) (is : List Nat) : Prop := ∀ (G H : Hp) (σ : St) (ds : List Dt) (xs : List V) (Q : St → Hp → Prop), RepL G ds xs → ds.length = is.length → (∀ ws, BsRep G (is.zip ds) ws → Q (setsV σ ws) H) → g xs σ H Q
theorem tg_name (i : Nat) : TgOk (gName i) (.one i) := by
  intro G H σ d x bs Q s r e h
  cases e
  exact h [(i, x)] (.cons r .nil)
theorem tgs_nil : TgsOk gNil [] := by
  intro G H σ ds xs Q r hl h
  cases ds with
  | nil => cases (show xs = [] from r); exact ⟨rfl, h [] .nil⟩
  | cons _ _ => simp at hl
theorem tgs_cons (i : Nat) {g : TGs} {is : List Nat} (hg : TgsOk g is) : TgsOk (gCons (gName i) g) (i :: is) := by
  intro G H σ ds xs Q r hl h
  cases ds with
  | nil => simp at hl
  | cons d ds =>
    obtain ⟨x, q, rfl, a, b⟩ := r
    exact ⟨x, q, rfl, hg G H _ ds q Q b (by simpa using hl) fun ws hw => h ((i, x) :: ws) (.cons a hw)⟩
theorem tg_tup {K : PySem.W.Frag} {g : TGs} {is : List Nat} {k : Nat} (hg : TgsOk g is) (hk : is.length = k) : TgOk (gTup K k g) (.tup is) := by
  intro G H σ d x bs Q s r e h
  cases d with
  | tup ds =>
    obtain ⟨a, xs, rfl, ha, ra⟩ := r
    rw [bindT] at e
    by_cases hz : ds.length = is.length
    · rw [if_pos hz] at e
      cases e
      exact ⟨a, xs, rfl, SqT.of (s _ _ ha), by rw [ra.length, hz, hk], hg G H σ ds xs Q ra hz h⟩
    · rw [if_neg hz] at e; cases e
  | _ => simp [bindT] at e
theorem setsV_app : ∀ (ws : List (Nat × V)) (σ own : St), (∀ p ∈ ws, σ.length ≤ p.1) → ∃ own' : St, own'.length = own.length ∧ setsV (σ ++ own) ws = σ ++ own'
  | [], σ, own, _ => ⟨own, rfl, rfl⟩
  | (i, v) :: r, σ, own, h => by
    have hi : σ.length ≤ i := h (i, v) (by simp)
    rw [setsV, List.set_append_right _ _ hi]
    obtain ⟨o, h1, h2⟩ := setsV_app r σ (own.set (i - σ.length) (some v)) fun p hp => h p (by simp [hp])
    exact ⟨o, by rw [h1, List.length_set], h2⟩
theorem BsRep.idx {G : Hp} {bs ws} (h : BsRep G bs ws) : ws.map (·.1) = bs.map (·.1) := by
  induction h with
  | nil => rfl
  | cons _ _ ih => simp [ih]
theorem bindT_idx {tg : Tg} {d : Dt} {bs : List (Nat × Dt)} (h : bindT tg d = some bs) : ∀ i ∈ bs.map (·.1), i ∈ tg.idx := by
  cases tg with
  | one i => cases h; simp [Tg.idx]
  | tup is =>
    cases d with
    | tup ds =>
      rw [bindT] at h
      split at h
      · cases h
        intro i hi
        obtain ⟨p, hp, e⟩ := List.mem_map.mp hi
        rw [← e]
        obtain ⟨a, b⟩ := p
        exact (List.of_mem_zip hp).1
      · cases h
    | _ => simp [bindT] at h
theorem de_comp {wi : TI} {g : TG} {tif : TT} {it : IM} {tg : Tg} {c : TM} (I : DI mg E wi it ind) (hT : TgOk g tg) (C : DT mg E tif c) (B : DE mg E te me n) : DE mg E (tComp wi k g tif te) (Mi.eComp it k tg c me) (n + 1) := by
  intro G H σ ρ Q s w p
  refine I.step errE s w p fun ds J G1 H1 _ x1 io p1 => ?_
  by_cases hz : ds.length ≤ 100000 ∧ (tg.idx.all fun i => decide (ρ.length ≤ i)) = true
  case neg => rw [if_neg hz] at p1; exact p1.elim
  rw [if_pos hz] at p1
  obtain ⟨hz, hix⟩ := hz
  have hb1 : Same (baseI ind G1) G1 := by
    unfold baseI
    split
    · exact fun b o e => by cases e
    · exact Same.refl _
  refine ⟨fun i m acc H' => m = ds.length - i ∧ i ≤ ds.length ∧ ∃ G' as S T, Fr G H G' H' S ∧ Same G1 G' ∧ OwnA G' H' n S as acc T ∧ as.length ≤ i ∧ PostE mg E G H (n + 1) (bindR (Mi.compGo ρ k tg c me (ds.drop i) as) fun es => okR (.lst es)) Q,
    ⟨_, rfl, Nat.zero_le _, G1, [], fun _ => False, fun _ _ => False, ⟨x1, fun _ z => z.elim⟩, Same.refl _, ⟨rfl, fun q d x h => by simp at h, fun _ _ _ z => z.elim, fun _ _ z => z.elim⟩, Nat.le_refl _, by rw [List.drop_zero]; exact p1⟩, ?_⟩
  rintro i m acc H' ⟨rfl, hi, G', as, S, T, fr, sg, o, hl, p⟩
  obtain ⟨j1, j2, j3⟩ := io i G' H' (hb1.trans sg) fr.ext.in'
  by_cases hlt : i < ds.length
  · refine .inr ⟨j1 hlt, by rw [o.len]; exact L2.big (by omega), fun acc' H'' => ds.length - (i + 1) = ds.length - (i + 1) ∧ i + 1 ≤ ds.length ∧ ∃ G' as S T, Fr G H G' H'' S ∧ Same G1 G' ∧ OwnA G' H'' n S as acc' T ∧ as.length ≤ i + 1 ∧ PostE mg E G H (n + 1) (bindR (Mi.compGo ρ k tg c me (ds.drop (i + 1)) as) fun es => okR (.lst es)) Q,
      fun acc' H'' q => ⟨ds.length - (i + 1), by omega, q⟩, fun x H2 hy => ?_⟩
    have hd : ds[i]? = some ds[i] := List.getElem?_eq_getElem hlt
    obtain ⟨G2, x2, r2⟩ := j3 x H2 ds[i] hd hy
    rw [List.drop_eq_getElem_cons hlt, Mi.compGo] at p
    cases eb : bindT tg ds[i] with
    | none => rw [eb] at p; exact p.elim
    | some bs =>
      rw [eb] at p
      dsimp only at p
      refine hT G2 H2 _ _ x bs _ x2.in' r2 eb fun ws hb => ?_
      have hsl : ∀ q ∈ ws, σ.length ≤ q.1 := fun q hq => by
        have h1 : q.1 ∈ bs.map (·.1) := by rw [← hb.idx]; exact List.mem_map_of_mem hq
        have h2 := List.all_eq_true.mp hix q.1 (bindT_idx eb q.1 h1)
        rw [← w.len]; exact of_decide_eq_true h2
      obtain ⟨own, ho1, ho2⟩ := setsV_app ws σ (List.replicate k none) hsl
      refine ⟨own, by rw [ho1, List.length_replicate], ho2, ?_⟩
      have x02 := fr.ext.trans x2
      have w2 : View G2 (setsV (σ ++ List.replicate k none) ws) (setsH (ρ ++ List.replicate k none) bs) := by
        refine View.sets hb ⟨by simp [w.len], fun j d h => ?_⟩
        by_cases hj : j < ρ.length
        · rw [List.getElem?_append_left hj] at h
          obtain ⟨v, a, b⟩ := w.at j d h
          exact ⟨v, by rw [List.getElem?_append_left (by rw [← w.len]; exact hj)]; exact a, Rep.mono x02.g b⟩
        · rw [List.getElem?_append_right (by omega), List.getElem?_replicate] at h
          split at h <;> cases h
      refine C.step ((errB errE _).from x02) x2.in' w2 p fun b H3 _ s3 p3 => ?_
      have x3 : Ext G2 H2 G2 H3 := Ext.same x2.in' s3
      have x03 := x02.trans x3
      have newS : ∀ a, S a → H a = none ∧ G2 a = none ∧ H3 a ≠ none := fun a ha => by
        obtain ⟨n1, n2, n3⟩ := fr.new a ha
        exact ⟨n1, (x2.old a n3).trans n2, s3.some (x2.h.some n3)⟩
      have own3 : OwnA G2 H3 n S as acc T := ⟨o.len, fun q d y h1 h2 => (o.own q d y h1 h2).mono x2.g (x2.h.trans s3), o.dis, o.sub⟩
      cases b with
      | false => exact ⟨rfl, hlt, G2, as, S, T, ⟨x03, newS⟩, sg.trans x2.g, own3, by omega, p3⟩
      | true =>
        refine B.step ((errB errE _).from x03) x3.in' w2 p3 fun e v G4 H4 S4 _ fr4 o4 p4 => ?_
        have ap : ∀ q b, T q b → S4 b → False := fun q b h1 h2 => (newS b (o.sub q b h1)).2.2 (fr4.new b h2).1
        refine ⟨rfl, hlt, G4, as ++ [e], fun a => S a ∨ S4 a, fun q b => (q < as.length ∧ T q b) ∨ (q = as.length ∧ S4 b), ⟨x03.trans fr4.ext, fun a ha => ?_⟩, sg.trans (x2.g.trans fr4.ext.g), ⟨by simp [o.len], fun q d y h1 h2 => ?_, fun q r b h1 h2 => ?_, fun q b h => ?_⟩, by simp; omega, p4⟩
        · rcases ha with ha | ha
          · obtain ⟨n1, n2, n3⟩ := newS a ha
            exact ⟨n1, (fr4.ext.old a n3).trans n2, fr4.ext.h.some n3⟩
          · obtain ⟨n1, n2, n3⟩ := fr4.new a ha
            exact ⟨x03.h.free n1, n2, n3⟩
        · by_cases hq : q < as.length
          · rw [List.getElem?_append_left hq] at h1
            rw [List.getElem?_append_left (by rw [o.len]; exact hq)] at h2
            exact ((own3.own q d y h1 h2).mono fr4.ext.g fr4.ext.h).sub fun b z => .inl ⟨hq, z⟩
          · rw [List.getElem?_append_right (by omega)] at h1
            rw [List.getElem?_append_right (by rw [o.len]; omega), o.len] at h2
            have hq0 : q - as.length = 0 := by
              have := (List.getElem?_eq_some_iff.mp h1).1
              simp at this; omega
            rw [hq0] at h1 h2
            simp at h1 h2
            subst h1; subst h2
            exact o4.sub fun b z => .inr ⟨by omega, z⟩
        · rcases h1 with ⟨a1, t1⟩ | ⟨a1, t1⟩ <;> rcases h2 with ⟨a2, t2⟩ | ⟨a2, t2⟩
          · exact o.dis q r b t1 t2
          · exact (ap q b t1 t2).elim
          · exact (ap r b t2 t1).elim
          · omega
        · rcases h with ⟨_, z⟩ | ⟨_, z⟩
          · exact .inl (o.sub q b z)
          · exact .inr z
  · have e : i = ds.length := by omega
    subst e
    refine .inl ⟨j2 (Nat.le_refl _), fun D hD => ?_⟩
    rw [List.drop_length, Mi.compGo] at p
    exact p (.ref D) G' _ _ (fr.add hD _) ⟨D, acc, T, rfl, upd_same, o.kids (fun b hb => (fr.new b hb).2.2) hD _⟩
end
end L3

namespace L3
open PySem PySem.Spec
open L2 hiding Rep RepL
open Mi (Dt Xn R okR bindR optR bindR_ok bindR_none bindR_err optR_some optR_none Rh Sl Ro EM TM AM FM IM SM Tg Out bindT setsH setsO full frz frz1 frzAt)
variable [Kc]
structure Sat (G0 H0 S0 : Hp) (σ : St) (ρ : Ro) (G H : Hp) (As : Nat → Addr → Prop) : Prop where
  ext : Ext G0 H0 G H
  stb : Same S0 G
  len : ρ.length = σ.length
  «at» : ∀ (i : Nat) (d : Dt) (n : Nat), ρ[i]? = some (some (d, n)) → ∃ v, σ[i]? = some (some v) ∧ Own G H n (As i) d v
  dis : ∀ i j a, As i a → As j a → i = j
  new : ∀ i a, As i a → H0 a = none ∧ G a = none ∧ H a ≠ none
section
variable {G0 H0 S0 : Hp} {σ : St} {ρ : Ro} {G H : Hp} {As : Nat → Addr → Prop}
theorem Sat.grow (a : Sat G0 H0 S0 σ ρ G H As) {H' : Hp} (s : Same H H') : Sat G0 H0 S0 σ ρ G H' As :=
  ⟨a.ext.trans (Ext.same a.ext.in' s), a.stb, a.len, fun i d n e => let ⟨v, h1, h2⟩ := a.at i d n e; ⟨v, h1, h2.mono (Same.refl _) s⟩, a.dis, fun i b h => let ⟨n1, n2, n3⟩ := a.new i b h; ⟨n1, n2, s.some n3⟩⟩
theorem Sat.wider (a : Sat G0 H0 S0 σ ρ G H As) {G' H' : Hp} (x : Ext G H G' H') : Sat G0 H0 S0 σ ρ G' H' As :=
  ⟨a.ext.trans x, a.stb.trans x.g, a.len, fun i d n e => let ⟨v, h1, h2⟩ := a.at i d n e; ⟨v, h1, h2.mono x.g x.h⟩, a.dis, fun i b h => let ⟨n1, n2, n3⟩ := a.new i b h; ⟨n1, (x.old b n3).trans n2, x.h.some n3⟩⟩
theorem Sat.full (a : Sat G0 H0 S0 σ ρ G H As) : ∃ J, Ext G0 H0 J H ∧ Same G J ∧ View J σ (full ρ) := by
  obtain ⟨s1, s2⟩ := over_same (S := fun b => ∃ i, As i b) a.ext.in'
  refine ⟨over G H fun b => ∃ i, As i b, ⟨a.ext.g.trans s1, a.ext.h, s2, fun b hb => ?_⟩, s1, by simp [Mi.full, a.len], fun i d e => ?_⟩
  · have z : ¬ ∃ i, As i b := fun ⟨i, z⟩ => hb (a.new i b z).1
    rw [over_out z]; exact a.ext.old b hb
  · unfold Mi.full at e
    rw [List.getElem?_map] at e
    cases e1 : ρ[i]? with
    | none => rw [e1] at e; cases e
    | some o =>
      rw [e1] at e
      cases o with
      | none => cases e
      | some sl =>
        obtain ⟨d', n⟩ := sl
        cases e
        obtain ⟨v, h1, h2⟩ := a.at i _ n e1
        exact ⟨v, h1, h2.rep s1 fun b o hb e => by rw [over_in ⟨i, hb⟩]; exact e⟩
theorem Sat.put (a : Sat G0 H0 S0 σ ρ G H As) {i n : Nat} {d : Dt} {v : V} {S : Addr → Prop} (o : Own G H n S d v) (hS : ∀ b, S b → H0 b = none ∧ G b = none ∧ H b ≠ none) (hd : ∀ j b, j ≠ i → As j b → S b → False) :
    Sat G0 H0 S0 (σ.set i (some v)) (ρ.set i (some (d, n))) G H (fun j => if j = i then S else As j) := by
  refine ⟨a.ext, a.stb, by simp [a.len], fun j e k h => ?_, fun j l b h1 h2 => ?_, fun j b h => ?_⟩
  · have hj : j < ρ.length := by
      have := (List.getElem?_eq_some_iff.mp h).1
      simpa using this
    by_cases z : i = j
    · subst z
      rw [List.getElem?_set_self hj] at h
      cases h
      exact ⟨v, List.getElem?_set_self (by rw [← a.len]; exact hj), by rw [if_pos rfl]; exact o⟩
    · rw [List.getElem?_set_ne z] at h
      obtain ⟨u, h1, h2⟩ := a.at j e k h
      exact ⟨u, by rw [List.getElem?_set_ne z]; exact h1, by rw [if_neg (fun q => z q.symm)]; exact h2⟩
  · try dsimp only at h1 h2
    by_cases z1 : j = i
    · by_cases z2 : l = i
      · rw [z1, z2]
      · rw [if_pos z1] at h1; rw [if_neg z2] at h2; exact (hd l b z2 h2 h1).elim
    · by_cases z2 : l = i
      · rw [if_neg z1] at h1; rw [if_pos z2] at h2; exact (hd j b z1 h1 h2).elim
      · rw [if_neg z1] at h1; rw [if_neg z2] at h2; exact a.dis j l b h1 h2
  · try dsimp only at h
    by_cases z1 : j = i
    · rw [if_pos z1] at h; exact hS b h
    · rw [if_neg z1] at h; exact a.new j b h
theorem Sat.set (a : Sat G0 H0 S0 σ ρ G H As) {H' : Hp} {i n : Nat} {d : Dt} {v : V} {S : Addr → Prop} (s : Same H H') (o : Own G H' n S d v) (hS : ∀ b, S b → H b = none ∧ G b = none ∧ H' b ≠ none) :
    Sat G0 H0 S0 (σ.set i (some v)) (ρ.set i (some (d, n))) G H' (fun j => if j = i then S else As j) :=
  (a.grow s).put o (fun b hb => ⟨a.ext.h.free (hS b hb).1, (hS b hb).2⟩) fun j b _ h1 h2 => (a.new j b h1).2.2 (hS b h2).1
theorem Sat.frz1 (a : Sat G0 H0 S0 σ ρ G H As) (i : Nat) : ∃ G1 As1, Sat G0 H0 S0 σ (Mi.frz1 i ρ) G1 H As1 := by
  unfold Mi.frz1
  cases e1 : ρ[i]? with
  | none => exact ⟨G, As, a⟩
  | some o =>
    cases o with
    | none => exact ⟨G, As, a⟩
    | some sl =>
      obtain ⟨d, n⟩ := sl
      dsimp only
      obtain ⟨v, h1, h2⟩ := a.at i d n e1
      obtain ⟨s1, s2⟩ := over_same (S := As i) a.ext.in'
      have x : Ext G0 H0 (over G H (As i)) H := ⟨a.ext.g.trans s1, a.ext.h, s2, fun b hb => by
        have z : ¬ As i b := fun z => hb (a.new i b z).1
        rw [over_out z]; exact a.ext.old b hb⟩
      have hv : (σ.set i (some v)) = σ := by
        have hi : i < σ.length := (List.getElem?_eq_some_iff.mp h1).1
        have he := (List.getElem?_eq_some_iff.mp h1).2
        rw [← he, List.set_getElem_self]
      have b : Sat G0 H0 S0 σ (ρ.set i (some (d, 0))) (over G H (As i)) H (fun j b => j ≠ i ∧ As j b) := by
        refine ⟨x, a.stb.trans s1, by simp [a.len], fun j e k h => ?_, fun j l b p q => a.dis j l b p.2 q.2, fun j b p => ?_⟩
        · have hj : j < ρ.length := by
            have := (List.getElem?_eq_some_iff.mp h).1
            simpa using this
          by_cases z : i = j
          · subst z
            rw [List.getElem?_set_self hj] at h
            cases h
            exact ⟨v, h1, h2.rep s1 fun b o hb e => by rw [over_in hb]; exact e⟩
          · rw [List.getElem?_set_ne z] at h
            obtain ⟨u, q1, q2⟩ := a.at j e k h
            exact ⟨u, q1, (q2.mono s1 (Same.refl _)).sub fun b hb => ⟨fun q => z q.symm, hb⟩⟩
        · obtain ⟨n1, n2, n3⟩ := a.new j b p.2
          have z : ¬ As i b := fun z => p.1 (a.dis j i b p.2 z)
          exact ⟨n1, by rw [over_out z]; exact n2, n3⟩
      exact ⟨_, _, b⟩
theorem Sat.frzAt : ∀ (vs : List Nat) {ρ : Ro} {G : Hp} {As : Nat → Addr → Prop}, Sat G0 H0 S0 σ ρ G H As → ∃ G1 As1, Sat G0 H0 S0 σ (Mi.frzAt vs ρ) G1 H As1
  | [], _, _, _, a => ⟨_, _, a⟩
  | i :: r, _, _, _, a => by
    obtain ⟨G1, As1, b⟩ := a.frz1 i
    exact Sat.frzAt r b
theorem Sat.frz (a : Sat G0 H0 S0 σ ρ G H As) : View G σ (Mi.frz ρ) := by
  refine ⟨by simp [Mi.frz, a.len], fun i d e => ?_⟩
  unfold Mi.frz at e
  rw [List.getElem?_map] at e
  cases e1 : ρ[i]? with
  | none => rw [e1] at e; cases e
  | some o =>
    rw [e1] at e
    cases o with
    | none => cases e
    | some sl =>
      obtain ⟨d', n⟩ := sl
      obtain ⟨v, h1, h2⟩ := a.at i d' n e1
      simp only [Option.map_some, Option.some.injEq] at e
      split at e
      · rename_i hz
        cases e
        rcases hz with hz | hz
        · subst hz; exact ⟨v, h1, h2⟩
        · exact ⟨v, h1, Own.scalar (k := 0) (G2 := G) (H2 := H) (S2 := fun _ => False) h2 hz⟩
      · cases e
theorem Sat.store (a : Sat G0 H0 S0 σ ρ G H As) {i n : Nat} {d : Dt} {v : V} {p : Addr} {o : HO} {S : Addr → Prop} (hp : As i p) (hv : σ[i]? = some (some v)) (w : Own G (upd H p o) n S d v)
    (hS : ∀ b, S b → As i b ∨ (H0 b = none ∧ G b = none ∧ H b ≠ none ∧ ∀ j, ¬ As j b)) : Sat G0 H0 S0 σ (ρ.set i (some (d, n))) G (upd H p o) (fun j => if j = i then S else As j) := by
  obtain ⟨p1, p2, p3⟩ := a.new i p hp
  have hn : ∀ b, H b ≠ none → upd H p o b ≠ none := fun b hb => by
    by_cases z : b = p
    · subst z; rw [upd_same]; simp
    · rw [upd_ne z]; exact hb
  refine ⟨⟨a.ext.g, L2.Same.upd a.ext.h p1 o, L2.Same.upd a.ext.in' p2 o, a.ext.old⟩, a.stb, by simp [a.len], fun j e k h => ?_, fun j l b h1 h2 => ?_, fun j b h => ?_⟩
  · have hj : j < ρ.length := by
      have := (List.getElem?_eq_some_iff.mp h).1
      simpa using this
    by_cases z : i = j
    · subst z
      rw [List.getElem?_set_self hj] at h
      cases h
      exact ⟨v, hv, by rw [if_pos rfl]; exact w⟩
    · rw [List.getElem?_set_ne z] at h
      obtain ⟨u, h1, h2⟩ := a.at j e k h
      exact ⟨u, h1, by rw [if_neg (fun q => z q.symm)]; exact h2.upd fun q => z (a.dis i j p hp q)⟩
  · have key : ∀ j b, j ≠ i → As j b → S b → False := fun j b hj h1 h2 => by
      rcases hS b h2 with q | ⟨_, _, _, q⟩
      · exact hj (a.dis j i b h1 q)
      · exact q j h1
    try dsimp only at h1 h2
    by_cases z1 : j = i
    · by_cases z2 : l = i
      · rw [z1, z2]
      · rw [if_pos z1] at h1; rw [if_neg z2] at h2; exact (key l b z2 h2 h1).elim
    · by_cases z2 : l = i
      · rw [if_neg z1] at h1; rw [if_pos z2] at h2; exact (key j b z1 h1 h2).elim
      · rw [if_neg z1] at h1; rw [if_neg z2] at h2; exact a.dis j l b h1 h2
  · try dsimp only at h
    by_cases z1 : j = i
    · rw [if_pos z1] at h
      rcases hS b h with q | ⟨q1, q2, q3, _⟩
      · obtain ⟨n1, n2, n3⟩ := a.new i b q
        exact ⟨n1, n2, hn b n3⟩
      · exact ⟨q1, q2, hn b q3⟩
    · rw [if_neg z1] at h
      obtain ⟨n1, n2, n3⟩ := a.new j b h
      exact ⟨n1, n2, hn b n3⟩
end
def PostS (mg : Str → Option Value) (E : XK) (G0 H0 S0 : Hp) (L : Nat) (r : R Out) (D : Ends) : Prop := match r with
  | none => False
  | some (.error x) => ∀ c da G' H', Ext G0 H0 G' H' → XRep mg x c da G' H' → E c da H'
  | some (.ok (.nx ρ)) => ∀ σ G H As, Sat G0 H0 S0 σ ρ G H As → D.nx σ H
  | some (.ok (.bk ρ)) => ∀ σ G H As, Sat G0 H0 S0 σ ρ G H As → D.bk σ H
  | some (.ok (.ct ρ)) => ∀ σ G H As, Sat G0 H0 S0 σ ρ G H As → D.ct σ H
  | some (.ok (.rt d)) => ∀ v G H S, Fr G0 H0 G H S → Own G H L S d v → D.rt v H
def DS (mg : Str → Option Value) (E : XK) (L : Nat) (t : TS) (m : SM) : Prop := ∀ (G0 H0 S0 : Hp) (σ : St) (ρ : Ro) (G H : Hp) (As : Nat → Addr → Prop) (D : Ends), Sat G0 H0 S0 σ ρ G H As → PostS mg E G0 H0 S0 L (m ρ) D → t D σ H
section
variable {mg : Str → Option Value} {E : XK} {L n k l : Nat} {te ta tb : TE} {e ea eb : EM} {t u : TS} {m m' : SM}
theorem errS {G0 H0 S0 : Hp} {D : Ends} : Err mg E G0 H0 (fun r => PostS mg E G0 H0 S0 L r D) := ⟨fun h => h, fun _ h => h⟩
theorem ds_nil : DS mg E L tNext Mi.sNil := fun G0 H0 S0 σ ρ G H As D a p => p σ G H As a
theorem ds_seq (A : DS mg E L t m) (B : DS mg E L u m') : DS mg E L (tSeq t u) (Mi.sSeq m m') := by
  intro G0 H0 S0 σ ρ G H As D a p
  refine A G0 H0 S0 σ ρ G H As _ a ?_
  unfold Mi.sSeq at p
  cases e : m ρ with
  | none => rw [e] at p; exact p
  | some r =>
    rw [e] at p
    cases r with
    | error x => exact p
    | ok o =>
      cases o with
      | nx ρ' => exact fun σ' G' H' As' a' => B G0 H0 S0 σ' ρ' G' H' As' D a' p
      | rt d => exact p
      | bk ρ' => exact p
      | ct ρ' => exact p
theorem ds_if {tc : TT} {c : TM} (C : DT mg E tc c) (A : DS mg E L t m) (B : DS mg E L u m') : DS mg E L (tIfS tc t u) (Mi.sIf c m m') := by
  intro G0 H0 S0 σ ρ G H As D a p
  obtain ⟨J, x, s, w⟩ := a.full
  refine C.step (errS.from x) x.in' w p fun b H' _ sH p1 => ?_
  cases b with
  | true => exact A G0 H0 S0 σ ρ G H' As D (a.grow sH) p1
  | false => exact B G0 H0 S0 σ ρ G H' As D (a.grow sH) p1
theorem whole {G0 H0 S0 : Hp} {σ : St} {ρ : Ro} {G H J G1 H1 : Hp} {As : Nat → Addr → Prop} {S : Addr → Prop} {d : Dt} {v : V} (a : Sat G0 H0 S0 σ ρ G H As) (s : Same G J) (fr : Fr J H G1 H1 S) (o : Own G1 H1 n S d v) (hn : n < 1000) (hd : d.dep ≤ n) (hk : d.dep ≤ k) :
    Own G H1 k S d v ∧ ∀ b, S b → H b = none ∧ G b = none ∧ H1 b ≠ none :=
  ⟨o.at hd hk hn, fun b hb => let ⟨n1, n2, n3⟩ := fr.new b hb; ⟨n1, a.ext.in'.free n1, n3⟩⟩
theorem ds_set {i : Nat} (vs : List Nat) (A : DE mg E te e n) (hn : n < 1000 := by decide) : DS mg E L (tAsg te (gName i)) (Mi.sSet i n vs e) := by
  intro G0 H0 S0 σ ρ G H As D a p
  obtain ⟨J, x, s, w⟩ := a.full
  unfold Mi.sSet at p
  cases ee : e (full ρ) with
  | none => rw [ee] at p; exact p.elim
  | some r =>
    cases r with
    | error y => exact A.step (errS.from x) x.in' w p fun d v G1 H1 S e1 fr o p1 => by rw [ee] at e1; cases e1
    | ok d =>
      by_cases hd : d.dep ≤ n
      · refine A.step (errS.from x) x.in' w p fun d' v G1 H1 S e1 fr o p1 => ?_
        rw [ee] at e1
        cases e1
        rw [if_pos hd] at p1
        obtain ⟨q1, q2⟩ := whole (k := n) a s fr o hn hd hd
        exact p1 _ G H1 _ (a.set fr.ext.h q1 q2)
      · rw [ee] at p
        have p' : PostS mg E G0 H0 S0 L (bindR (e (frz (frzAt vs ρ))) fun d' => okR (.nx ((frzAt vs ρ).set i (some (d', n))))) D := by
          have p2 : PostS mg E G0 H0 S0 L (if d.dep ≤ n then okR (.nx (ρ.set i (some (d, n)))) else bindR (e (frz (frzAt vs ρ))) fun d' => okR (.nx ((frzAt vs ρ).set i (some (d', n))))) D := p
          rw [if_neg hd] at p2; exact p2
        obtain ⟨G1, As1, a1⟩ := Sat.frzAt vs a
        refine A.step (errS.from a1.ext) a1.ext.in' a1.frz p' fun d' v G2 H2 S _ fr o p1 => ?_
        exact p1 _ G2 H2 _ ((a1.wider fr.ext).put o (fun b hb => let ⟨n1, n2, n3⟩ := fr.new b hb; ⟨a1.ext.h.free n1, n2, n3⟩) fun j b _ h1 h2 => (a1.new j b h1).2.2 (fr.new b h2).1)
theorem ds_ret (vs : List Nat) (A : DE mg E te e n) (hn : n < 1000 := by decide) : DS mg E L (tRet te) (Mi.sRet L n vs e) := by
  intro G0 H0 S0 σ ρ G H As D a p
  obtain ⟨J, x, s, w⟩ := a.full
  unfold Mi.sRet at p
  cases ee : e (full ρ) with
  | none => rw [ee] at p; exact p.elim
  | some r =>
    cases r with
    | error y => exact A.step (errS.from x) x.in' w p fun d v G1 H1 S e1 fr o p1 => by rw [ee] at e1; cases e1
    | ok d =>
      by_cases hd : d.dep ≤ n ∧ d.dep ≤ L
      · refine A.step (errS.from x) x.in' w p fun d' v G1 H1 S e1 fr o p1 => ?_
        rw [ee] at e1
        cases e1
        rw [if_pos hd] at p1
        exact p1 v G1 H1 S (Fr.from x fr) (o.at hd.1 hd.2 hn)
      · rw [ee] at p
        have p2 : PostS mg E G0 H0 S0 L (if d.dep ≤ n ∧ d.dep ≤ L then okR (.rt d) else if n = L then bindR (e (frz (frzAt vs ρ))) fun d' => okR (.rt d') else none) D := p
        rw [if_neg hd] at p2
        by_cases hl : n = L
        · rw [if_pos hl] at p2
          subst hl
          obtain ⟨G1, As1, a1⟩ := Sat.frzAt vs a
          refine A.step (errS.from a1.ext) a1.ext.in' a1.frz p2 fun d' v G2 H2 S _ fr o p1 => ?_
          exact p1 v G2 H2 S (Fr.from a1.ext fr) o
        · rw [if_neg hl] at p2; exact p2.elim
theorem ds_retV (i : Nat) : DS mg E L (tRet (vM i)) (Mi.sRetV L i) := by
  intro G0 H0 S0 σ ρ G H As D a p
  unfold Mi.sRetV at p
  cases e1 : ρ[i]? with
  | none => rw [e1] at p; exact p.elim
  | some o =>
    rw [e1] at p
    cases o with
    | none => exact p.elim
    | some sl =>
      obtain ⟨d, k⟩ := sl
      obtain ⟨v, h1, h2⟩ := a.at i d k e1
      show vM i σ H D.rt
      unfold vM
      rw [h1]
      dsimp only at p
      split at p
      · rename_i hz
        rcases hz with hz | hz | hz
        · subst hz; exact p v G H (As i) ⟨a.ext, fun b hb => a.new i b hb⟩ h2
        · subst hz
          obtain ⟨s1, s2⟩ := over_same (S := As i) a.ext.in'
          refine p v (over G H (As i)) H (fun _ => False) ⟨⟨a.ext.g.trans s1, a.ext.h, s2, fun b hb => ?_⟩, fun _ z => z.elim⟩ (h2.rep s1 fun b o hb e => by rw [over_in hb]; exact e)
          have z : ¬ As i b := fun z => hb (a.new i b z).1
          rw [over_out z]; exact a.ext.old b hb
        · exact p v G H (As i) ⟨a.ext, fun b hb => a.new i b hb⟩ (h2.at hz.1 hz.2.1 hz.2.2)
      · exact p.elim
theorem Sat.puts {G0 H0 S0 G H : Hp} {bs : List (Nat × Dt)} {ws : List (Nat × V)} (h : BsRep G bs ws) : ∀ {σ : St} {ρ : Ro} {As : Nat → Addr → Prop}, Sat G0 H0 S0 σ ρ G H As → ∃ As', Sat G0 H0 S0 (setsV σ ws) (setsO ρ bs) G H As' := by
  induction h with
  | nil => exact fun a => ⟨_, a⟩
  | cons r _ ih => exact fun a => ih (a.put (n := 0) (S := fun _ => False) r (fun _ z => z.elim) fun _ _ _ _ z => z.elim)
theorem ds_unp {g : TG} {is : List Nat} (vs : List Nat) (hT : TgOk g (.tup is)) (A : DE mg E te e n) : DS mg E L (tAsg te g) (Mi.sUnp is vs e) := by
  intro G0 H0 S0 σ ρ G H As D a p
  obtain ⟨G1, As1, a1⟩ := Sat.frzAt vs a
  refine (de_frz A).step (errS.from a1.ext) a1.ext.in' a1.frz p fun d v G2 H2 S _ fr o p1 => ?_
  cases eb : bindT (.tup is) d with
  | none => rw [eb] at p1; exact p1.elim
  | some bs =>
    rw [eb] at p1
    refine hT G2 H2 σ d v bs _ fr.ext.in' o eb fun ws hw => ?_
    obtain ⟨As', a2⟩ := Sat.puts hw (a1.wider fr.ext)
    exact p1 _ G2 H2 As' a2
theorem ds_app (i : Nat) (A : DE mg E te e n) (hn : n < 1000 := by decide) : DS mg E L (tDrop (tML appM (vM i) (tCons te tNil))) (Mi.sApp i n e) := by
  intro G0 H0 S0 σ ρ G H As D a p
  obtain ⟨J, x, s, w⟩ := a.full
  unfold Mi.sApp at p
  cases e1 : ρ[i]? with
  | none => rw [e1] at p; exact p.elim
  | some o =>
    rw [e1] at p
    match o, e1, p with
    | none, _, p => exact p.elim
    | some (.lst ds, k + 1), e1, p =>
      obtain ⟨v, h1, q, xs, T, rfl, hq, kd⟩ := a.at i _ _ e1
      unfold tDrop tML vM
      rw [h1]
      refine ⟨xs, hq, ?_⟩
      refine A.step (errS.from x) x.in' w p fun d y G1 H1 S _ fr o p1 => ?_
      split at p1
      · rename_i hz
        obtain ⟨q1, q2⟩ := whole (k := k) a s fr o hn hz.2.1 hz.2.2
        refine ⟨xs, fr.ext.h _ _ hq, by rw [kd.len]; exact L2.big (by omega), ?_⟩
        have hp := kd.top
        have a1 := a.grow fr.ext.h
        have nS : ¬ S q := fun z => (a.new i q hp).2.2 (q2 q z).1
        have ap : ∀ r b, T r b → S b → False := fun r b h1 h2 => (a.new i b (kd.sub r b h1)).2.2 (q2 b h2).1
        refine p1 σ G _ _ (a1.store (S := fun b => As i b ∨ S b) hp h1 ⟨q, _, fun r b => (r < ds.length ∧ T r b) ∨ (r = ds.length ∧ S b), rfl, upd_same, ⟨by simp [kd.len], fun r d' z g1 g2 => ?_, .inl hp, fun r z => ?_, fun r r' b z1 z2 => ?_, fun r b z => ?_⟩⟩ fun b z => ?_)
        · by_cases hr : r < ds.length
          · rw [List.getElem?_append_left hr] at g1
            rw [List.getElem?_append_left (by rw [kd.len]; exact hr)] at g2
            exact (((kd.own r d' z g1 g2).mono (Same.refl _) fr.ext.h).upd (kd.out r)).sub fun b z => .inl ⟨hr, z⟩
          · rw [List.getElem?_append_right (by omega)] at g1
            rw [List.getElem?_append_right (by rw [kd.len]; omega), kd.len] at g2
            have hq0 : r - ds.length = 0 := by
              have := (List.getElem?_eq_some_iff.mp g1).1
              simp at this; omega
            rw [hq0] at g1 g2
            simp at g1 g2
            subst g1; subst g2
            exact (q1.upd nS).sub fun b z => .inr ⟨by omega, z⟩
        · rcases z with ⟨_, z⟩ | ⟨_, z⟩
          · exact kd.out r z
          · exact nS z
        · rcases z1 with ⟨c1, t1⟩ | ⟨c1, t1⟩ <;> rcases z2 with ⟨c2, t2⟩ | ⟨c2, t2⟩
          · exact kd.dis r r' b t1 t2
          · exact (ap r b t1 t2).elim
          · exact (ap r' b t2 t1).elim
          · omega
        · rcases z with ⟨_, z⟩ | ⟨_, z⟩
          · exact .inl (kd.sub r b z)
          · exact .inr z
        · rcases z with z | z
          · exact .inl z
          · obtain ⟨n1, n2, n3⟩ := q2 b z
            exact .inr ⟨a.ext.h.free n1, n2, n3, fun j y => (a.new j b y).2.2 n1⟩
      · exact p1.elim
    | some (.lst ds, 0), _, p => exact p.elim
    | some (.non, _), _, p => exact p.elim
    | some (.bl _, _), _, p => exact p.elim
    | some (.int _, _), _, p => exact p.elim
    | some (.str _, _), _, p => exact p.elim
    | some (.tup _, _), _, p => exact p.elim
    | some (.scr _, _), _, p => exact p.elim
    | some (.exc _ _ _, _), _, p => exact p.elim
    | some (.ins _ _, _), _, p => exact p.elim
    | some (.dct _, _), _, p => exact p.elim
theorem Kids.pop {P : (Addr → Prop) → Dt → V → Prop} {S : Addr → Prop} {a : Addr} {ds : List Dt} {xs : List V} {T : Nat → Addr → Prop} (k : Kids P S a ds xs T) (q : Nat) :
    Kids P (fun b => S b ∧ ¬ T q b) a (ds.eraseIdx q) (xs.eraseIdx q) (fun r => if r < q then T r else T (r + 1)) := by
  refine ⟨by rw [List.length_eraseIdx, List.length_eraseIdx, k.len], fun r d x h1 h2 => ?_, ⟨k.top, k.out q⟩, fun r => ?_, fun r r' b z1 z2 => ?_, fun r b z => ?_⟩
  · rw [List.getElem?_eraseIdx] at h1 h2
    try dsimp only
    by_cases hr : r < q
    · rw [if_pos hr] at h1 h2 ⊢; exact k.own r d x h1 h2
    · rw [if_neg hr] at h1 h2 ⊢; exact k.own (r + 1) d x h1 h2
  · try dsimp only
    split
    · exact k.out _
    · exact k.out _
  · try dsimp only at z1 z2
    by_cases h1 : r < q <;> by_cases h2 : r' < q
    · rw [if_pos h1] at z1; rw [if_pos h2] at z2; exact k.dis _ _ b z1 z2
    · rw [if_pos h1] at z1; rw [if_neg h2] at z2; have := k.dis _ _ b z1 z2; omega
    · rw [if_neg h1] at z1; rw [if_pos h2] at z2; have := k.dis _ _ b z1 z2; omega
    · rw [if_neg h1] at z1; rw [if_neg h2] at z2; have := k.dis _ _ b z1 z2; omega
  · try dsimp only at z
    by_cases h1 : r < q
    · rw [if_pos h1] at z; exact ⟨k.sub _ b z, fun w => by have := k.dis _ _ b z w; omega⟩
    · rw [if_neg h1] at z; exact ⟨k.sub _ b z, fun w => by have := k.dis _ _ b z w; omega⟩
theorem own_up {G H : Hp} {p : Addr} {o : HO} {S : Addr → Prop} {a : Addr} {ds : List Dt} {xs : List V} {T : Nat → Addr → Prop} (k : Kids (Own G H n) S a ds xs T) (hp : ∀ q, ¬ T q p) : Kids (Own G (upd H p o) n) S a ds xs T :=
  ⟨k.len, fun q d x h1 h2 => (k.own q d x h1 h2).upd (hp q), k.top, k.out, k.dis, k.sub⟩
theorem ds_pop (j i : Nat) (A : DE mg E te e n) : DS mg E L (tAsg (tML popM (vM i) (tCons te tNil)) (gName j)) (Mi.sPop j i e) := by
  intro G0 H0 S0 σ ρ G H As D a p
  obtain ⟨J, x, s, w⟩ := a.full
  unfold Mi.sPop at p
  cases e1 : ρ[i]? with
  | none => rw [e1] at p; exact p.elim
  | some o =>
    rw [e1] at p
    match o, e1, p with
    | none, _, p => exact p.elim
    | some (.lst ds, k + 1), e1, p =>
      obtain ⟨v, h1, q, xs, T, rfl, hq, kd⟩ := a.at i _ _ e1
      unfold tAsg tML vM
      rw [h1]
      refine ⟨xs, hq, ?_⟩
      refine (de_frz A).step (errS.from x) x.in' w p fun d y G1 H1 S _ fr o p1 => ?_
      cases d with
      | int z =>
        cases (show y = .int z from o)
        dsimp only at p1
        cases ei : Mi.ixA ds.length z with
        | none => rw [ei] at p1; exact p1.elim
        | some c =>
          rw [ei] at p1
          dsimp only at p1
          cases ec : ds[c]? with
          | none => rw [ec] at p1; exact p1.elim
          | some dc =>
            rw [ec] at p1
            dsimp only at p1
            split at p1
            · rename_i hz
              rw [ixA_eq] at ei
              obtain ⟨g1, g2, g3, g4⟩ := ixN_seq ei
              have hc : c < xs.length := by rw [kd.len]; exact g2
              have hx : xs[c]? = some xs[c] := List.getElem?_eq_getElem hc
              refine ⟨xs, c, xs[c], fr.ext.h _ _ hq, ⟨by omega, by omega⟩, by rw [kd.len]; exact g1, hx, ?_⟩
              have a1 := a.grow fr.ext.h
              have kd1 : Kids (Own G H1 k) (As i) q ds xs T := kd.imp (fun _ _ _ _ w => w.mono (Same.refl _) fr.ext.h) fun _ z => z
              have a2 := a1.store (o := .lst (xs.eraseIdx c)) (n := k + 1) (d := .lst (ds.eraseIdx c)) (S := fun b => As i b ∧ ¬ T c b) kd.top h1 ⟨q, _, _, rfl, upd_same, own_up (kd1.pop c) fun r => by split <;> exact kd.out _⟩ fun b z => .inl z.1
              refine p1 _ G _ _ (a2.put (S := T c) ((kd1.own c dc _ ec hx).upd (kd.out c)) (fun b hb => ?_) fun l b hl z1 z2 => ?_)
              · obtain ⟨n1, n2, n3⟩ := a1.new i b (kd.sub c b hb)
                refine ⟨n1, n2, ?_⟩
                rw [upd_ne (fun z : b = q => kd.out c (z ▸ hb))]; exact n3
              · try dsimp only at z1
                by_cases z : l = i
                · rw [if_pos z] at z1; exact z1.2 z2
                · rw [if_neg z] at z1; exact z (a.dis l i b z1 (kd.sub c b z2))
            · exact p1.elim
      | _ => exact p1.elim
    | some (.lst ds, 0), _, p => exact p.elim
    | some (.non, _), _, p => exact p.elim
    | some (.bl _, _), _, p => exact p.elim
    | some (.int _, _), _, p => exact p.elim
    | some (.str _, _), _, p => exact p.elim
    | some (.tup _, _), _, p => exact p.elim
    | some (.scr _, _), _, p => exact p.elim
    | some (.exc _ _ _, _), _, p => exact p.elim
    | some (.ins _ _, _), _, p => exact p.elim
    | some (.dct _, _), _, p => exact p.elim
end
end L3

namespace L3
open PySem PySem.Spec
open L2 hiding Rep RepL
open Mi (Dt Xn R okR bindR optR bindR_ok bindR_none bindR_err optR_some optR_none Rh Sl Ro EM TM AM FM IM SM Tg Out bindT setsH setsO full frz frz1 frzAt)
section
variable [Kc] {mg : Str → Option Value} {E : XK} {L n k l : Nat} {te ta tb : TE} {e ea eb : EM} {t u : TS} {m m' : SM}
theorem Kids.set {G H : Hp} {S : Addr → Prop} {a p : Addr} {ds : List Dt} {xs : List V} {T : Nat → Addr → Prop} {S' : Addr → Prop} {d : Dt} {v : V} {o : HO} (k : Kids (Own G H n) S a ds xs T) (q : Nat) (w : Own G (upd H p o) n S' d v) (hp : ∀ r, r ≠ q → ¬ T r p) (ha : ¬ S' a)
    (hd : ∀ r b, r ≠ q → T r b → S' b → False) : Kids (Own G (upd H p o) n) (fun b => S b ∨ S' b) a (ds.set q d) (xs.set q v) (fun r b => if r = q then S' b else T r b) := by
  refine ⟨by simp [k.len], fun r d' x h1 h2 => ?_, .inl k.top, fun r => ?_, fun r r' b z1 z2 => ?_, fun r b z => ?_⟩
  · by_cases z : q = r
    · subst z
      have h : q < ds.length := by
        have := (List.getElem?_eq_some_iff.mp h1).1
        simpa using this
      rw [List.getElem?_set_self h] at h1
      rw [List.getElem?_set_self (by rw [k.len]; exact h)] at h2
      cases h1; cases h2
      exact w.sub fun b hb => by rw [if_pos rfl]; exact hb
    · rw [List.getElem?_set_ne z] at h1 h2
      exact ((k.own r d' x h1 h2).upd (hp r fun y => z y.symm)).sub fun b hb => by rw [if_neg (fun y => z y.symm)]; exact hb
  · try dsimp only
    split
    · exact ha
    · exact k.out _
  · try dsimp only at z1 z2
    by_cases h1 : r = q <;> by_cases h2 : r' = q
    · rw [h1, h2]
    · rw [if_pos h1] at z1; rw [if_neg h2] at z2; exact (hd r' b h2 z2 z1).elim
    · rw [if_neg h1] at z1; rw [if_pos h2] at z2; exact (hd r b h1 z1 z2).elim
    · rw [if_neg h1] at z1; rw [if_neg h2] at z2; exact k.dis _ _ b z1 z2
  · try dsimp only at z
    by_cases h1 : r = q
    · rw [if_pos h1] at z; exact .inr z
    · rw [if_neg h1] at z; exact .inl (k.sub _ b z)
theorem ds_item (i : Nat) {n1 : Nat} {t1 t2 : TE} {e1 e2 : EM} (A : DE mg E t1 e1 n1) (B : DE mg E t2 e2 n) (hn : n < 1000 := by decide) : DS mg E L (tAsg t2 (gSub (vM i) t1 setM)) (Mi.sItem i n e1 e2) := by
  intro G0 H0 S0 σ ρ G H As D a p
  obtain ⟨J, x, s, w⟩ := a.full
  refine B.step (errS.from x) x.in' w p fun d y G1 H1 S _ fr o p1 => ?_
  cases er : ρ[i]? with
  | none => rw [er] at p1; exact p1.elim
  | some sl =>
    rw [er] at p1
    match sl, er, p1 with
    | none, _, p => exact p.elim
    | some (.lst ds, k + 1), er, p1 =>
      obtain ⟨v, h1, q, xs, T, rfl, hq, kd⟩ := a.at i _ _ er
      unfold gSub vM
      rw [h1]
      have x1 : Ext J H J H1 := Ext.same x.in' fr.ext.h
      refine (de_frz A).step (errS.from (x.trans x1)) x1.in' w p1 fun z u G2 H2 S2 _ fr2 o2 p2 => ?_
      cases z with
      | int z =>
        cases (show u = .int z from o2)
        try dsimp only at p2
        cases ei : Mi.ixA ds.length z with
        | none => rw [ei] at p2; exact p2.elim
        | some c =>
          rw [ei] at p2
          try dsimp only at p2
          split at p2
          · rename_i hz
            rw [ixA_eq] at ei
            obtain ⟨q1, q2⟩ := whole (k := k) a s fr o hn hz.1 hz.2
            have sH := fr.ext.h.trans fr2.ext.h
            refine ⟨xs, c, sH _ _ hq, by rw [kd.len]; exact ei, ?_⟩
            have a1 := a.grow sH
            have nS : ¬ S q := fun z => (a.new i q kd.top).2.2 (q2 q z).1
            have kd1 : Kids (Own G H2 k) (As i) q ds xs T := kd.imp (fun _ _ _ _ w => w.mono (Same.refl _) sH) fun _ z => z
            refine p2 σ G _ _ (a1.store (S := fun b => As i b ∨ S b) kd.top h1 ⟨q, _, _, rfl, upd_same, kd1.set c ((q1.mono (Same.refl _) fr2.ext.h).upd nS) (fun r _ => kd.out r) nS fun r b _ z1 z2 => (a.new i b (kd.sub r b z1)).2.2 (q2 b z2).1⟩ fun b z => ?_)
            rcases z with z | z
            · exact .inl z
            · obtain ⟨n1, n2, n3⟩ := q2 b z
              exact .inr ⟨a.ext.h.free n1, n2, fr2.ext.h.some n3, fun j y => (a.new j b y).2.2 n1⟩
          · exact p2.elim
      | _ => exact p2.elim
    | some (.lst ds, 0), _, p => exact p.elim
    | some (.non, _), _, p => exact p.elim
    | some (.bl _, _), _, p => exact p.elim
    | some (.int _, _), _, p => exact p.elim
    | some (.str _, _), _, p => exact p.elim
    | some (.tup _, _), _, p => exact p.elim
    | some (.scr _, _), _, p => exact p.elim
    | some (.exc _ _ _, _), _, p => exact p.elim
    | some (.ins _ _, _), _, p => exact p.elim
    | some (.dct _, _), _, p => exact p.elim
theorem ds_appPop (j i : Nat) (A : DE mg E te e n) : DS mg E L (tDrop (tML appM (vM j) (tCons (tML popM (vM i) (tCons te tNil)) tNil))) (Mi.sAppPop j i e) := by
  intro G0 H0 S0 σ ρ G H As D a p
  obtain ⟨J, x, s, w⟩ := a.full
  unfold Mi.sAppPop at p
  cases f1 : ρ[j]? with
  | none => rw [f1] at p; exact p.elim
  | some oj =>
    rw [f1] at p
    match oj, f1, p with
    | none, _, p => exact p.elim
    | some (.lst es, l + 1), f1, p =>
      cases e1 : ρ[i]? with
      | none => rw [e1] at p; exact p.elim
      | some o =>
        rw [e1] at p
        match o, e1, p with
        | none, _, p => exact p.elim
        | some (.lst ds, k + 1), e1, p =>
          obtain ⟨v', g1, q', ys, T', rfl, hq', kd'⟩ := a.at j _ _ f1
          obtain ⟨v, h1, q, xs, T, rfl, hq, kd⟩ := a.at i _ _ e1
          unfold tDrop tML tCons vM
          rw [g1]
          refine ⟨ys, hq', ?_⟩
          dsimp only
          rw [h1]
          refine ⟨xs, hq, ?_⟩
          refine (de_frz A).step (errS.from x) x.in' w p fun d y G1 H1 S _ fr o p1 => ?_
          cases d with
          | int z =>
            cases (show y = .int z from o)
            try dsimp only at p1
            cases ei : Mi.ixA ds.length z with
            | none => rw [ei] at p1; exact p1.elim
            | some c =>
              rw [ei] at p1
              try dsimp only at p1
              cases ec : ds[c]? with
              | none => rw [ec] at p1; exact p1.elim
              | some dc =>
                rw [ec] at p1
                try dsimp only at p1
                split at p1
                · rename_i hz
                  obtain ⟨hij, hz1, hz2, hlv⟩ := hz
                  rw [ixA_eq] at ei
                  obtain ⟨b1, b2, b3, b4⟩ := ixN_seq ei
                  have hc : c < xs.length := by rw [kd.len]; exact b2
                  have hx : xs[c]? = some xs[c] := List.getElem?_eq_getElem hc
                  refine ⟨xs, c, xs[c], fr.ext.h _ _ hq, ⟨by omega, by omega⟩, by rw [kd.len]; exact b1, hx, ?_⟩
                  have a1 := a.grow fr.ext.h
                  have kd1 : Kids (Own G H1 k) (As i) q ds xs T := kd.imp (fun _ _ _ _ w => w.mono (Same.refl _) fr.ext.h) fun _ z => z
                  have hqq : q' ≠ q := fun z => hij (a.dis i j q kd.top (z ▸ kd'.top))
                  have hjq : ¬ As j q := fun z => hij (a.dis i j q kd.top z)
                  have kd1' : Kids (Own G (upd H1 q (.lst (xs.eraseIdx c))) l) (As j) q' es ys T' := own_up (kd'.imp (fun _ _ _ _ w => w.mono (Same.refl _) fr.ext.h) fun _ z => z) fun r z => hjq (kd'.sub r q z)
                  refine ⟨ys, by rw [upd_ne hqq]; exact fr.ext.h _ _ hq', by rw [kd'.len]; exact L2.big (by omega), ?_⟩
                  have a2 := a1.store (o := .lst (xs.eraseIdx c)) (n := k + 1) (d := .lst (ds.eraseIdx c)) (S := fun b => As i b ∧ ¬ T c b) kd.top h1 ⟨q, _, _, rfl, upd_same, own_up (kd1.pop c) fun r => by split <;> exact kd.out _⟩ fun b z => .inl z.1
                  have wc : Own G (upd H1 q (.lst (xs.eraseIdx c))) l (T c) dc xs[c] := by
                    have w0 := (kd1.own c dc _ ec hx).upd (o := .lst (xs.eraseIdx c)) (kd.out c)
                    rcases hlv with z | ⟨z1, z2, z3⟩
                    · subst z; exact w0
                    · exact w0.at z1 z2 z3
                  have nT : ¬ T c q' := fun z => hij (a.dis i j q' (kd.sub c q' z) kd'.top)
                  have ap : ∀ r b, T' r b → T c b → False := fun r b z1 z2 => hij (a.dis i j b (kd.sub c b z2) (kd'.sub r b z1))
                  have e3 : (if j = i then fun b => As i b ∧ ¬ T c b else As j) = As j := if_neg (fun z => hij z.symm)
                  have hp : (fun l => if l = i then fun b => As i b ∧ ¬ T c b else As l) j q' := by
                    show (if j = i then fun b => As i b ∧ ¬ T c b else As j) q'
                    rw [e3]; exact kd'.top
                  refine p1 σ G _ _ (a2.store (i := j) (p := q') (S := fun b => As j b ∨ T c b) (n := l + 1) (d := .lst (es ++ [dc])) (v := .ref q') (o := .lst (ys ++ [xs[c]])) hp g1
                    ⟨q', _, fun r b => (r < es.length ∧ T' r b) ∨ (r = es.length ∧ T c b), rfl, upd_same, ⟨by simp [kd'.len], fun r d' z f1 f2 => ?_, .inl kd'.top, fun r z => ?_, fun r r' b z1 z2 => ?_, fun r b z => ?_⟩⟩ fun b z => ?_)
                  · by_cases hr : r < es.length
                    · rw [List.getElem?_append_left hr] at f1
                      rw [List.getElem?_append_left (by rw [kd'.len]; exact hr)] at f2
                      exact ((kd1'.own r d' z f1 f2).upd (kd'.out r)).sub fun b z => .inl ⟨hr, z⟩
                    · rw [List.getElem?_append_right (by omega)] at f1
                      rw [List.getElem?_append_right (by rw [kd'.len]; omega), kd'.len] at f2
                      have hq0 : r - es.length = 0 := by
                        have := (List.getElem?_eq_some_iff.mp f1).1
                        simp at this; omega
                      rw [hq0] at f1 f2
                      simp at f1 f2
                      subst f1; subst f2
                      exact (wc.upd nT).sub fun b z => .inr ⟨by omega, z⟩
                  · rcases z with ⟨_, z⟩ | ⟨_, z⟩
                    · exact kd'.out r z
                    · exact nT z
                  · rcases z1 with ⟨c1, t1⟩ | ⟨c1, t1⟩ <;> rcases z2 with ⟨c2, t2⟩ | ⟨c2, t2⟩
                    · exact kd'.dis r r' b t1 t2
                    · exact (ap r b t1 t2).elim
                    · exact (ap r' b t2 t1).elim
                    · omega
                  · rcases z with ⟨_, z⟩ | ⟨_, z⟩
                    · exact .inl (kd'.sub r b z)
                    · exact .inr z
                  · rcases z with z | z
                    · refine .inl ?_
                      show (if j = i then fun b => As i b ∧ ¬ T c b else As j) b
                      rw [e3]; exact z
                    · obtain ⟨n1, n2, n3⟩ := a1.new i b (kd.sub c b z)
                      refine .inr ⟨n1, n2, ?_, fun r y => ?_⟩
                      · rw [upd_ne (fun y : b = q => kd.out c (y ▸ z))]; exact n3
                      · have y' : (if r = i then fun b => As i b ∧ ¬ T c b else As r) b := y
                        by_cases hr : r = i
                        · rw [if_pos hr] at y'; exact y'.2 z
                        · rw [if_neg hr] at y'; exact hr (a.dis r i b y' (kd.sub c b z))
                · exact p1.elim
          | _ => exact p1.elim
        | some (.lst ds, 0), _, p => exact p.elim
        | some (.non, _), _, p => exact p.elim
        | some (.bl _, _), _, p => exact p.elim
        | some (.int _, _), _, p => exact p.elim
        | some (.str _, _), _, p => exact p.elim
        | some (.tup _, _), _, p => exact p.elim
        | some (.scr _, _), _, p => exact p.elim
        | some (.exc _ _ _, _), _, p => exact p.elim
        | some (.ins _ _, _), _, p => exact p.elim
        | some (.dct _, _), _, p => exact p.elim
    | some (.lst ds, 0), _, p => exact p.elim
    | some (.non, _), _, p => exact p.elim
    | some (.bl _, _), _, p => exact p.elim
    | some (.int _, _), _, p => exact p.elim
    | some (.str _, _), _, p => exact p.elim
    | some (.tup _, _), _, p => exact p.elim
    | some (.scr _, _), _, p => exact p.elim
    | some (.exc _ _ _, _), _, p => exact p.elim
    | some (.ins _ _, _), _, p => exact p.elim
    | some (.dct _, _), _, p => exact p.elim
theorem for_of {G0 H0 S0 : Hp} {D : Ends} {g : TG} {tg : Tg} {J : It} {ds : List Dt} {GJ : Hp} (hT : TgOk g tg) (B : DS mg E L t m) (io : ItOk J GJ ds) {σ : St} {ρ : Ro} {G H : Hp} {As : Nat → Addr → Prop} (a : Sat G0 H0 S0 σ ρ G H As) (sJ : Same GJ G)
    (p : PostS mg E G0 H0 S0 L (Mi.forGo tg m ds ρ) D) : tForK g t D σ J H := by
  refine ⟨fun i c σ H => c = ds.length - i ∧ i ≤ ds.length ∧ ∃ ρ G As, Sat G0 H0 S0 σ ρ G H As ∧ Same GJ G ∧ PostS mg E G0 H0 S0 L (Mi.forGo tg m (ds.drop i) ρ) D,
    ⟨_, rfl, Nat.zero_le _, ρ, G, As, a, sJ, by rw [List.drop_zero]; exact p⟩, ?_⟩
  rintro i c σ H ⟨rfl, hi, ρ, G, As, a, sJ, p⟩
  obtain ⟨j1, j2, j3⟩ := io i G H sJ a.ext.in'
  by_cases hlt : i < ds.length
  · refine .inr ⟨j1 hlt, fun σ' H' => i + 1 ≤ ds.length ∧ ∃ ρ G As, Sat G0 H0 S0 σ' ρ G H' As ∧ Same GJ G ∧ PostS mg E G0 H0 S0 L (Mi.forGo tg m (ds.drop (i + 1)) ρ) D, fun σ' H' q => ⟨ds.length - (i + 1), by omega, rfl, q⟩, fun x H2 hy => ?_⟩
    have hd : ds[i]? = some ds[i] := List.getElem?_eq_getElem hlt
    obtain ⟨G2, x2, r2⟩ := j3 x H2 ds[i] hd hy
    rw [List.drop_eq_getElem_cons hlt, Mi.forGo] at p
    cases eb : bindT tg ds[i] with
    | none => rw [eb] at p; exact p.elim
    | some bs =>
      rw [eb] at p
      try dsimp only at p
      refine hT G2 H2 _ _ x bs _ x2.in' r2 eb fun ws hb => ?_
      obtain ⟨As2, a2⟩ := Sat.puts hb (a.wider x2)
      have a3 : Sat G0 H0 GJ (setsV σ ws) (setsO ρ bs) G2 H2 As2 := ⟨a2.ext, sJ.trans x2.g, a2.len, a2.at, a2.dis, a2.new⟩
      have key : ∀ (S1 : Hp), Same S0 S1 → Same GJ S1 → Sat G0 H0 S1 (setsV σ ws) (setsO ρ bs) G2 H2 As2 → t { D with nx := fun σ' H' => i + 1 ≤ ds.length ∧ ∃ ρ G As, Sat G0 H0 S0 σ' ρ G H' As ∧ Same GJ G ∧ PostS mg E G0 H0 S0 L (Mi.forGo tg m (ds.drop (i + 1)) ρ) D, ct := fun σ' H' => i + 1 ≤ ds.length ∧ ∃ ρ G As, Sat G0 H0 S0 σ' ρ G H' As ∧ Same GJ G ∧ PostS mg E G0 H0 S0 L (Mi.forGo tg m (ds.drop (i + 1)) ρ) D, bk := D.nx } (setsV σ ws) H2 := by
        intro S1 s1 s2 a4
        refine B G0 H0 S1 _ _ G2 H2 As2 _ a4 ?_
        have back : ∀ {σ' : St} {ρ' : Ro} {G' H' : Hp} {As' : Nat → Addr → Prop}, Sat G0 H0 S1 σ' ρ' G' H' As' → Sat G0 H0 S0 σ' ρ' G' H' As' ∧ Same GJ G' := fun a5 => ⟨⟨a5.ext, s1.trans a5.stb, a5.len, a5.at, a5.dis, a5.new⟩, s2.trans a5.stb⟩
        cases em : m (setsO ρ bs) with
        | none => rw [em] at p; exact p
        | some r =>
          rw [em] at p
          cases r with
          | error y => exact p
          | ok o =>
            cases o with
            | nx ρ' => exact fun σ' G' H' As' a5 => ⟨hlt, ρ', G', As', (back a5).1, (back a5).2, p⟩
            | ct ρ' => exact fun σ' G' H' As' a5 => ⟨hlt, ρ', G', As', (back a5).1, (back a5).2, p⟩
            | bk ρ' => exact fun σ' G' H' As' a5 => p σ' G' H' As' (back a5).1
            | rt d => exact p
      exact key G2 a2.stb (sJ.trans x2.g) ⟨a2.ext, Same.refl _, a2.len, a2.at, a2.dis, a2.new⟩
  · have e : i = ds.length := by omega
    subst e
    rw [List.drop_length, Mi.forGo] at p
    exact .inl ⟨j2 (Nat.le_refl _), p σ G H As a⟩
theorem ds_for {wi : TI} {it : IM} {g : TG} {tg : Tg} (vs : List Nat) {ind : Bool} (I : DI mg E wi it ind) (hT : TgOk g tg) (B : DS mg E L t m) : DS mg E L (fun D σ H => wi σ H (tForK g t D σ)) (Mi.sFor vs it tg m) := by
  intro G0 H0 S0 σ ρ G H As D a p
  obtain ⟨G1, As1, a1⟩ := Sat.frzAt vs a
  refine I.step (errS.from a1.ext) a1.ext.in' a1.frz p fun ds J G2 H2 _ x2 io p1 => ?_
  refine for_of hT B io (a1.wider x2) ?_ p1
  unfold baseI
  split
  · exact fun b o e => by cases e
  · exact Same.refl _
theorem ds_forR {wi : TI} {it : IM} {i : Nat} (I : DI mg E wi it true) (B : DS mg E L t m) : DS mg E L (fun D σ H => wi σ H (tForK (gName i) t D σ)) (Mi.sForR it i m) := by
  intro G0 H0 S0 σ ρ G H As D a p
  obtain ⟨J, x, s, w⟩ := a.full
  refine I.step (errS.from x) x.in' w p fun ds J G2 H2 _ x2 io p1 => ?_
  exact for_of (tg_name i) B io (a.grow x2.h) (fun b o e => by cases e) p1
theorem wh_of {G0 H0 S0 : Hp} {D : Ends} {tc : TT} {c : TM} (C : DT mg E tc c) (B : DS mg E L t m) (N : Nat) {σ : St} {ρ : Ro} {G H : Hp} {As : Nat → Addr → Prop} (a : Sat G0 H0 S0 σ ρ G H As) (p : PostS mg E G0 H0 S0 L (Mi.whGo c m N ρ) D) : tWhile tc t D σ H := by
  refine ⟨fun i σ H => ∃ ρ G As, Sat G0 H0 S0 σ ρ G H As ∧ PostS mg E G0 H0 S0 L (Mi.whGo c m i ρ) D, ⟨N, ρ, G, As, a, p⟩, ?_⟩
  rintro i σ H ⟨ρ, G, As, a, p⟩
  cases i with
  | zero => exact p.elim
  | succ i =>
    obtain ⟨J, x, s, w⟩ := a.full
    rw [Mi.whGo] at p
    refine C.step (errS.from x) x.in' w p fun b H' _ sH p1 => ?_
    cases b with
    | false => exact p1 σ G H' As (a.grow sH)
    | true =>
      rw [if_pos rfl]
      refine ⟨fun σ' H' => ∃ ρ G As, Sat G0 H0 S0 σ' ρ G H' As ∧ PostS mg E G0 H0 S0 L (Mi.whGo c m i ρ) D, fun σ' H' q => ⟨i, Nat.lt_succ_self i, q⟩, ?_⟩
      refine B G0 H0 S0 σ ρ G H' As _ (a.grow sH) ?_
      rw [if_pos rfl] at p1
      cases em : m ρ with
      | none => rw [em] at p1; exact p1
      | some r =>
        rw [em] at p1
        cases r with
        | error y => exact p1
        | ok o =>
          cases o with
          | nx ρ' => exact fun σ' G' H' As' a5 => ⟨ρ', G', As', a5, p1⟩
          | ct ρ' => exact fun σ' G' H' As' a5 => ⟨ρ', G', As', a5, p1⟩
          | bk ρ' => exact fun σ' G' H' As' a5 => p1 σ' G' H' As' a5
          | rt d => exact p1
theorem ds_while {tc : TT} {c : TM} (C : DT mg E tc c) (B : DS mg E L t m) : DS mg E L (tWhile tc t) (Mi.sWhile c m) := fun G0 H0 S0 σ ρ G H As D a p => wh_of C B _ a p
theorem dz (A : DE mg E te e 0) : DE mg E te e 0 := A
theorem spM_len {P N : Nat} {vs : List V} {H : Hp} {Q : VK} {E : XK} (h : spM mg L (Mi.runF P N m) vs H Q E) : vs.length = P := by
  obtain ⟨G, ds, s, r, p⟩ := h
  rw [r.length]
  unfold Mi.runF at p
  split at p
  · rename_i h; exact h
  · exact p.elim
theorem run_ok {P : Nat} {N : List Str} {vs : List V} {H : Hp} {Q : VK} (B : DS mg E L t m) (h : spM mg L (Mi.runF P N.length m) vs H Q E) : t { nx := fun _ H' => Q .non H', rt := Q } (L2.start N vs) H := by
  obtain ⟨G, ds, s, r, p⟩ := h
  unfold Mi.runF at p
  split at p
  · refine B G H G _ (Mi.startO N.length ds) G H (fun _ _ => False) _ ⟨Ext.refl s, Same.refl _, ?_, fun i d n e => ?_, fun _ _ _ z => z.elim, fun _ _ z => z.elim⟩ ?_
    · unfold Mi.startO L2.start
      simp [r.length]
    · unfold Mi.startO at e
      by_cases hi : i < ds.length
      · rw [List.getElem?_append_left (by simpa using hi), List.getElem?_map] at e
        cases e1 : ds[i]? with
        | none => rw [e1] at e; cases e
        | some d' =>
          rw [e1] at e
          cases e
          have hv : vs[i]? = some (vs[i]'(by rw [r.length]; exact hi)) := by simp
          refine ⟨vs[i]'(by rw [r.length]; exact hi), ?_, repL_at r e1 hv⟩
          unfold L2.start
          rw [List.getElem?_append_left (by simpa [r.length] using hi), List.getElem?_map, hv]
          rfl
      · rw [List.getElem?_append_right (by simpa using hi), List.getElem?_replicate] at e
        split at e <;> cases e
    · cases em : m (Mi.startO N.length ds) with
      | none => rw [em] at p; exact p
      | some r =>
        rw [em] at p
        cases r with
        | error y => exact p
        | ok o =>
          cases o with
          | nx ρ' => exact fun σ' G' H' As' a => PostE.val (d := .non) p a.ext rfl rfl
          | rt d => exact p
          | bk ρ' => exact p.elim
          | ct ρ' => exact p.elim
  · exact p.elim
end
end L3
namespace L3
open PySem PySem.Spec
open L2 hiding Rep RepL
open Mi (Dt FM okR)
def sp0 (K : PySem.W.Frag) (mg : Str → Option Value) (L : Nat) (f : FM) : Sp := fun vs H Q _ => @spM ⟨K⟩ mg L f vs H Q E0
end L3

namespace L3
open PySem PySem.Spec
open L2 hiding Rep RepL
open Mi (Dt Xn R okR bindR optR bindR_ok bindR_none bindR_err optR_some optR_none Rh Sl Ro EM TM AM FM IM SM OM Tg Out bindT setsH setsO full frz frz1 frzAt)
section
variable [Kc] {mg : Str → Option Value} {E : XK} {L n k l : Nat} {te ta tb : TE} {e ea eb : EM} {t u : TS} {m m' : SM}
theorem cb_int : CBi (fun xs H Q => (∃ i, xs = [.int i] ∧ Q (.int i) H) ∨ ∃ k, xs = [.bl k] ∧ Q (.int (if k then 1 else 0)) H) Mi.intD n := by
  intro mg E G H ds vs Q s h p
  match ds, h, p with
  | [.int i], h, p =>
    obtain ⟨x, rfl, hx⟩ := repL1 h
    cases (show x = .int i from hx)
    exact .inl ⟨i, rfl, PostE.val p (Ext.refl s) rfl rfl⟩
  | [.bl b], h, p =>
    obtain ⟨x, rfl, hx⟩ := repL1 h
    cases (show x = .bl b from hx)
    exact .inr ⟨b, rfl, PostE.val p (Ext.refl s) rfl rfl⟩
  | [], _, p => exact p.elim
  | [.non], _, p => exact p.elim
  | [.str _], _, p => exact p.elim
  | [.lst _], _, p => exact p.elim
  | [.tup _], _, p => exact p.elim
  | [.scr _], _, p => exact p.elim
  | [.exc _ _ _], _, p => exact p.elim
  | [.ins _ _], _, p => exact p.elim
  | [.dct _], _, p => exact p.elim
  | x :: _ :: _, _, p => cases x <;> exact p.elim
end
end L3

namespace L3
open PySem PySem.Spec
open L2 hiding Rep RepL
open Mi (Dt Xn R okR bindR optR bindR_ok bindR_none bindR_err optR_some optR_none Rh Sl Ro EM TM AM FM IM SM OM Tg Out bindT setsH setsO full frz frz1 frzAt)
section
variable [Kc] {mg : Str → Option Value} {E : XK} {L n k l : Nat} {te ta tb : TE} {e ea eb ma : EM} {t : TA} {m : AM}
theorem its_ok {G : Hp} (z : Str) : ItOk (Its z) G (Mi.signsD z) := by
  intro i G1 H1 s1 s2
  have hl : (Mi.signsD z).length = z.cps.size := by simp [Mi.signsD]
  refine ⟨fun hi => by rw [hl] at hi; exact hi, fun hi => by rw [hl] at hi; exact hi, fun x H2 d hd hy => ?_⟩
  obtain ⟨rfl, c, hc, rfl⟩ := hy
  refine ⟨G1, Ext.refl s2, ?_⟩
  unfold Mi.signsD at hd
  rw [List.getElem?_map] at hd
  have hc' : z.cps.toList[i]? = some c := by simpa using hc
  rw [hc'] at hd
  cases hd
  rfl
theorem di_all (A : DE mg E ta ma k) : DI mg E (iAny Kc.K ta) (Mi.iSq ma) false := by
  intro G H σ ρ Q s w p
  refine (de_frz A).step errI s w p fun d v G1 H1 S _ fr o p1 => ?_
  cases d with
  | lst ds =>
    obtain ⟨a, xs, rfl, ha, r⟩ := o
    exact .inl ⟨⟨xs, SqL.of (fr.ext.in' _ _ ha)⟩, p1 _ G1 H1 fr.ext (itl_ok (SqL.of ha) r)⟩
  | tup ds =>
    obtain ⟨a, xs, rfl, ha, r⟩ := o
    exact .inr ⟨⟨xs, SqT.of (fr.ext.in' _ _ ha)⟩, p1 _ G1 H1 fr.ext (itt_ok (SqT.of ha) r)⟩
  | scr ns =>
    obtain ⟨a, rfl, ha⟩ := o
    rcases ha with ha | ha
    · exact .inl ⟨⟨_, fr.ext.in'.seq ha⟩, p1 _ G1 H1 fr.ext (itl_ok ha (repL_ints ns))⟩
    · exact .inr ⟨⟨_, seqT_mono fr.ext.in' ha⟩, p1 _ G1 H1 fr.ext (itt_ok ha (repL_ints ns))⟩
  | str z =>
    cases (show v = .str z from o)
    exact p1 _ G1 H1 fr.ext (its_ok z)
  | _ => exact p1.elim
end
end L3

namespace Mi
open PySem
noncomputable section
def noE {α : Type} (r : R α) : R α := match r with
  | some (.ok a) => okR a
  | _ => none
def eCallN (f : FM) (am : AM) : EM := fun ρ => bindR (am ρ) fun ds => noE (f ds)
def eMkX (c f : Str) (am : AM) : EM := fun ρ => bindR (am ρ) fun ds => match ds with
  | [d] => okR (.exc c f d)
  | _ => none
def sRaise (c f : Str) (am : AM) : SM := fun r => bindR (am (full r)) fun ds => match ds with
  | [d] => some (.error ⟨c, f, d⟩)
  | _ => none
def eAtX (hs : List Str) (f : Str) (a : EM) : EM := fun ρ => bindR (a ρ) fun d => match d with
  | .exc c g x => if c ∈ hs ∧ g = f then okR x else none
  | _ => none
def eIsX (ys ns : List Str) (a : EM) : EM := fun ρ => bindR (a ρ) fun d => match d with
  | .exc c _ _ => if c ∈ ys then okR (.bl true) else if c ∈ ns then okR (.bl false) else none
  | _ => none
def goneO (i : Nat) : Out → Out
  | .nx r => .nx (r.set i none)
  | .rt d => .rt d
  | .bk r => .bk (r.set i none)
  | .ct r => .ct (r.set i none)
end
end Mi

namespace L3
open PySem PySem.Spec
open L2 hiding Rep RepL
open Mi (Dt Xn R okR bindR optR bindR_ok bindR_none bindR_err optR_some optR_none Rh Sl Ro EM TM AM FM IM SM OM Tg Out bindT setsH setsO full frz frz1 frzAt)
section
variable [Kc] {mg : Str → Option Value} {E : XK} {L n k l : Nat} {te ta tb : TE} {e ea eb ma : EM} {t : TA} {m : AM}
def spInit (K : PySem.W.Frag) (f : Str) : Sp := fun vs H Q _ => ∃ e C y, vs = [.ref e, y] ∧ H e = some (xn e (.ref C) none) ∧ PySem.W.xcIn K C = true ∧ XSet K C f ∧ ∀ d, H d = none → d ≠ e → Q .non (upd (upd H d (.xd [(f, y)])) e (xn e (.ref C) (some d)))
end
end L3

namespace L3
open PySem PySem.Spec
open L2 hiding Rep RepL
open Mi (Dt Xn R okR bindR optR bindR_ok bindR_none bindR_err optR_some optR_none Rh Sl Ro EM TM AM FM IM SM OM Tg Out bindT setsH setsO full frz frz1 frzAt)
section
variable {K : PySem.W.Frag} {C D : Addr} {dd : Option Addr} {cd : ClassData} {sl : Array (Option Value)} {b : Bool}
end
structure XCls (K : PySem.W.Frag) (mg : Str → Option Value) (c : Str) (C : Addr) : Prop where
  cl : clK K c = some C
  gm : mg c = some (.ref C)
  is : Xc.XIs K C
structure XIni (P : Program) (w : World) (K : PySem.W.Frag) (mg : Str → Option Value) (base : Heap) (c f : Str) (C : Addr) : Prop extends XCls K mg c C where
  kp : PySem.W.keepIn K (.ref C) = true
  st : XSet K C f
  fa : PySem.W.findIn K (.ref C) f = some none
  ini : ∃ fI fd ps, PySem.W.findIn K (.ref C) "__init__" = some (some (.ref fI)) ∧ PySem.W.isFn K (.ref fI) = true ∧ FnOk P w K mg base (CXe P w) 1 fI fd ps (spInit K f) ∧ Binds K fd ps []
section
variable [Kc] {mg : Str → Option Value} {E : XK} {L n k l : Nat} {te ta tb : TE} {e ea eb ma : EM} {t : TA} {m : AM}
end
def spLawW (K : PySem.W.Frag) : Sp := fun vs H Q _ => ∃ (a : Addr) (ns : List Int), vs = [.ref a] ∧ SqL K H a (ns.map V.int) ∧ ns.length ≤ 63 ∧ (∀ i ∈ ns, i.natAbs.log2 < 2 ^ 20) ∧ ∀ H', Q (.bl true) H'
theorem law_impW {K : PySem.W.Frag} {mg : Str → Option Value} {L : Nat} {f : FM} (hf : ∀ ns : List Int, ns.length ≤ 63 → (∀ i ∈ ns, i.natAbs.log2 < 2 ^ 20) → f [.scr ns] = okR (.bl true)) : ∀ vs H Q E, spLawW K vs H Q E → sp0 K mg L f vs H Q E := by
  letI : Kc := ⟨K⟩
  rintro vs H Q E ⟨a, ns, rfl, hS, hl, hw, q⟩
  refine ⟨H, [.scr ns], Same.refl _, ⟨_, _, rfl, ⟨a, rfl, .inl hS⟩, rfl⟩, ?_⟩
  rw [hf ns hl hw]
  intro v G' H' S fr o
  cases (show v = .bl true by cases L <;> exact o)
  exact q H'
end L3

namespace Mi
open PySem
section
variable (ρ : Rh) (r : Ro) (a b c : EM) (s t : SM) (q q' : TM) (am : AM)
@[simp] theorem x_eC (d : Dt) : eC d ρ = okR d := rfl
@[simp] theorem x_eV (i : Nat) : eV i ρ = match ρ[i]? with | some (some d) => okR d | _ => none := rfl
@[simp] theorem x_eB (f : Dt → Dt → Option Dt) : eB f a b ρ = bindR (a ρ) fun x => bindR (b ρ) fun y => optR (f x y) := rfl
@[simp] theorem x_eU (f : Dt → Option Dt) : eU f a ρ = bindR (a ρ) fun x => optR (f x) := rfl
@[simp] theorem x_aNil : aNil ρ = okR [] := rfl
@[simp] theorem x_aCons : aCons a am ρ = bindR (a ρ) fun x => bindR (am ρ) fun xs => okR (x :: xs) := rfl
@[simp] theorem x_eCall (f : FM) : eCall f am ρ = bindR (am ρ) f := rfl
@[simp] theorem x_eBi (f : List Dt → Option Dt) : eBi f am ρ = bindR (am ρ) fun xs => optR (f xs) := rfl
@[simp] theorem x_eLst : eLst am ρ = bindR (am ρ) fun xs => @ite _ (xs.length ≤ 100000) (Classical.propDecidable _) (okR (.lst xs)) none := rfl
@[simp] theorem x_eTup : eTup am ρ = bindR (am ρ) fun xs => @ite _ (xs.length ≤ 100000) (Classical.propDecidable _) (okR (.tup xs)) none := rfl
@[simp] theorem x_eIsi (n : String) : eIsi n a ρ = bindR (a ρ) fun x => optR (isiD n x) := rfl
@[simp] theorem x_eAnd : eAnd a b ρ = bindR (a ρ) fun x => match x with | .bl k => if k = true then b ρ else okR (.bl false) | _ => none := rfl
@[simp] theorem x_eOr : eOr a b ρ = bindR (a ρ) fun x => match x with | .bl k => if k = true then okR (.bl true) else b ρ | _ => none := rfl
@[simp] theorem x_eNot : eNot a ρ = bindR (a ρ) fun x => match x with | .bl k => okR (.bl (!k)) | _ => none := rfl
@[simp] theorem x_eChain (f g : Dt → Dt → Option Dt) : eChain f g a b c ρ = bindR (a ρ) fun x => bindR (b ρ) fun y => bindR (optR (f x y)) fun z => match z with | .bl k => if k = true then bindR (c ρ) fun w => optR (g y w) else okR (.bl false) | _ => none := rfl
@[simp] theorem x_eIf : eIf q a b ρ = bindR (q ρ) fun k => if k = true then a ρ else b ρ := rfl
@[simp] theorem x_tB : tB a ρ = bindR (a ρ) fun x => match x with | .bl k => okR k | _ => none := rfl
@[simp] theorem x_tM : tM a ρ = bindR (a ρ) fun x => match x with | .bl k => okR k | .int i => okR (i != 0) | .non => okR false | _ => none := rfl
@[simp] theorem x_tAn : tAn q q' ρ = bindR (q ρ) fun k => if k = true then q' ρ else okR false := rfl
@[simp] theorem x_tOr : tOr q q' ρ = bindR (q ρ) fun k => if k = true then okR true else q' ρ := rfl
@[simp] theorem x_tNo : tNo q ρ = bindR (q ρ) fun k => okR (!k) := rfl
@[simp] theorem x_tYes : tYes ρ = okR true := rfl
@[simp] theorem x_sNil : sNil r = okR (.nx r) := rfl
@[simp] theorem x_sSeq : sSeq s t r = bindR (s r) fun o => match o with | .nx ρ' => t ρ' | o => okR o := rfl
@[simp] theorem x_sIf : sIf q s t r = bindR (q (full r)) fun k => if k = true then s r else t r := rfl
@[simp] theorem x_sDrop : sDrop a r = bindR (a (full r)) fun _ => okR (.nx r) := rfl
@[simp] theorem x_sBreak : sBreak r = okR (.bk r) := rfl
@[simp] theorem x_sCont : sCont r = okR (.ct r) := rfl
@[simp] theorem x_sNever : sNever r = none := rfl
@[simp] theorem x_sRetN : sRetN r = okR (.rt .non) := rfl
@[simp] theorem x_sSet (i n : Nat) (vs : List Nat) : sSet i n vs a r = bindR (a (full r)) fun d => if d.dep ≤ n then okR (.nx (r.set i (some (d, n)))) else bindR (a (frz (frzAt vs r))) fun d' => okR (.nx ((frzAt vs r).set i (some (d', n)))) := rfl
@[simp] theorem x_sRet (L n : Nat) (vs : List Nat) : sRet L n vs a r = bindR (a (full r)) fun d => if d.dep ≤ n ∧ d.dep ≤ L then okR (.rt d) else if n = L then bindR (a (frz (frzAt vs r))) fun d' => okR (.rt d') else none := rfl
@[simp] theorem x_sRetV (L i : Nat) : sRetV L i r = match r[i]? with | some (some (d, k)) => if k = L ∨ L = 0 ∨ (d.dep ≤ k ∧ d.dep ≤ L ∧ k < 1000) then okR (.rt d) else none | _ => none := rfl
@[simp] theorem x_full_nil : full [] = [] := rfl
@[simp] theorem x_full_cons (o : Option Sl) (r : Ro) : full (o :: r) = o.map Prod.fst :: full r := rfl
@[simp] theorem x_frz_nil : frz [] = [] := rfl
@[simp] theorem x_frz_none (r : Ro) : frz (none :: r) = none :: frz r := rfl
@[simp] theorem x_frz_some (d : Dt) (n : Nat) (r : Ro) : frz (some (d, n) :: r) = (if n = 0 ∨ d.dep = 0 then some d else none) :: frz r := rfl
@[simp] theorem x_frzAt_nil (r : Ro) : frzAt [] r = r := rfl
@[simp] theorem x_frzAt_cons (i : Nat) (v : List Nat) (r : Ro) : frzAt (i :: v) r = frzAt v (frz1 i r) := rfl
@[simp] theorem x_frz1 (i : Nat) (r : Ro) : frz1 i r = match r[i]? with | some (some (d, _)) => r.set i (some (d, 0)) | _ => r := rfl
@[simp] theorem x_startO (n : Nat) (ds : List Dt) : startO n ds = ds.map (fun d => some (d, 0)) ++ List.replicate (n - ds.length) none := rfl
@[simp] theorem x_runF (P n : Nat) (ds : List Dt) : runF P n s ds = if ds.length = P then bindR (s (startO n ds)) endF else none := rfl
@[simp] theorem x_end1 (r : Ro) : endF (.nx r) = okR .non := rfl
@[simp] theorem x_end2 (d : Dt) : endF (.rt d) = okR d := rfl
end
@[simp] theorem v_add (i j : Int) : addD (.int i) (.int j) = some (.int (i + j)) := rfl
@[simp] theorem v_addS (i j : Str) : addD (.str i) (.str j) = @ite _ (i.length + j.length ≤ 100000) (Classical.propDecidable _) (some (.str (i ++ j))) none := rfl
@[simp] theorem v_addL (i j : List Dt) : addD (.lst i) (.lst j) = @ite _ (i.length + j.length ≤ 100000) (Classical.propDecidable _) (some (.lst (i ++ j))) none := rfl
@[simp] theorem v_sub (i j : Int) : subD (.int i) (.int j) = some (.int (i - j)) := rfl
@[simp] theorem v_mul (i j : Int) : mulD (.int i) (.int j) = @ite _ (((-18446744073709551616 < i ∧ i < 18446744073709551616) ∨ (-18446744073709551616 < j ∧ j < 18446744073709551616)) ∨ i.natAbs.log2 + j.natAbs.log2 ≤ 67108864) (Classical.propDecidable _) (some (.int (i * j))) none := rfl
@[simp] theorem v_div (i j : Int) : divD (.int i) (.int j) = @ite _ (0 < j ∧ j < 1000000000000000000000000) (Classical.propDecidable _) (some (.int (i / j))) none := rfl
@[simp] theorem v_mod (i j : Int) : modD (.int i) (.int j) = if 0 < j then some (.int (i % j)) else none := rfl
@[simp] theorem v_pow (i j : Int) : powD (.int i) (.int j) = @ite _ (0 ≤ j ∧ j ≤ 1000000 ∧ i.natAbs < 18446744073709551616) (Classical.propDecidable _) (some (.int (i ^ j.toNat))) none := rfl
@[simp] theorem v_neg (i : Int) : negD (.int i) = some (.int (-i)) := rfl
@[simp] theorem v_cmp (p : Int → Int → Bool) (i j : Int) : cmpD p (.int i) (.int j) = some (.bl (p i j)) := rfl
@[simp] theorem v_eq (x y : Dt) : eqD x y = if x.dep ≤ 40 ∧ y.dep ≤ 40 then some (.bl (Dt.eq x y)) else none := rfl
@[simp] theorem v_ne (x y : Dt) : neD x y = if x.dep ≤ 40 ∧ y.dep ≤ 40 then some (.bl (!Dt.eq x y)) else none := rfl
@[simp] theorem v_is (x : Dt) : isD x .non = some (.bl (isNonD x)) := rfl
@[simp] theorem v_isnt (x : Dt) : isntD x .non = some (.bl (!isNonD x)) := rfl
@[simp] theorem v_isN1 : isNonD .non = true := rfl
@[simp] theorem v_isN2 (i : Int) : isNonD (.int i) = false := rfl
@[simp] theorem v_isN3 (i : List Dt) : isNonD (.lst i) = false := rfl
@[simp] theorem v_isN4 (i : List Dt) : isNonD (.tup i) = false := rfl
@[simp] theorem v_isN5 (i : Str) : isNonD (.str i) = false := rfl
@[simp] theorem v_isN6 (i : Bool) : isNonD (.bl i) = false := rfl
@[simp] theorem v_ixL (xs : List Dt) (i : Int) : ixD (.lst xs) (.int i) = itA xs i := rfl
@[simp] theorem v_ixT (xs : List Dt) (i : Int) : ixD (.tup xs) (.int i) = itA xs i := rfl
@[simp] theorem v_ixS (ns : List Int) (i : Int) : ixD (.scr ns) (.int i) = (itA ns i).map .int := rfl
@[simp] theorem v_lenL (xs : List Dt) : lenD [.lst xs] = some (.int xs.length) := rfl
@[simp] theorem v_lenT (xs : List Dt) : lenD [.tup xs] = some (.int xs.length) := rfl
@[simp] theorem v_lenS (ns : List Int) : lenD [.scr ns] = some (.int ns.length) := rfl
@[simp] theorem v_listL (xs : List Dt) : listD [.lst xs] = some (.lst xs) := rfl
@[simp] theorem v_listT (xs : List Dt) : listD [.tup xs] = some (.lst xs) := rfl
@[simp] theorem v_listS (ns : List Int) : listD [.scr ns] = some (.lst (ns.map .int)) := rfl
theorem v_range {j : Int} (h0 : 0 ≤ j) (h1 : j ≤ 100000) : rangeD [.int j] = some (.lst (nums 0 j.toNat)) := by
  show (@ite _ ((-4611686018427387904 ≤ j ∧ j < 4611686018427387904) ∧ j ≤ 100000) (Classical.propDecidable _) (some (Dt.lst (nums 0 j.toNat))) none) = _
  rw [if_pos ⟨⟨by omega, by omega⟩, h1⟩]
@[simp] theorem v_dn : Dt.non.dep = 0 := rfl
@[simp] theorem v_db (b : Bool) : (Dt.bl b).dep = 0 := rfl
@[simp] theorem v_di (b : Int) : (Dt.int b).dep = 0 := rfl
@[simp] theorem v_ds (b : Str) : (Dt.str b).dep = 0 := rfl
@[simp] theorem v_dS (b : List Int) : (Dt.scr b).dep = 1000 := by rw [Dt.dep]
@[simp] theorem v_dl (xs : List Dt) : (Dt.lst xs).dep = Dt.depL xs + 1 := by rw [Dt.dep]
@[simp] theorem v_dt (xs : List Dt) : (Dt.tup xs).dep = Dt.depL xs + 1 := by rw [Dt.dep]
@[simp] theorem v_dnil : Dt.depL [] = 0 := by rw [Dt.depL]
@[simp] theorem v_dcons (x : Dt) (r : List Dt) : Dt.depL (x :: r) = max x.dep (Dt.depL r) := by rw [Dt.depL]
@[simp] theorem v_e1 (i j : Int) : Dt.eq (.int i) (.int j) = decide (i = j) := by rw [Dt.eq]; by_cases h : i = j <;> simp [h]
@[simp] theorem v_e2 (i j : Str) : Dt.eq (.str i) (.str j) = decide (i = j) := by rw [Dt.eq]; by_cases h : i = j <;> simp [h]
@[simp] theorem v_e3 (i j : Bool) : Dt.eq (.bl i) (.bl j) = decide (i = j) := by rw [Dt.eq]; by_cases h : i = j <;> simp [h]
@[simp] theorem v_e4 (i j : List Dt) : Dt.eq (.lst i) (.lst j) = Dt.eqL i j := by rw [Dt.eq]
@[simp] theorem v_e5 (i j : List Dt) : Dt.eq (.tup i) (.tup j) = Dt.eqL i j := by rw [Dt.eq]
@[simp] theorem v_e6 : Dt.eq .non .non = true := by rw [Dt.eq]
@[simp] theorem depL_ints : ∀ (ns : List Int), Dt.depL (ns.map Dt.int) = 0
  | [] => by simp
  | n :: r => by rw [List.map_cons, v_dcons, depL_ints r]; rfl
@[simp] theorem depL_app : ∀ (xs ys : List Dt), Dt.depL (xs ++ ys) = max (Dt.depL xs) (Dt.depL ys)
  | [], ys => by simp
  | x :: r, ys => by rw [List.cons_append, v_dcons, v_dcons, depL_app r ys]; omega
@[simp] theorem eqL_ints : ∀ (ns ms : List Int), Dt.eqL (ns.map Dt.int) (ms.map Dt.int) = decide (ns = ms)
  | [], [] => by simp [Dt.eqL]
  | [], _ :: _ => by simp [Dt.eqL]
  | _ :: _, [] => by simp [Dt.eqL]
  | n :: r, m :: q => by rw [List.map_cons, List.map_cons, Dt.eqL, eqL_ints r q, v_e1]; simp
theorem itA_of {α : Type} {xs : List α} {i : Int} {j : Nat} {v : α} (e : i = (j : Int)) (h : xs[j]? = some v) : itA xs i = some v := by
  have hj : j < xs.length := (List.getElem?_eq_some_iff.mp h).1
  subst e
  unfold itA ixA
  rw [if_pos (by omega), if_pos (by omega)]
  simpa using h
theorem ixA_of {n : Nat} {i : Int} (h0 : 0 ≤ i) (h1 : i < n) : ixA n i = some i.toNat := by
  unfold ixA; rw [if_pos h0, if_pos h1]
theorem itA_ints {ns : List Int} {i : Int} (h0 : 0 ≤ i) (h1 : i < ns.length) : itA (ns.map Dt.int) i = some (.int (ns.getD i.toNat 0)) := by
  refine itA_of (j := i.toNat) (by omega) ?_
  rw [List.getElem?_map, List.getD_eq_getElem?_getD, List.getElem?_eq_getElem (by omega)]
  rfl
theorem itA_int {ns : List Int} {i : Int} (h0 : 0 ≤ i) (h1 : i < ns.length) : itA ns i = some (ns.getD i.toNat 0) := by
  refine itA_of (j := i.toNat) (by omega) ?_
  rw [List.getD_eq_getElem?_getD, List.getElem?_eq_getElem (by omega)]
  rfl
@[simp] theorem set_int (ns : List Int) (i : Nat) (x : Int) : (ns.map Dt.int).set i (.int x) = (ns.set i x).map Dt.int := by rw [List.map_set]
theorem comp_map {ρ : Rh} {k : Nat} {tg : Tg} {c : TM} {e : EM} (f : Dt → Dt) : ∀ (ds acc : List Dt), (∀ d ∈ ds, ∃ bs, bindT tg d = some bs ∧ c (setsH (ρ ++ List.replicate k none) bs) = okR true ∧ e (setsH (ρ ++ List.replicate k none) bs) = okR (f d)) → compGo ρ k tg c e ds acc = okR (acc ++ ds.map f)
  | [], acc, _ => by simp [compGo]
  | d :: ds, acc, h => by
    obtain ⟨bs, h1, h2, h3⟩ := h d (by simp)
    rw [compGo, h1]
    simp only
    rw [h2, bindR_ok, if_pos rfl, h3, bindR_ok, comp_map f ds (acc ++ [f d]) fun d hd => h d (by simp [hd])]
    simp
theorem for_all {tg : Tg} {b : SM} (Pv : Nat → Ro → Prop) : ∀ (ds : List Dt) (i : Nat) (r : Ro), Pv i r → (∀ (j : Nat) (d : Dt) (r : Ro), ds[j]? = some d → Pv (i + j) r → ∃ bs r', bindT tg d = some bs ∧ b (setsO r bs) = okR (.nx r') ∧ Pv (i + j + 1) r') →
    ∃ r', forGo tg b ds r = okR (.nx r') ∧ Pv (i + ds.length) r'
  | [], i, r, h, _ => ⟨r, by simp [forGo], by simpa using h⟩
  | d :: ds, i, r, h, hs => by
    obtain ⟨bs, r1, h1, h2, h3⟩ := hs 0 d r (by simp) (by simpa using h)
    obtain ⟨r2, h4, h5⟩ := for_all Pv ds (i + 1) r1 (by simpa using h3) fun j e r he hp => by
      have := hs (j + 1) e r (by simpa using he) (by rw [show i + (j + 1) = i + 1 + j by omega]; exact hp)
      rw [show i + 1 + j + 1 = i + (j + 1) + 1 by omega]
      exact this
    refine ⟨r2, ?_, by rw [List.length_cons, show i + (ds.length + 1) = i + 1 + ds.length by omega]; exact h5⟩
    rw [forGo, h1]
    simp only
    rw [h2, bindR_ok]
    exact h4
theorem while_all {c : TM} {b : SM} (Pv : Ro → Prop) (μ : Ro → Nat) (Rv : Ro → Prop) (hc : ∀ r, Pv r → (c (full r) = okR false ∧ Rv r) ∨ (c (full r) = okR true ∧ ∃ r', b r = okR (.nx r') ∧ Pv r' ∧ μ r' < μ r)) :
    ∀ (m : Nat) (r : Ro), Pv r → μ r < m → ∃ r', whGo c b m r = okR (.nx r') ∧ Rv r'
  | 0, r, _, h => by omega
  | m + 1, r, h, hm => by
    rw [whGo]
    rcases hc r h with ⟨h1, h2⟩ | ⟨h1, r1, h2, h3, h4⟩
    · rw [h1, bindR_ok, if_neg (by decide)]; exact ⟨r, rfl, h2⟩
    · rw [h1, bindR_ok, if_pos rfl, h2, bindR_ok]
      exact while_all Pv μ Rv hc m r1 h3 (by omega)
theorem sWhile_all {c : TM} {b : SM} (Pv : Ro → Prop) (μ : Ro → Nat) (Rv : Ro → Prop) {r : Ro} (h0 : Pv r) (hm : μ r < 1000000) (hc : ∀ r, Pv r → (c (full r) = okR false ∧ Rv r) ∨ (c (full r) = okR true ∧ ∃ r', b r = okR (.nx r') ∧ Pv r' ∧ μ r' < μ r)) : ∃ r', sWhile c b r = okR (.nx r') ∧ Rv r' :=
  while_all Pv μ Rv hc WN r h0 (by rw [WN_eq]; exact hm)
end Mi

namespace Mi
open PySem
section
variable (ρ : Rh) (r : Ro) (a : EM) (am : AM) (s : SM)
@[simp] theorem x_noE_ok {α : Type} (x : α) : noE (okR x) = okR x := rfl
@[simp] theorem x_noE_none {α : Type} : noE (none : R α) = none := rfl
@[simp] theorem x_noE_err {α : Type} (e : Xn) : noE (some (.error e) : R α) = none := rfl
@[simp] theorem x_eCallN (f : FM) : eCallN f am ρ = bindR (am ρ) fun ds => noE (f ds) := rfl
@[simp] theorem x_eMkX (c f : Str) : eMkX c f am ρ = bindR (am ρ) fun ds => match ds with | [d] => okR (.exc c f d) | _ => none := rfl
@[simp] theorem x_sRaise (c f : Str) : sRaise c f am r = bindR (am (full r)) fun ds => match ds with | [d] => some (.error ⟨c, f, d⟩) | _ => none := rfl
@[simp] theorem x_eAtX (hs : List Str) (f : Str) : eAtX hs f a ρ = bindR (a ρ) fun d => match d with | .exc c g x => if c ∈ hs ∧ g = f then okR x else none | _ => none := rfl
@[simp] theorem x_eIsX (ys ns : List Str) : eIsX ys ns a ρ = bindR (a ρ) fun d => match d with | .exc c _ _ => if c ∈ ys then okR (.bl true) else if c ∈ ns then okR (.bl false) else none | _ => none := rfl
@[simp] theorem x_gone_nx (i : Nat) : goneO i (.nx r) = .nx (r.set i none) := rfl
@[simp] theorem x_gone_rt (i : Nat) (d : Dt) : goneO i (.rt d) = .rt d := rfl
end
example (d : Dt) : True := trivial
end Mi

namespace L2
open PySem PySem.Spec PyProof.Rows
section
variable {X : Cx}
def rXorU : R2 := fun x y H Q => match x, y with
  | .int i, .int j => Q (.int (Builtin.bitXor i j)) H
  | _, _ => False
theorem u_xor : OpR X (binaryOp .BitXor) rXorU := by
  intro pins s σ H x y v u Q I rx ry h
  cases x <;> cases y <;> first
    | exact op_xor pins s σ H _ _ v u Q I rx ry ⟨_, _, rfl, rfl, h⟩
    | exact False.elim h
def rRepU : R2 := fun x y H Q => match x, y with
  | .ref l, .int k => ∃ xs, H l = some (.lst xs) ∧ (-(2 ^ 63) ≤ k ∧ k < 2 ^ 63) ∧ xs.length * k.toNat ≤ sizeLine ∧ ∀ p, H p = none → Q (.ref p) (upd H p (.lst (List.replicate k.toNat xs).flatten))
  | _, _ => False
theorem u_rep : OpR X (binaryOp .Mult) rRepU := by
  intro pins s σ H x y v u Q I rx ry h
  cases x <;> cases y <;> first
    | (obtain ⟨xs, h1, h2, h3, h4⟩ := h; exact op_rep pins s σ H _ _ v u Q I rx ry ⟨_, _, xs, rfl, rfl, h1, h2.1, h2.2, h3, h4⟩)
    | exact False.elim h
def extM : V → List V → Hp → VK → Prop := fun x vs H Q => match x, vs with
  | .ref l, [.ref b] => ∃ xs zs, H l = some (.lst xs) ∧ H b = some (.lst zs) ∧ xs.length + zs.length ≤ sizeLine ∧ Q .non (upd H l (.lst (xs ++ zs)))
  | _, _ => False
theorem mt_extM : MtR X "list.extend" extM := by
  intro pins s σ H x vs v us Q I rx rv h
  match x, vs, rx, rv, h with
  | .ref l, [.ref b], rx, rv, h =>
    obtain ⟨xs, zs, h1, h2, h3, h4⟩ := h
    exact mt_extend pins s σ H _ _ v us Q I rx rv ⟨l, b, xs, zs, rfl, rfl, h1, h2, h3, h4⟩
end
section
variable {X : Cx} {K : PySem.W.Frag}
end
end L2

namespace Mi
open PySem
noncomputable section
def xorD : Dt → Dt → Option Dt
  | .int i, .int j => some (.int (Builtin.bitXor i j))
  | _, _ => none
def repD : Dt → Dt → Option Dt
  | .lst xs, .int k => @ite _ ((-4611686018427387904 ≤ k ∧ k < 4611686018427387904) ∧ xs.length * k.toNat ≤ 100000) (Classical.propDecidable _) (some (.lst (List.replicate k.toNat xs).flatten)) none
  | _, _ => none
def tL (a : EM) : TM := fun ρ => bindR (a ρ) fun x => match x with
  | .bl k => okR k
  | .int i => okR (i != 0)
  | .non => okR false
  | .lst xs => okR (!xs.isEmpty)
  | .tup xs => okR (!xs.isEmpty)
  | _ => none
def iRv (e : AM) : IM := fun ρ => bindR (e ρ) fun vs => match vs with
  | [.lst xs] => okR xs.reverse
  | _ => none
def intsD : List Dt → Option (List Int)
  | [] => some []
  | .int i :: r => (intsD r).map (i :: ·)
  | _ :: _ => none
def eMl (f : List Dt → List Dt → Option Dt) (a : EM) (am : AM) : EM := fun ρ => bindR (a ρ) fun x => match x with
  | .lst xs => bindR (am ρ) fun ds => optR (f xs ds)
  | _ => none
def sExt (i n : Nat) (e : EM) : SM := fun ρ => match ρ[i]? with
  | some (some (.lst ds, k + 1)) => bindR (e (full ρ)) fun d => match d with
    | .lst es => @ite _ (ds.length + es.length ≤ 100000 ∧ Dt.depL es ≤ n ∧ Dt.depL es ≤ k) (Classical.propDecidable _) (okR (.nx (ρ.set i (some (.lst (ds ++ es), k + 1))))) none
    | _ => none
  | _ => none
def low (i : Nat) (ρ : Ro) : Ro := match ρ[i]? with
  | some (some (.lst ds, _ + 1)) => ρ.set i (some (.lst ds, 1))
  | _ => ρ
def sAppF (i : Nat) (vs : List Nat) (e : EM) : SM := fun ρ => match (frzAt vs (low i ρ))[i]? with
  | some (some (.lst ds, 1)) => bindR (e (frz (frzAt vs (low i ρ)))) fun d => @ite _ (ds.length ≤ 100000) (Classical.propDecidable _) (okR (.nx ((frzAt vs (low i ρ)).set i (some (.lst (ds ++ [d]), 1))))) none
  | _ => none
end
end Mi

namespace L3
open PySem PySem.Spec
open L2 hiding Rep RepL
open Mi (Dt Xn R okR bindR optR bindR_ok bindR_none bindR_err optR_some optR_none Rh Sl Ro EM TM AM FM IM SM Tg Out bindT setsH setsO full frz frz1 frzAt)
section
variable [Kc] {mg : Str → Option Value} {E : XK} {L n k l : Nat} {te ta tb : TE} {e ea eb ma : EM} {t : TA} {m : AM}
theorem ro_xor : ROp rXorU Mi.xorD n := by
  intro mg E G H d e x y Q s h1 h2 p
  cases d with
  | int i =>
    cases e with
    | int j => cases (show x = .int i from h1); cases (show y = .int j from h2); exact r_val s p rfl rfl rfl
    | _ => exact p.elim
  | _ => exact p.elim
theorem repL_app {G : Hp} {ds es : List Dt} {xs ys : List V} (ra : RepL G ds xs) (rb : RepL G es ys) : RepL G (ds ++ es) (xs ++ ys) := by
  refine repL_of (by simp [ra.length, rb.length]) fun j d' x' e1 e2 => ?_
  by_cases hj : j < ds.length
  · rw [List.getElem?_append_left hj] at e1
    rw [List.getElem?_append_left (by rw [ra.length]; exact hj)] at e2
    exact repL_at ra e1 e2
  · rw [List.getElem?_append_right (by omega)] at e1
    rw [List.getElem?_append_right (by rw [ra.length]; omega), ra.length] at e2
    exact repL_at rb e1 e2
theorem repL_rep {G : Hp} {ds : List Dt} {xs : List V} (r : RepL G ds xs) : ∀ k : Nat, RepL G (List.replicate k ds).flatten (List.replicate k xs).flatten
  | 0 => rfl
  | k + 1 => by rw [List.replicate_succ, List.replicate_succ, List.flatten_cons, List.flatten_cons]; exact repL_app r (repL_rep r k)
theorem ro_rep : ROp rRepU Mi.repD 1 := by
  intro mg E G H d e x y Q s h1 h2 p
  cases d with
  | lst ds =>
    cases e with
    | int j =>
      obtain ⟨a, xs, rfl, ha, ra⟩ := h1
      cases (show y = .int j from h2)
      rw [Mi.repD] at p
      split at p
      · rename_i hz
        exact ⟨xs, s _ _ ha, ⟨by omega, by omega⟩, by rw [ra.length]; exact big' hz.2, fun q hq => PostE.lst p (Ext.refl s) (repL_rep ra _) hq⟩
      · exact p.elim
    | _ => exact p.elim
  | _ => exact p.elim
theorem intsD_rep {G : Hp} : ∀ {ds : List Dt} {ns : List Int} {xs : List V}, Mi.intsD ds = some ns → RepL G ds xs → xs = ns.map V.int
  | [], ns, xs, h, r => by cases h; exact r
  | d :: q, ns, xs, h, r => by
    cases d with
    | int i =>
      rw [Mi.intsD] at h
      cases e : Mi.intsD q with
      | none => rw [e] at h; cases h
      | some ms =>
        rw [e] at h
        cases h
        obtain ⟨x, t, rfl, a, b⟩ := r
        cases (show x = .int i from a)
        rw [intsD_rep e b]
        rfl
    | _ => cases h
end
end L3

namespace L3
open PySem PySem.Spec
open L2 hiding Rep RepL
open Mi (Dt Xn R okR bindR optR bindR_ok bindR_none bindR_err optR_some optR_none Rh Sl Ro EM TM AM FM IM SM Tg Out bindT setsH setsO full frz frz1 frzAt)
section
variable [Kc] {G0 H0 S0 : Hp} {σ : St} {ρ : Ro} {G H : Hp} {As : Nat → Addr → Prop}
theorem Sat.low (a : Sat G0 H0 S0 σ ρ G H As) (i : Nat) : ∃ G1 As1, Sat G0 H0 S0 σ (Mi.low i ρ) G1 H As1 := by
  unfold Mi.low
  split
  · rename_i ds k e1
    obtain ⟨v, h1, q, xs, T, rfl, hq, kd⟩ := a.at i _ _ e1
    obtain ⟨s1, s2⟩ := over_same (S := fun b => ∃ r, T r b) a.ext.in'
    have ui : ∀ b, (∃ r, T r b) → As i b := fun b ⟨r, z⟩ => kd.sub r b z
    have x : Ext G0 H0 (over G H fun b => ∃ r, T r b) H := ⟨a.ext.g.trans s1, a.ext.h, s2, fun b hb => by
      have z : ¬ ∃ r, T r b := fun z => hb (a.new i b (ui b z)).1
      rw [over_out z]; exact a.ext.old b hb⟩
    refine ⟨over G H fun b => ∃ r, T r b, fun j b => As j b ∧ ¬ ∃ r, T r b, x, a.stb.trans s1, by simp [a.len], fun j e n h => ?_, fun j l b p q => a.dis j l b p.1 q.1, fun j b p => ?_⟩
    · have hj : j < ρ.length := by
        have := (List.getElem?_eq_some_iff.mp h).1
        simpa using this
      by_cases z : i = j
      · subst z
        rw [List.getElem?_set_self hj] at h
        cases h
        exact ⟨.ref q, h1, q, xs, fun _ _ => False, rfl, hq, ⟨kd.len, fun r d x g1 g2 => (kd.own r d x g1 g2).rep s1 fun b o hb e => by rw [over_in ⟨r, hb⟩]; exact e, ⟨kd.top, fun ⟨r, z⟩ => kd.out r z⟩, fun _ z => z, fun _ _ _ z => z.elim, fun _ _ z => z.elim⟩⟩
      · rw [List.getElem?_set_ne z] at h
        obtain ⟨u, q1, q2⟩ := a.at j e n h
        exact ⟨u, q1, (q2.mono s1 (Same.refl _)).sub fun b hb => ⟨hb, fun w => z (a.dis i j b (ui b w) hb)⟩⟩
    · obtain ⟨n1, n2, n3⟩ := a.new j b p.1
      exact ⟨n1, by rw [over_out p.2]; exact n2, n3⟩
  · exact ⟨G, As, a⟩
end
section
variable [Kc] {mg : Str → Option Value} {E : XK} {L n k l : Nat} {te ta tb : TE} {e ea eb ma : EM} {t : TA} {m : AM}
theorem ds_appF (i : Nat) (vs : List Nat) (A : DE mg E te e n) : DS mg E L (tDrop (tML appM (vM i) (tCons te tNil))) (Mi.sAppF i vs e) := by
  intro G0 H0 S0 σ ρ G H As D a p
  obtain ⟨G1, As1, a1⟩ := a.low i
  obtain ⟨G2, As2, a2⟩ := Sat.frzAt vs a1
  unfold Mi.sAppF at p
  generalize hρ : frzAt vs (Mi.low i ρ) = ρ2 at p a2
  split at p
  · rename_i ds e1
    obtain ⟨v, h1, q, xs, T, rfl, hq, kd⟩ := a2.at i _ _ e1
    unfold tDrop tML vM
    rw [h1]
    refine ⟨xs, hq, ?_⟩
    refine (de_frz A).step (errS.from a2.ext) a2.ext.in' a2.frz p fun d y G3 H3 S _ fr o p1 => ?_
    split at p1
    · rename_i hz
      refine ⟨xs, fr.ext.h _ _ hq, by rw [kd.len]; exact L2.big (by omega), ?_⟩
      have a3 := a2.wider fr.ext
      have kd1 : Kids (Own G3 H3 0) (As2 i) q ds xs T := kd.imp (fun _ _ _ _ w => w.mono fr.ext.g fr.ext.h) fun _ z => z
      refine p1 σ G3 _ _ (a3.store (S := As2 i) kd.top h1 ⟨q, _, fun _ _ => False, rfl, upd_same, ⟨by simp [kd.len], fun r d' z g1 g2 => ?_, kd.top, fun _ z => z, fun _ _ _ z => z.elim, fun _ _ z => z.elim⟩⟩ fun b z => .inl z)
      by_cases hr : r < ds.length
      · rw [List.getElem?_append_left hr] at g1
        rw [List.getElem?_append_left (by rw [kd.len]; exact hr)] at g2
        exact kd1.own r d' z g1 g2
      · rw [List.getElem?_append_right (by omega)] at g1
        rw [List.getElem?_append_right (by rw [kd.len]; omega), kd.len] at g2
        have hq0 : r - ds.length = 0 := by
          have := (List.getElem?_eq_some_iff.mp g1).1
          simp at this; omega
        rw [hq0] at g1 g2
        simp at g1 g2
        subst g1; subst g2
        exact o
    · exact p1.elim
  · exact p.elim
theorem ds_ext (i : Nat) (A : DE mg E te e (n + 1)) (hn : n < 1000 := by decide) : DS mg E L (tDrop (tML extM (vM i) (tCons te tNil))) (Mi.sExt i n e) := by
  intro G0 H0 S0 σ ρ G H As D a p
  obtain ⟨J, x, s, w⟩ := a.full
  unfold Mi.sExt at p
  split at p
  · rename_i ds k e1
    obtain ⟨v, h1, q, xs, T, rfl, hq, kd⟩ := a.at i _ _ e1
    unfold tDrop tML vM
    rw [h1]
    refine ⟨xs, hq, ?_⟩
    refine A.step (errS.from x) x.in' w p fun d y G1 H1 S _ fr o p1 => ?_
    split at p1
    · rename_i es
      obtain ⟨b0, zs, T2, rfl, hb0, kd2⟩ := o
      split at p1
      · rename_i hz
        refine ⟨xs, zs, fr.ext.h _ _ hq, hb0, by rw [kd.len, kd2.len]; exact big' (by omega), ?_⟩
        have hp := kd.top
        have a1 := a.grow fr.ext.h
        have q2 : ∀ b, S b → H b = none ∧ G b = none ∧ H1 b ≠ none := fun b hb => let ⟨n1, n2, n3⟩ := fr.new b hb; ⟨n1, a.ext.in'.free n1, n3⟩
        have nS : ∀ r, ¬ T2 r q := fun r z => (a.new i q hp).2.2 (q2 q (kd2.sub r q z)).1
        have ap : ∀ r r' b, T r b → T2 r' b → False := fun r r' b h1 h2 => (a.new i b (kd.sub r b h1)).2.2 (q2 b (kd2.sub r' b h2)).1
        refine p1 σ G _ _ (a1.store (S := fun b => As i b ∨ ∃ r, T2 r b) hp h1 ⟨q, _, fun r b => (r < ds.length ∧ T r b) ∨ (ds.length ≤ r ∧ T2 (r - ds.length) b), rfl, upd_same, ⟨by simp [kd.len, kd2.len], fun r d' z g1 g2 => ?_, .inl hp, fun r z => ?_, fun r r' b z1 z2 => ?_, fun r b z => ?_⟩⟩ fun b z => ?_)
        · by_cases hr : r < ds.length
          · rw [List.getElem?_append_left hr] at g1
            rw [List.getElem?_append_left (by rw [kd.len]; exact hr)] at g2
            exact (((kd.own r d' z g1 g2).mono (Same.refl _) fr.ext.h).upd (kd.out r)).sub fun b z => .inl ⟨hr, z⟩
          · rw [List.getElem?_append_right (by omega)] at g1
            rw [List.getElem?_append_right (by rw [kd.len]; omega), kd.len] at g2
            exact (((kd2.own _ d' z g1 g2).at (depL_le hz.2.1 g1) (depL_le hz.2.2 g1) hn).upd (nS _)).sub fun b z => .inr ⟨by omega, z⟩
        · rcases z with ⟨_, z⟩ | ⟨_, z⟩
          · exact kd.out r z
          · exact nS _ z
        · rcases z1 with ⟨c1, t1⟩ | ⟨c1, t1⟩ <;> rcases z2 with ⟨c2, t2⟩ | ⟨c2, t2⟩
          · exact kd.dis r r' b t1 t2
          · exact (ap _ _ b t1 t2).elim
          · exact (ap _ _ b t2 t1).elim
          · have := kd2.dis _ _ b t1 t2; omega
        · rcases z with ⟨_, z⟩ | ⟨_, z⟩
          · exact .inl (kd.sub r b z)
          · exact .inr ⟨_, z⟩
        · rcases z with z | ⟨r, z⟩
          · exact .inl z
          · obtain ⟨n1, n2, n3⟩ := q2 b (kd2.sub r b z)
            exact .inr ⟨a.ext.h.free n1, n2, n3, fun j y => (a.new j b y).2.2 n1⟩
      · exact p1.elim
    · exact p1.elim
  · exact p.elim
end
end L3

namespace L3
open PySem PySem.Spec
open L2 hiding Rep RepL
open Mi (Dt Xn R okR bindR optR bindR_ok bindR_none bindR_err optR_some optR_none Rh Sl Ro EM TM AM FM IM SM Tg Out bindT setsH setsO full frz frz1 frzAt)
structure XNo (K : PySem.W.Frag) (mg : Str → Option Value) (c : Str) (C : Addr) : Prop extends XCls K mg c C where
  kp : PySem.W.keepIn K (.ref C) = true
  ini : PySem.W.findIn K (.ref C) "__init__" = some (some (.builtin "ValueError.__init__"))
section
variable [Kc] {mg : Str → Option Value} {E : XK} {L n k l : Nat} {te ta tb : TE} {e ea eb ma : EM} {t : TA} {m : AM}
end
end L3

namespace L2
open PySem PySem.Spec PyProof.Rows
section
variable {X : Cx}
def signsV (z : Str) : List V := z.cps.toList.map fun c => .str ⟨#[c]⟩
def rListX (K : PySem.W.Frag) : List V → Hp → VK → Prop := fun vs H Q => match vs with
  | [.str z] => z.length ≤ sizeLine ∧ ∀ l, H l = none → Q (.ref l) (upd H l (.lst (signsV z)))
  | _ => rListU K vs H Q
def rSumU : List V → Hp → VK → Prop := fun vs H Q => match vs with
  | [.ref a] => ∃ ns : List Int, H a = some (.lst (ns.map V.int)) ∧ ns.length ≤ 100000 ∧ (∀ n ∈ ns, -1000000 ≤ n ∧ n ≤ 1000000) ∧ Q (.int ns.sum) H
  | _ => False
def rSortU : List V → Hp → VK → Prop := fun vs H Q => match vs with
  | [.ref a] => (∃ ns : List Int, H a = some (.lst (ns.map V.int)) ∧ ns.length < 64 ∧ ∀ ms : List Int, ms.Perm ns → ms.Pairwise (· ≤ ·) → ∀ l, H l = none → Q (.ref l) (upd H l (.lst (ms.map V.int)))) ∨
      ∃ zs : List Str, H a = some (.lst (zs.map V.str)) ∧ zs.length < 64 ∧ ∀ ys : List Str, ys.Perm zs → sortedS ys = true → ∀ l, H l = none → Q (.ref l) (upd H l (.lst (ys.map V.str)))
  | _ => False
theorem ints_back : ∀ {ns : List Int} {vs : List Value}, IntsAre vs ns → Vals (ns.map V.int) vs
  | _, _, .nil => .nil
  | _, _, .cons n t h => .cons ⟨t, rfl⟩ (ints_back h)
theorem strs_back : ∀ {ns : List Str} {vs : List Value}, StrsAre vs ns → Vals (ns.map V.str) vs
  | _, _, .nil => .nil
  | _, _, .cons n t h => .cons ⟨t, rfl⟩ (strs_back h)
theorem k_sorted : CallR X (.builtin "sorted") rSortU := by
  intro pins s σ H vs us Q I r h
  match vs, r, h with
  | [.ref a], r, h =>
    obtain ⟨u, rfl, rx⟩ := vals1 r
    cases rx
    rcases h with ⟨ns, ha, hz, q⟩ | ⟨zs, ha, hz, q⟩
    · obtain ⟨its, rv, hl⟩ := hok_list I.hok ha
      have hlen := rv.length
      rw [List.length_map] at hlen
      refine sorted_ints hl (ints_vals rv) (by omega) fun out ms h1 h2 h3 => ?_
      obtain ⟨e, he⟩ := sortedAll_at s.heap its out
      have hz' : ms.length ≤ sizeLine := by rw [h2.length_eq, sizeLine_eq]; omega
      exact ⟨.ref _, _, I.laid (t' := s.toks) (o := .lst (ms.map V.int)) (fun b o q => sortedAll_old q) (Nat.le_succ _) ⟨by rw [List.length_map]; exact hz', out.toList, e, ints_back h1, by simpa [seqObj] using he⟩, rfl, q ms h2 h3 _ (I.hok.fresh (Nat.le_succ _))⟩
    · obtain ⟨its, rv, hl⟩ := hok_list I.hok ha
      have hlen := rv.length
      rw [List.length_map] at hlen
      refine sorted_strs hl (strs_vals rv) (by omega) fun out ms h1 h2 h3 => ?_
      obtain ⟨e, he⟩ := sortedAll_at s.heap its out
      have hz' : ms.length ≤ sizeLine := by rw [h2.length_eq, sizeLine_eq]; omega
      exact ⟨.ref _, _, I.laid (t' := s.toks) (o := .lst (ms.map V.str)) (fun b o q => sortedAll_old q) (Nat.le_succ _) ⟨by rw [List.length_map]; exact hz', out.toList, e, strs_back h1, by simpa [seqObj] using he⟩, rfl, q ms h2 h3 _ (I.hok.fresh (Nat.le_succ _))⟩
end
section
variable {X : Cx} {K : PySem.W.Frag}
end
end L2

namespace Mi
open PySem
noncomputable section
def listXD (ds : List Dt) : Option Dt := match ds with
  | [.str z] => @ite _ (z.length ≤ 100000) (Classical.propDecidable _) (some (.lst (signsD z))) none
  | ds => listD ds
def strD : List Dt → Option Dt
  | [.int i] => @ite _ (i.natAbs.log2 < 1920) (Classical.propDecidable _) (some (.str (toString i : String))) none
  | _ => none
def sumD : List Dt → Option Dt
  | [.lst ds] => match intsD ds with
    | some ns => @ite _ (ns.length ≤ 100000 ∧ ∀ n ∈ ns, -1000000 ≤ n ∧ n ≤ 1000000) (Classical.propDecidable _) (some (.int ns.sum)) none
    | none => none
  | _ => none
def topI : List Int → Int
  | [] => 0
  | [x] => x
  | x :: y :: r => max x (topI (y :: r))
def maxL : List Dt → Option Dt
  | [.int i, .int j] => some (.int (if j > i then j else i))
  | [.lst ds] => match intsD ds with
    | some (n :: ns) => some (.int (topI (n :: ns)))
    | _ => none
  | _ => none
def sortI (ns : List Int) : List Int := ns.mergeSort fun a b => decide (a ≤ b)
def sortD : List Dt → Option Dt
  | [.lst ds] => match intsD ds with
    | some ns => @ite _ (ns.length < 64) (Classical.propDecidable _) (some (.lst ((sortI ns).map .int))) none
    | none => none
  | _ => none
def sPopD (i : Nat) (e : EM) : SM := fun ρ => match ρ[i]? with
  | some (some (.lst ds, k + 1)) => bindR (e (full ρ)) fun d => match d with
    | .int z => match ixA ds.length z with
      | some q => @ite _ (ds.length ≤ 1000000) (Classical.propDecidable _) (okR (.nx (ρ.set i (some (.lst (ds.eraseIdx q), k + 1))))) none
      | none => none
    | _ => none
  | _ => none
def sApp2 (i n : Nat) (e0 e : EM) : SM := fun ρ => match ρ[i]? with
  | some (some (.lst rs, k + 2)) => bindR (e0 (full ρ)) fun y => match y with
    | .int y => match ixA rs.length y with
      | some p => match rs[p]? with
        | some (.lst ds) => bindR (e (full ρ)) fun d => @ite _ (ds.length ≤ 100000 ∧ d.dep ≤ n ∧ d.dep ≤ k) (Classical.propDecidable _) (okR (.nx (ρ.set i (some (.lst (rs.set p (.lst (ds ++ [d]))), k + 2))))) none
        | _ => none
      | none => none
    | _ => none
  | _ => none
end
end Mi

namespace L3
open PySem PySem.Spec
open L2 hiding Rep RepL
open Mi (Dt Xn R okR bindR optR bindR_ok bindR_none bindR_err optR_some optR_none Rh Sl Ro EM TM AM FM IM SM Tg Out bindT setsH setsO full frz frz1 frzAt)
section
variable [Kc] {mg : Str → Option Value} {E : XK} {L n k l : Nat} {te ta tb : TE} {e ea eb ma : EM} {t : TA} {m : AM}
theorem one_ints {r : List V → Hp → VK → Prop} {f : List Dt → Option Dt} (h0 : ∀ ds, (∀ es, ds ≠ [.lst es]) → f ds = none) (h1 : ∀ es, Mi.intsD es = none → f [.lst es] = none)
    (h2 : ∀ (mg : Str → Option Value) (E : XK) (G H : Hp) (a : Addr) (es : List Dt) (ns : List Int) (Q : VK), Same G H → Mi.intsD es = some ns → H a = some (.lst (ns.map V.int)) → PostE mg E G H n (optR (f [.lst es])) Q → r [.ref a] H Q) : CBi r f n := by
  intro mg E G H ds vs Q s h p
  by_cases hd : ∃ es, ds = [.lst es]
  · obtain ⟨es, rfl⟩ := hd
    obtain ⟨x, rfl, a, xs, rfl, ha, ra⟩ := repL1 h
    cases ei : Mi.intsD es with
    | none => rw [h1 es ei] at p; exact p.elim
    | some ns => exact h2 mg E G H a es ns Q s ei (by rw [s _ _ ha, intsD_rep ei ra]) p
  · rw [h0 ds fun es z => hd ⟨es, z⟩] at p; exact p.elim
theorem one_lst {f : List Dt → Option Dt} (h1 : f [] = none) (h2 : ∀ d, (∀ es, d ≠ .lst es) → f [d] = none) (h3 : ∀ a b r, f (a :: b :: r) = none) : ∀ ds, (∀ es, ds ≠ [.lst es]) → f ds = none := by
  intro ds h
  match ds, h with
  | [], _ => exact h1
  | [d], h => exact h2 d fun es z => h es (by rw [z])
  | a :: b :: r, _ => exact h3 a b r
theorem sortI_perm (ns : List Int) : (Mi.sortI ns).Perm ns := List.mergeSort_perm ns _
theorem sortI_asc (ns : List Int) : (Mi.sortI ns).Pairwise (· ≤ ·) := by
  have := List.pairwise_mergeSort (le := fun a b : Int => decide (a ≤ b)) (fun a b c h1 h2 => by simp at h1 h2 ⊢; omega) (fun a b => by simp; omega) ns
  exact this.imp fun h => by simpa using h
theorem cb_sort : CBi rSortU Mi.sortD 1 := by
  refine one_ints (one_lst rfl (fun d h => by cases d <;> first | rfl | exact absurd rfl (h _)) fun a b r => by cases a <;> rfl) (fun es h => by rw [Mi.sortD, h]) fun mg E G H a es ns Q s ei ha p => ?_
  rw [Mi.sortD, ei] at p
  dsimp only at p
  split at p
  · rename_i hz
    refine .inl ⟨ns, ha, hz, fun ms h1 h2 l hl => ?_⟩
    have : ms = Mi.sortI ns := PySem.W.lks_uniq (h1.trans (sortI_perm ns).symm) h2 (sortI_asc ns)
    subst this
    exact PostE.lst p (Ext.refl s) (repL_ints _) hl
  · exact p.elim
end
end L3

namespace L3
open PySem PySem.Spec
open L2 hiding Rep RepL
open Mi (Dt Xn R okR bindR optR bindR_ok bindR_none bindR_err optR_some optR_none Rh Sl Ro EM TM AM FM IM SM Tg Out bindT setsH setsO full frz frz1 frzAt)
section
variable [Kc] {G0 H0 S0 : Hp} {σ : St} {ρ : Ro} {G H : Hp} {As : Nat → Addr → Prop}
theorem Sat.row (a : Sat G0 H0 S0 σ ρ G H As) {i k c : Nat} {rs ds : List Dt} {q : Addr} (er : ρ[i]? = some (some (.lst rs, k + 2))) (hv : σ[i]? = some (some (.ref q))) (ec : rs[c]? = some (.lst ds)) :
    ∃ (xs : List V) (qr : Addr) (ys : List V), H q = some (.lst xs) ∧ xs.length = rs.length ∧ xs[c]? = some (.ref qr) ∧ H qr = some (.lst ys) ∧ ys.length = ds.length ∧
      ∀ (ds' : List Dt) (ys' : List V), ys'.length = ds'.length → (∀ (r : Nat) (d : Dt) (z : V), ds'[r]? = some d → ys'[r]? = some z → (ds[r]? = some d ∧ ys[r]? = some z) ∨ (d.dep = 0 ∧ Rep G d z)) →
        Sat G0 H0 S0 σ (ρ.set i (some (.lst (rs.set c (.lst ds')), k + 2))) G (upd H qr (.lst ys')) As := by
  obtain ⟨v, h1, q', xs, T, rfl, hq, kd⟩ := a.at i _ _ er
  rw [hv] at h1
  cases h1
  have hc : c < xs.length := by rw [kd.len]; exact (List.getElem?_eq_some_iff.mp ec).1
  have hxc : xs[c]? = some xs[c] := List.getElem?_eq_getElem hc
  obtain ⟨qr, ys, U, er2, hqr, kr⟩ := kd.own c _ _ ec hxc
  refine ⟨xs, qr, ys, hq, kd.len, by rw [hxc, er2], hqr, kr.len, fun ds' ys' hl hs => ?_⟩
  have tqr : T c qr := kr.top
  have iqr : As i qr := kd.sub c qr tqr
  have qne : q ≠ qr := fun z => kd.out c (z ▸ tqr)
  have b := a.store (S := As i) (p := qr) (o := .lst ys') (d := .lst (rs.set c (.lst ds'))) (n := k + 2) (v := .ref q) iqr hv ⟨q, xs, T, rfl, (upd_ne qne).trans hq, ⟨by simp [kd.len], fun r d' xr g1 g2 => ?_, kd.top, kd.out, kd.dis, kd.sub⟩⟩ fun b z => .inl z
  · refine ⟨b.ext, b.stb, b.len, fun j d n h => ?_, a.dis, fun j b' h => ?_⟩
    · obtain ⟨v, g1, g2⟩ := b.at j d n h
      refine ⟨v, g1, ?_⟩
      by_cases z : j = i
      · subst z; rw [if_pos rfl] at g2; exact g2
      · rw [if_neg z] at g2; exact g2
    · have := b.new j b' (by
        by_cases z : j = i
        · subst z; rw [if_pos rfl]; exact h
        · rw [if_neg z]; exact h)
      exact this
  · by_cases hr : c = r
    · subst hr
      rw [List.getElem?_set_self (by rw [← kd.len]; exact hc)] at g1
      cases g1
      rw [hxc] at g2
      cases g2
      refine ⟨qr, ys', U, er2, upd_same, ⟨hl, fun r d z e1 e2 => ?_, tqr, kr.out, kr.dis, kr.sub⟩⟩
      rcases hs r d z e1 e2 with ⟨g3, g4⟩ | ⟨g3, g4⟩
      · exact (kr.own r d z g3 g4).upd (kr.out r)
      · exact own_of g4 g3
    · rw [List.getElem?_set_ne hr] at g1
      exact (kd.own r d' xr g1 g2).upd fun z => hr (kd.dis c r qr tqr z)
end
section
variable [Kc] {mg : Str → Option Value} {E : XK} {L n k l : Nat} {te ta tb : TE} {e ea eb ma : EM} {t : TA} {m : AM}
theorem ds_app2 (i : Nat) {n0 : Nat} {t0 : TE} {e0 : EM} (Z : DE mg E t0 e0 n0) (A : DE mg E te e n) : DS mg E L (tDrop (tML appM (tOp (rIxU Kc.K) (vM i) t0) (tCons te tNil))) (Mi.sApp2 i 0 e0 e) := by
  intro G0 H0 S0 σ ρ G H As D a p
  unfold Mi.sApp2 at p
  split at p
  · rename_i rs k e1
    obtain ⟨v, h1, q, xs0, T0, rfl, hq0, kd0⟩ := a.at i _ _ e1
    obtain ⟨J, x, s, w⟩ := a.full
    unfold tDrop tML tOp vM
    rw [h1]
    refine (de_frz Z).step (errS.from x) x.in' w p fun z0 u0 G2 H2 S2 ee fr2 o2 p2 => ?_
    split at p2
    · rename_i y0
      cases (show u0 = .int y0 from o2)
      split at p2
      · rename_i c ei
        split at p2
        · rename_i ds erow
          have a2 := a.grow fr2.ext.h
          obtain ⟨xs, qr, ys, w1, w2, w3, w4, w5, w6⟩ := a2.row e1 h1 erow
          refine ⟨xs, .ref qr, .inl (SqL.of w1), ?_, ?_⟩
          · rw [← itA_eq]
            unfold Mi.itA
            rw [w2, ei]
            exact w3
          refine ⟨ys, w4, ?_⟩
          obtain ⟨J3, x3, s3, v3⟩ := a2.full
          refine (de_frz A).step (errS.from x3) x3.in' v3 p2 fun d y G4 H4 S4 ee4 fr4 o4 p4 => ?_
          split at p4
          · rename_i hz
            have a4 := a2.grow fr4.ext.h
            obtain ⟨xs', qr', ys', y1, y2, y3, y4, y5, y6⟩ := a4.row e1 h1 erow
            have exs : xs' = xs := by
              have := fr4.ext.h _ _ w1
              rw [y1] at this
              cases this; rfl
            subst exs
            rw [w3] at y3
            cases y3
            refine ⟨ys', y4, by rw [y5]; exact L2.big (by omega), ?_⟩
            have hd0 : d.dep = 0 := by omega
            refine p4 σ G _ As (y6 (ds ++ [d]) (ys' ++ [y]) (by simp [y5]) fun u d' z e3 e4 => ?_)
            by_cases hu : u < ds.length
            · rw [List.getElem?_append_left hu] at e3
              rw [List.getElem?_append_left (by rw [y5]; exact hu)] at e4
              exact .inl ⟨e3, e4⟩
            · rw [List.getElem?_append_right (by omega)] at e3
              rw [List.getElem?_append_right (by rw [y5]; omega), y5] at e4
              have hq0 : u - ds.length = 0 := by
                have := (List.getElem?_eq_some_iff.mp e3).1
                simp at this; omega
              rw [hq0] at e3 e4
              simp at e3 e4
              subst e3; subst e4
              exact .inr ⟨hd0, Rep.scalar o4 hd0⟩
          · exact p4.elim
        · exact p2.elim
      · exact p2.elim
    · exact p2.elim
  · exact p.elim
end
end L3

namespace L2
open PySem PySem.Spec PyProof.Rows
section
variable {X : Cx}
end
end L2

namespace Mi
open PySem
noncomputable section
end
end Mi

namespace L3
open PySem PySem.Spec
open L2 hiding Rep RepL
open Mi (Dt Xn R okR bindR optR bindR_ok bindR_none bindR_err optR_some optR_none Rh Sl Ro EM TM AM FM IM SM Tg Out bindT setsH setsO full frz frz1 frzAt)
section
variable [Kc] {mg : Str → Option Value} {E : XK} {L n k l : Nat} {te ta tb : TE} {e ea eb ma : EM} {t : TA} {m : AM}
end
end L3

namespace L2
open PySem PySem.Spec PyProof.Rows
structure RoomH (k : Nat) (A : Around) : Prop where
  dp : A.depth + 3 * k + 5 < recursionLimit
  un : A.units + 16 * k + 200 < cLine
structure FnOkH (P : Program) (w : World) (K : PySem.W.Frag) (mg : Str → Option Value) (base : Heap) (k : Nat) (f : Addr) (fd : FuncData) (ps : List Str) (sp : Sp) : Prop where
  len : ∀ vs H Q E, sp vs H Q E → vs.length = ps.length
  run : ∀ (A : Around) (outer : List Env) (s : Shared) (H : Hp) (args : Args) (us : List Value) (vs : List V) (Q : VK) (E : XK), RoomH k A → Env0 P w K mg base A outer s H → BindsTo s fd args (ps.zip us) → Vals vs us → sp vs H Q E →
    codeAny (model P w) A (.call (.ref f) args) (CR CX0 outer P w H s Q E) s
section
variable {X : Cx} {x : Str} {j k : Nat} {ps : List Str} {sp : Sp} {e : Expr} {es : List Expr} {t : TA} {p pos : Pos}
end
end L2
namespace L2
open PySem PySem.Spec PyProof.Rows
end L2

namespace Mi
end Mi

namespace L3
open PySem PySem.Spec
open L2 hiding Rep RepL
open Mi (Dt Xn R okR bindR optR bindR_ok bindR_none bindR_err optR_some optR_none Rh Sl Ro EM TM AM FM IM SM Tg Out bindT setsH setsO full frz frz1 frzAt)
section
variable [Kc] {mg : Str → Option Value} {E : XK} {L n n1 : Nat} {t1 t2 : TE} {e1 e2 : EM}
end
end L3

namespace Mi
end Mi

namespace L3
open PySem PySem.Spec
open L2 hiding Rep RepL
open Mi (Dt Xn R okR bindR optR bindR_ok bindR_none bindR_err optR_some optR_none Rh Sl Ro EM TM AM FM IM SM Tg Out bindT setsH setsO full frz frz1 frzAt)
section
variable [Kc] {mg : Str → Option Value} {E : XK} {L n : Nat} {te : TE} {e : EM}
end
end L3

namespace L2
open PySem PySem.Spec PyProof.Rows
section
variable {X : Cx} {e m1 : Expr} {te ts : TE} {pos p2 : Pos}
end
end L2

namespace Mi
open PySem
noncomputable section
end
end Mi

namespace L3
open PySem PySem.Spec
open PyProof.Rows (risingS sortedS ltCps_eq)
open L2 hiding Rep RepL
open Mi (Dt Xn R okR bindR optR bindR_ok bindR_none bindR_err optR_some optR_none Rh Sl Ro EM TM AM FM IM SM OM Tg Out bindT setsH setsO full frz frz1 frzAt)
section
variable [Kc] {mg : Str → Option Value} {E : XK} {L n k l : Nat} {te ta tb : TE} {e ea eb ma : EM} {t : TA} {m : AM}
end
end L3

namespace L2
open PySem PySem.Spec PyProof.Rows
section
variable {X : Cx} {x : Str} {C : Addr} {p pos : Pos}
end
def spIns (K : PySem.W.Frag) (fl : List Str) : Sp := fun vs H Q _ => ∃ (x C dx : Addr) (ys : List V), vs = .ref x :: ys ∧ ys.length = fl.length ∧ H x = some (.ins C dx []) ∧ Cls K C ∧ (∀ f ∈ fl, NoAttr K C f) ∧ Q .non (upd H x (.ins C dx (fl.zip ys)))
section
variable {X : Cx} {m : Str} {k : Nat} {E : XK} {o e : Expr} {es : List Expr} {ta : TE} {t : TA} {apos pos : Pos} {tb : List (Addr × Sp)}
end
structure OIs (K : PySem.W.Frag) (C : Addr) : Prop where
  cl : Cls K C
  ha : PySem.W.findIn K (.ref C) "__class__" = some (some (.builtin "object.__class__"))
  hn : PySem.W.specialIn K (.builtin "object.__class__") "__get__" = some (some (.builtin "getset_descriptor.__get__"))
  htk : PySem.W.takesIn K (.builtin "object.__class__") = some true
  hm : PySem.W.mroIn K C (.type "object") = some true
end L2

namespace Mi
open PySem
noncomputable section
end
end Mi

namespace L3
open PySem PySem.Spec
open L2 hiding Rep RepL
open Mi (Dt Xn R okR bindR optR bindR_ok bindR_none bindR_err optR_some optR_none Rh Sl Ro EM TM AM FM IM SM OM Tg Out bindT setsH setsO full frz frz1 frzAt)
structure OCls (K : PySem.W.Frag) (mg : Str → Option Value) (c : Str) (C : Addr) : Prop where
  cl : clK K c = some C
  gm : mg c = some (.ref C)
  is : OIs K C
structure ONew (K : PySem.W.Frag) (mg : Str → Option Value) (c : Str) (C : Addr) : Prop extends OCls K mg c C where
  mks : PySem.W.makesIn K C = true
  ini : PySem.W.findIn K (.ref C) "__init__" = some (some (.builtin "object.__init__"))
  kp : PySem.W.keepIn K (.ref C) = true
structure OIni (P : Program) (w : World) (K : PySem.W.Frag) (mg : Str → Option Value) (base : Heap) (c : Str) (fl : List Str) (C : Addr) : Prop extends OCls K mg c C where
  na : ∀ f ∈ fl, NoAttr K C f
  ini : ∃ fI fd ps, Mk K C fI ∧ FnOk P w K mg base (CXe P w) 1 fI fd ps (spIns K fl) ∧ Binds K fd ps []
section
variable {X : Cx} {c : Str} {fl : List Str} {C : Addr} {k : Nat} {E : XK} {e : Expr} {es : List Expr} {t : TA} {p pos : Pos}
end
section
variable [Kc] {mg : Str → Option Value} {E : XK} {L n k l : Nat} {te ta tb : TE} {e ea eb ma : EM} {t : TA} {m : AM}
end
end L3

namespace Mi
open PySem
noncomputable section
end
end Mi

namespace L2
open PySem PySem.Spec PyProof.Rows
section
variable {X : Cx} {m : Str} {k : Nat} {o e : Expr} {es : List Expr} {ta : TE} {t : TA} {apos pos : Pos} {tb : List (Addr × Sp)}
end
section
variable {prog : Program} {w : World} {A : Around} {E : Value → Shared → Prop} {s : Shared}
end
section
variable {X : Cx} {pos : Pos}
end
end L2
namespace L3
open PySem PySem.Spec
open L2 hiding Rep RepL
open Mi (Dt Xn R okR bindR optR bindR_ok bindR_none bindR_err optR_some optR_none Rh Sl Ro EM TM AM FM IM SM OM Tg Out bindT setsH setsO full frz frz1 frzAt)
section
variable [Kc] {mg : Str → Option Value} {E : XK} {L n k l : Nat} {te ta tb : TE} {e ea eb ma : EM} {t : TA} {m : AM}
end
end L3

namespace L2
open PySem PySem.Spec PyProof.Rows
section
variable {prog : Program} {w : World} {A : Around} {E : Value → Shared → Prop} {s : Shared}
end
end L2

namespace L2
open PySem PySem.Spec PyProof.Rows
section
variable {prog : Program} {w : World} {A : Around} {R : Result → Shared → Prop} {I : Addr} {fp wr : List Addr} {G : Array GenState → Array GenState → Prop} {n : Nat} {St : Nat → Shared → Prop} {led : Bool} {z : Str}
end
end L2
namespace PySem
open PyProof.Rows
end PySem

namespace L2
open PySem PySem.Spec PyProof.Rows
section
variable {prog : Program} {w : World} {A : Around} {E : Value → Shared → Prop} {s : Shared}
end
end L2

namespace L2
open PySem PySem.Spec PyProof.Rows
section
variable {prog : Program} {w : World} {A : Around} {E : Value → Shared → Prop} {s : Shared}
end
end L2
namespace L2
open PySem PySem.Spec PyProof.Rows
section
variable {prog : Program} {w : World} {A : Around} {E : Value → Shared → Prop} {s : Shared}
end
end L2

namespace L2
open PySem PySem.Spec PyProof.Rows
section
variable {prog : Program} {w : World} {A : Around} {E : Value → Shared → Prop} {s : Shared}
end
end L2

namespace Mi
open PySem
noncomputable section
end
end Mi

namespace L2
open PySem PySem.Spec PyProof.Rows
section
variable {X : Cx} {pins : List (Addr × Obj)} {σ : List (Option V)} {H : Hp} {s : Shared}
end
end L2
namespace L3
open PySem PySem.Spec
open PyProof.Rows (risingS sortedS ltCps_eq)
open L2 hiding Rep RepL
open Mi (Dt Xn R okR bindR optR bindR_ok bindR_none bindR_err optR_some optR_none Rh Sl Ro EM TM AM FM IM SM OM Tg Out bindT setsH setsO full frz frz1 frzAt)
section
variable [Kc] {mg : Str → Option Value} {E : XK} {L n k l : Nat} {te ta tb : TE} {e ea eb ma : EM} {t : TA} {m : AM}
end
end L3

namespace Mi
open PySem
noncomputable section
end
end Mi

namespace PySem
open Builtin Builtin.Str PySem.Spec
end PySem
namespace L2
open PySem PySem.Spec PyProof.Rows
section
variable {X : Cx} {pins : List (Addr × Obj)} {σ : List (Option V)} {H : Hp} {s : Shared}
end
end L2

namespace L3
open PySem PySem.Spec
open PyProof.Rows (risingS sortedS ltCps_eq)
open L2 hiding Rep RepL
open Mi (Dt Xn R okR bindR optR bindR_ok bindR_none bindR_err optR_some optR_none Rh Sl Ro EM TM AM FM IM SM OM Tg Out bindT setsH setsO full frz frz1 frzAt)
section
variable [Kc] {mg : Str → Option Value} {E : XK} {L n k l : Nat} {te ta tb : TE} {e ea eb ma : EM} {t : TA} {m : AM}
end
end L3

namespace Mi
open PySem
noncomputable section
end
end Mi

namespace L2
open PySem PySem.Spec PyProof.Rows
section
variable {prog : Program} {w : World} {A : Around} {E : Value → Shared → Prop} {s : Shared}
end
section
variable {X : Cx} {pins : List (Addr × Obj)} {σ : List (Option V)} {H : Hp} {s : Shared}
end
end L2
namespace L3
open PySem PySem.Spec
open L2 hiding Rep RepL
open Mi (Dt Xn R okR bindR optR bindR_ok bindR_none bindR_err optR_some optR_none Rh Sl Ro EM TM AM FM IM SM OM Tg Out bindT setsH setsO full frz frz1 frzAt)
section
variable [Kc] {mg : Str → Option Value} {E : XK} {L n k l : Nat} {te ta tb : TE} {e ea eb ma : EM} {t : TA} {m : AM}
end
end L3

namespace L2
open PySem PySem.Spec
structure Dr (p : Prop) : Prop where
  h : p
section
variable {X : Cx}
theorem dss_cons {st : Stmt} {rest : List Stmt} {t u : TS} (h1 : Dr (PS X st t)) (h2 : Dr (PSs X rest u)) : Dr (PSs X (st :: rest) (tSeq t u)) := ⟨pss_cons h1.h h2.h⟩
theorem dss_one {st : Stmt} {t : TS} (h1 : Dr (PS X st t)) : Dr (PSs X [st] t) := ⟨pss_one h1.h⟩
theorem ds_setD {pos : Pos} {i : Nat} {x : Str} {e : Expr} {te : TE} {pos' : Pos} (hN : X.N.Nodup) (hi : X.N[i]? = some x) (hx : Loc X.env.scope x) (he : Dr (PE X e te)) (hs : swapsWith e (some (.Name x pos')) pos.line X.env = pure false := by rfl) (hf : X.fn x = true ∨ X.env.scope.names.lookup x = some .local := by first | exact .inl rfl | exact .inr rfl | assumption) :
    Dr (PS X (.Assign [.Name x pos'] e pos) (tAsg te (gName i))) := ⟨ps_set hN hi hx he.h hs hf⟩
theorem de_ixD {a b : Expr} {ta tb : TE} {pos : Pos} {r : R2} (hr : IxR X r) (ha : Dr (PE X a ta)) (hb : Dr (PE X b tb)) (hp : PlainIx b) : Dr (PE X (a.Subscript b pos) (tOp r ta tb)) := ⟨pe_ix hr ha.h hb.h hp⟩
theorem de_lstD {es : List Expr} {t : TA} {pos : Pos} (h : Dr (PA X es t)) : Dr (PE X (.List es pos) (tLst t)) := ⟨pe_lst h.h⟩
theorem da_consD {e : Expr} {es : List Expr} {te : TE} {t : TA} (h1 : Dr (PE X e te)) (h2 : Dr (PA X es t)) (hs : starEach (e :: es) X.env = (false, eval e X.env) :: starEach es X.env := by rfl) : Dr (PA X (e :: es) (tCons te t)) := ⟨pa_cons h1.h h2.h hs⟩
theorem da_nilD : Dr (PA X [] tNil) := ⟨pa_nil⟩
theorem de_intD {i : Int} {j : Nat} {pos : Pos} : Dr (PE X (.Constant (.int i) j pos) (tC (.int i))) := ⟨pe_int⟩
end
end L2

namespace Mi
open PySem
noncomputable section
end
end Mi

namespace L2
open PySem PySem.Spec PyProof.Rows
structure Walk1 (prog : Program) (w : World) (A : Around) (I : Addr) (fp : List Addr) (n : Nat) (P : Nat → Value → Prop) (St : Nat → Heap → Prop) : Prop where
  me : I ∈ fp
  frame : ∀ i h h', St i h → (∀ b ∈ fp, ∀ o, h.get? b = some o → h'.get? b = some o) → St i h'
  item : ∀ i (s : Shared) (Q : Option Value → Shared → Prop) (E : Value → Shared → Prop), i < n → St i s.heap →
    (∀ v h' tk, P i v → St (i + 1) h' → (∀ b o, b ≠ I → s.heap.get? b = some o → h'.get? b = some o) → Q (some v) { s with heap := h', toks := tk }) → wpAny (model prog w) A (pyNext (.ref I)) Q E s
  done : ∀ (s : Shared) (Q : Option Value → Shared → Prop) (E : Value → Shared → Prop), St n s.heap →
    (∀ h' tk, (∀ b o, b ≠ I → s.heap.get? b = some o → h'.get? b = some o) → (∃ u, h'.get? I = some u) → Q none { s with heap := h', toks := tk }) → wpAny (model prog w) A (pyNext (.ref I)) Q E s
  self : ∀ i (s : Shared) (Q : Value → Shared → Prop) (E : Value → Shared → Prop), St i s.heap → Q (.ref I) s → wpAny (model prog w) A (pyIter (.ref I)) Q E s
structure Once (prog : Program) (w : World) (T : String) (r : Addr) (fp : List Addr) (n : Nat) (P : Nat → Value → Prop) (St : Nat → Heap → Prop) : Prop where
  ty : ∀ (s : Shared) i, St i s.heap → s.TypeIs (.ref r) T
  nl : (Value.type T == Value.type "list") = false
  nt : (Value.type T == Value.type "tuple") = false
  me : r ∈ fp
  hint : ∀ (A : Around) (E : Value → Shared → Prop) (s : Shared) (Q : Bool → Shared → Prop), A.handled = none → St 0 s.heap → (∀ b tk, Q b { s with toks := tk }) → wpAny (model prog w) A (Builtin.List.listLengthHint (.ref r)) Q E s
  walk : ∀ (A : Around), A.handled = none → Walk1 prog w A r fp n P St
section
variable {prog : Program} {w : World} {A : Around} {E : Value → Shared → Prop} {s : Shared} {T : String} {r : Addr} {fp : List Addr} {n : Nat} {P : Nat → Value → Prop} {St : Nat → Heap → Prop}
end
section
variable {prog : Program} {w : World} {A : Around} {E : Value → Shared → Prop} {s : Shared} {x : Str} {t : Tok}
end
end L2

namespace L2
open PySem PySem.Spec PyProof.Rows
section
variable {X : Cx} {pins : List (Addr × Obj)} {σ : List (Option V)} {H : Hp} {s : Shared}
end
end L2
namespace L3
open PySem PySem.Spec
open L2 hiding Rep RepL
open Mi (Dt Xn R okR bindR optR bindR_ok bindR_none bindR_err optR_some optR_none Rh Sl Ro EM TM AM FM IM SM OM Tg Out bindT setsH setsO full frz frz1 frzAt)
section
variable [Kc] {mg : Str → Option Value} {E : XK} {L n k l : Nat} {te ta tb : TE} {e ea eb ma : EM} {t : TA} {m : AM}
end
end L3

namespace Mi
open PySem
noncomputable section
end
end Mi

namespace L3
open PySem PySem.Spec
open L2 hiding Rep RepL
open Mi (Dt Xn R okR bindR optR bindR_ok bindR_none bindR_err optR_some optR_none Rh Sl Ro EM TM AM FM IM SM OM Tg Out bindT setsH setsO full frz frz1 frzAt)
section
variable [Kc] {mg : Str → Option Value} {E : XK} {L n k l : Nat}
end
section
variable [Kc] {mg : Str → Option Value} {E : XK} {L n k l : Nat}
end
end L3

namespace Mi
open PySem
noncomputable section
end
end Mi

namespace PySem
open Builtin Builtin.Str PySem.Spec
end PySem
namespace L2
open PySem PySem.Spec PyProof.Rows
section
variable {X : Cx} {pins : List (Addr × Obj)} {σ : List (Option V)} {H : Hp} {s : Shared}
end
end L2
namespace L3
open PySem PySem.Spec
open L2 hiding Rep RepL
open Mi (Dt Xn R okR bindR optR bindR_ok bindR_none bindR_err optR_some optR_none Rh Sl Ro EM TM AM FM IM SM OM Tg Out bindT setsH setsO full frz frz1 frzAt)
section
variable [Kc] {mg : Str → Option Value} {E : XK} {L n k l : Nat}
end
end L3

namespace PySem
open Sem (wp)
theorem lk_list_keys : typeLookup (.type "list") "keys" = pure none := by rw [typeLookup_type, builtinLookup_eq_fast]; kernel_rfl
theorem no_keys_list {prog : Program} {w : World} {A : Around} {E : Value → Shared → Prop} {s : Shared} {a : Addr} {o : Obj} {xs : Array Value} {k : Nat} {Q : Option Value → Shared → Prop}
    (hx : s.heap.get? a = some o) (hc : o.cls = .type "list") (hdat : o.data = .seq xs k) (hd : o.dict = none) (hA : A.handled = none)
    (h : ∀ h' tk, (∀ b ob, s.heap.get? b = some ob → h'.get? b = some ob) → Q none { s with heap := h', toks := tk }) :
    wpAny (model prog w) A (getAttr? (.ref a) "keys") Q E s := by
  obtain ⟨c, dct, dat, sl⟩ := o
  simp only at hc hdat hd
  subst hc hdat hd
  obtain ⟨hp, g, d, tk, os⟩ := s
  have hT : ∀ tk', (⟨hp, g, d, tk', os⟩ : Shared).TypeIs (.ref a) "list" := fun _ => ⟨_, hx, rfl⟩
  have f1 := sub_AttributeError
  have f3 := F.slot_list_getattribute.lookup
  have f4 := F.slot_list_getattribute.bind (.ref a)
  have f5 := am_list_getattr_none
  unfold getAttr? getAttrBy? getAttrBy
  repeat (any_goals (first | assumption | exact hT _ | ((with_reducible show wpAny _ _ (call (Value.builtin "list.__getattribute__") _ _) _ _ _); refine call_meets F.slot_list_getattribute (hT _) am_entry_list_getattribute (F.args_list_getattribute_2 _ _) (meets_getattribute_miss_list a xs k sl "keys" _ lk_list_keys (by decide +kernel) (by size_fits)) ⟨hx, hA, fun h' tk' e hx' => ?_⟩) | wp_step))
  obtain ⟨t', u', he⟩ := hx'.there
  have hTe : (⟨h', g, d, tk', os⟩ : Shared).TypeIs (.ref e) "AttributeError" := ⟨_, he, rfl⟩
  show wpAny _ _ (getattributeRaised _ _ _ _ _ _ _) _ _ _
  unfold getattributeRaised
  repeat (any_goals (first | assumption | wp_step))
  exact h h' tk' hx'.keeps
theorem entry_dict_loop : entryFor table "dict.update.loop" = some Builtin.«dict.update.loop» := entryFor_of_tree (by kernel_rfl)
theorem plain_dict_loop : plainId "dict.update.loop" = true := by decide +kernel
section
variable {prog : Program} {w : World} {A : Around} {K : Type} [DecidableEq K] {knd : KeyKind prog w K}
def PairAt (knd : KeyKind prog w K) (h : Heap) (v : Value) (p : K × Value) : Prop := ∃ t o n key, v = .ref t ∧ h.get? t = some o ∧ o.cls = .type "tuple" ∧ o.data = .seq #[key, p.2] n ∧ knd.is p.1 key = true
theorem upd_loop {R : Result → Shared → Prop} (hh : A.handled = none) {d l it : Addr} (hdl : d ≠ l) (hdi : d ≠ it) (hli : l ≠ it) {items : Array Value} (ps : List (K × Value)) (hps : ps.length = items.size) (result : Value) :
    ∀ (n i : Nat) (s : Shared) (kvs : List (K × Value)), items.size - i = n → i ≤ items.size → kvs.length + n ≤ 100000 → s.heap.DictOf knd d kvs → s.heap.IsListIter it l i → s.heap.IsList l items →
    (∀ (j : Nat) v p, items[j]? = some v → ps[j]? = some p → PairAt knd s.heap v p) →
    (∀ h' tk, h'.DictOf knd d ((ps.drop i).foldl (fun m p => stored m p.1 p.2) kvs) → (∀ b o, b ≠ d → b ≠ it → s.heap.get? b = some o → h'.get? b = some o) → (∃ o, h'.get? d = some o) → R (.ok (.ret result)) { s with heap := h', toks := tk }) →
    codeAny (model prog w) A (.builtin "dict.update.loop" ⟨[.ref d, .ref it, rawInt i, result], []⟩) R s := by
  intro n
  induction n with
  | zero =>
    intro i s kvs hn hi hz hd hit hl hp hR
    have hin : i = items.size := by omega
    refine codeAny_builtin entry_dict_loop ?_
    rw [Around.under_plainId plain_dict_loop _]
    show wpAny _ A.in1 (pyNext (.ref it) >>= _) _ _ s
    refine wpAny_bind (wpAny_pyNext_list_end hh hit hl (by rw [hin]; simp) fun h' hx => ?_)
    show wpAny _ A.in1 (Builtin.Dict.addKeywords d [] >>= _) _ _ _
    refine wpAny_bind (wpAny_of_eq (a := ()) rfl ?_)
    have hd' : h'.DictOf knd d kvs := by
      obtain ⟨o, es, ep, ho, r⟩ := hd
      exact ⟨o, es, ep, hx _ _ hdi ho, r⟩
    refine wpAny_pure (hR h' s.toks ?_ (fun b o _ hb e => hx b o hb e) ?_)
    · rw [hin, ← hps, List.drop_length]; exact hd'
    · obtain ⟨o, es, ep, ho, r⟩ := hd'
      exact ⟨o, ho⟩
  | succ n ih =>
    intro i s kvs hn hi hz hd hit hl hp hR
    have hlt : i < items.size := by omega
    have hx : items[i]? = some items[i] := Array.getElem?_eq_getElem hlt
    have hpi : ps[i]? = some (ps[i]'(by omega)) := List.getElem?_eq_getElem (by omega)
    obtain ⟨t, o, m, key, e1, e2, e3, e4, e5⟩ := hp i _ _ hx hpi
    refine codeAny_builtin entry_dict_loop ?_
    rw [Around.under_plainId plain_dict_loop _]
    show wpAny _ A.in1 (pyNext (.ref it) >>= _) _ _ s
    refine wpAny_bind (wpAny_pyNext_list_item hit hl hx fun h1 hit1 hs1 => ?_)
    rw [e1]
    obtain ⟨oi, hoi, hci, hdi'⟩ := id hit
    have hti : t ≠ it := fun z => by
      rw [z, hoi] at e2; cases e2; rw [hci] at e3; exact absurd e3 (by decide)
    have htd : t ≠ d := fun z => by
      obtain ⟨od, es, ep, ho, hex, hdd, _⟩ := hd
      rw [z, ho] at e2; cases e2; rw [hdd] at e4; cases e4
    have e2' : h1.get? t = some o := (hs1.2 t hti).trans e2
    have hd1 : h1.DictOf knd d kvs := by
      obtain ⟨o, es, ep, ho, r⟩ := hd
      exact ⟨o, es, ep, (hs1.2 d hdi).trans ho, r⟩
    show wpAny _ A.in1 (holding [.ref t] _ >>= _) _ _ _
    refine wpAny_bind (wpAny_holding ?_)
    refine wpAny_bind (wpAny_tryCatch ?_)
    unfold Builtin.Dict.pairItems
    refine wpAny_bind (wpAny_typeOf (T := "tuple") ⟨o, e2', e3⟩ ?_)
    rw [if_pos (by decide)]
    refine wpAny_bind (wpAny_seqItems e2' e4 ?_)
    refine wpAny_pure ?_
    show wpAny _ A.in1 (holding [key, (ps[i]'(by omega)).2] (dictSet d key (ps[i]'(by omega)).2)) _ _ _
    refine wpAny_holding (wpAny_dictSet_pairs e5 hd1 (fun h2 hd2 hs2 => ?_) (by rw [sizeLine_eq]; omega))
    refine wpAny_pure ⟨plainId_quiet plain_dict_loop _, ?_⟩
    have hit2 : h2.IsListIter it l (i + 1) := hit1.at fun o e => (hs2.2 it hdi.symm).trans e
    have hl2 : h2.IsList l items := hl.at fun o e => (hs2.2 l hdl.symm).trans ((hs1.2 l hli).trans e)
    have kp : ∀ b o, b ≠ d → b ≠ it → s.heap.get? b = some o → h2.get? b = some o := fun b o hb hb2 e => (hs2.2 b hb).trans ((hs1.2 b hb2).trans e)
    refine ih (i + 1) _ (stored kvs (ps[i]'(by omega)).1 (ps[i]'(by omega)).2) (by omega) hlt ?_ hd2 hit2 hl2 (fun j v p h1 h2 => ?_) fun h' tk hd' hk he => ?_
    · have := stored_length_le kvs (ps[i]'(by omega)).1 (ps[i]'(by omega)).2
      omega
    · obtain ⟨t', o', m', key', f1, f2, f3, f4, f5⟩ := hp j v p h1 h2
      refine ⟨t', o', m', key', f1, kp _ _ (fun z => ?_) (fun z => ?_) f2, f3, f4, f5⟩
      · obtain ⟨od, es, ep, ho, hex, hdd, _⟩ := hd
        rw [z, ho] at f2; cases f2; rw [hdd] at f4; cases f4
      · rw [z, hoi] at f2; cases f2; rw [hci] at f3; exact absurd f3 (by decide)
    · refine hR h' tk ?_ (fun b o hb hb2 e => hk b o hb hb2 (kp b o hb hb2 e)) he
      rw [List.drop_eq_getElem_cons (show i < ps.length by omega)]
      exact hd'
theorem upd_call {E : Value → Shared → Prop} {s : Shared} {Q : Value → Shared → Prop} (hh : A.handled = none) {d l : Addr} (hdl : d ≠ l) {kvs : List (K × Value)} {items : Array Value} (ps : List (K × Value)) (hps : ps.length = items.size) (hz : kvs.length + items.size ≤ 100000)
    (hd : s.heap.DictOf knd d kvs) {o : Obj} {n : Nat} (ho : s.heap.get? l = some o) (hc : o.cls = .type "list") (hod : o.dict = none) (hdat : o.data = .seq items n)
    (hp : ∀ (j : Nat) v p, items[j]? = some v → ps[j]? = some p → PairAt knd s.heap v p)
    (hQ : ∀ h' tk, h'.DictOf knd d (ps.foldl (fun m p => stored m p.1 p.2) kvs) → (∀ b o, b ≠ d → s.heap.get? b = some o → h'.get? b = some o) → (∃ o, h'.get? d = some o) → Q .none { s with heap := h', toks := tk }) :
    wpAny (model prog w) A (call (.builtin "dict.update") [.ref d, .ref l]) Q E s := by
  refine wpAny_call (codeAny_call_builtin F.slot_dict_update.plain F.entry_dict_update (F.slot_dict_update.check _ _ _ _ _ _ _ _ hd.typeIs (F.args_dict_update_2 _ _) ?_))
  unfold Builtin.«dict.update»
  refine wpAny_bind ?_
  unfold Builtin.Dict.selfAndRest
  refine wpAny_bind (wpAny_notOrdered_dict hd.typeIs ?_)
  show wpAny _ _ (pure (d, [Value.ref l])) _ _ s
  refine wpAny_pure ?_
  show wpAny _ A.in1 (Builtin.Dict.updateFrom "dict.update" d (.ref l) [] .none) _ _ s
  unfold Builtin.Dict.updateFrom
  refine wpAny_bind (wpAny_typeOf (T := "list") ⟨o, ho, hc⟩ ?_)
  rw [if_pos (by decide)]
  refine wpAny_bind (no_keys_list ho hc hdat hod hh fun h1 tk1 hk1 => ?_)
  show wpAny _ A.in1 (rule _ >>= fun _ => pyIter (.ref l) >>= _) _ _ _
  refine wpAny_bind (wpAny_rule ?_)
  have hl1 : h1.IsList l items := ⟨o, hk1 _ _ ho, hc, n, hdat⟩
  refine wpAny_bind (wpAny_pyIter_list hl1 ?_)
  have hd1 : h1.DictOf knd d kvs := by
    obtain ⟨o, es, ep, ho, r⟩ := hd
    exact ⟨o, es, ep, hk1 _ _ ho, r⟩
  have hdl1 : d < h1.objs.size := by
    obtain ⟨o, es, ep, ho, r⟩ := hd1
    exact Heap.lt_size ho
  have hll1 : l < h1.objs.size := Heap.lt_size (hk1 _ _ ho)
  refine wpAny_pure ⟨plainId_quiet plain_dict_loop _, ?_⟩
  refine upd_loop (knd := knd) (l := l) (it := h1.objs.size) (items := items) hh hdl (Nat.ne_of_lt hdl1) (Nat.ne_of_lt hll1) ps hps .none items.size 0 _ kvs rfl (Nat.zero_le _) hz ?_ ⟨_, Heap.get?_push_size _ rfl, rfl, rfl⟩ (hl1.at fun o e => Heap.get?_push_of_some _ e) (fun j v p a1 a2 => ?_) fun h' tk hd' hk he => ?_
  · obtain ⟨o, es, ep, ho, r⟩ := hd1
    exact ⟨o, es, ep, Heap.get?_push_of_some _ ho, r⟩
  · obtain ⟨t', o', m', key', f1, f2, f3⟩ := hp j v p a1 a2
    exact ⟨t', o', m', key', f1, Heap.get?_push_of_some _ (hk1 _ _ f2), f3⟩
  · exact hQ h' tk hd' (fun b o hb e => hk b o hb (Nat.ne_of_lt (Heap.lt_size (hk1 _ _ e))) (Heap.get?_push_of_some _ (hk1 _ _ e))) he
end
end PySem

namespace Mi
open PySem
noncomputable section
def kyD : Dt → Option (Sum Int Str)
  | .int i => some (.inl i)
  | .str x => some (.inr x)
  | _ => none
def swD : Dt → Option Sw
  | .non => some .non
  | .bl b => some (.bl b)
  | .int i => some (.int i)
  | .str x => some (.str x)
  | _ => none
def swT : Sw → Dt
  | .non => .non
  | .bl b => .bl b
  | .int i => .int i
  | .str x => .str x
def getW (kvs : List (Sum Int Str × Sw)) (k : Sum Int Str) : Option Sw := (kvs.find? fun p => decide (p.1 = k)).map (·.2)
def putW (kvs : List (Sum Int Str × Sw)) (k : Sum Int Str) (v : Sw) : List (Sum Int Str × Sw) :=
  if (kvs.any fun p => decide (p.1 = k)) = true then kvs.map (fun p => if p.1 = k then (p.1, v) else p) else kvs ++ [(k, v)]
def eDct0 : EM := fun _ => okR (.dct [])
def dinD (ng : Bool) (x y : Dt) : Option Dt := match y with
  | .dct kvs => match kyD x with
    | some k => some (.bl (if ng = true then !(getW kvs k).isSome else (getW kvs k).isSome))
    | none => none
  | _ => none
def eDGet (d k x : EM) : EM := fun ρ => bindR (d ρ) fun D => match D with
  | .dct kvs => bindR (k ρ) fun y => bindR (x ρ) fun z => match kyD y with
    | some q => if z.dep = 0 then okR (match getW kvs q with | some w => swT w | none => z) else none
    | none => none
  | _ => none
def sDput (i : Nat) (e1 e2 : EM) : SM := fun ρ => bindR (e2 (full ρ)) fun v => match ρ[i]? with
  | some (some (.dct kvs, k + 1)) => bindR (e1 (full ρ)) fun y => match kyD y, swD v with
    | some q, some u => @ite _ (kvs.length ≤ 100000) (Classical.propDecidable _) (okR (.nx (ρ.set i (some (.dct (putW kvs q u), k + 1))))) none
    | _, _ => none
  | _ => none
def pairsD : List Dt → Option (List (Sum Int Str × Sw))
  | [] => some []
  | .tup [a, b] :: r => match kyD a, swD b, pairsD r with
    | some k, some v, some q => some ((k, v) :: q)
    | _, _, _ => none
  | _ :: _ => none
def sDupd (i : Nat) (e : EM) : SM := fun ρ => match ρ[i]? with
  | some (some (.dct kvs, k + 1)) => bindR (e (full ρ)) fun d => match d with
    | .lst ds => match pairsD ds with
      | some ps => @ite _ (kvs.length + ps.length ≤ 50000) (Classical.propDecidable _) (okR (.nx (ρ.set i (some (.dct (ps.foldl (fun m p => putW m p.1 p.2) kvs), k + 1))))) none
      | none => none
    | _ => none
  | _ => none
end
end Mi

namespace L2
open PySem PySem.Spec PyProof.Rows
section
variable {X : Cx}
def tMD (r : V → List V → Hp → VK → Prop) (to : TE) (t : TA) : TE := fun σ H Q => to σ H fun x H1 => match x with
  | .ref p => (∃ kvs, H1 p = some (.dK kvs)) ∧ t σ H1 fun vs H2 => r x vs H2 Q
  | _ => False
variable {o e : Expr} {es : List Expr} {to : TE} {t : TA} {name : Str} {apos cpos : Pos} {T id : String} {r : V → List V → Hp → VK → Prop}
theorem pe_md (pa : PlainAttrs "dict") (slot : Slot "dict" name id) (hty : typeOf (.builtin id) = pure (.type "method_descriptor")) (hm : MtR X id r) (ho : PE X o to) (ha : PA X (e :: es) t)
    (hbase : attributeBase o name X.env (eval o X.env) = eval o X.env := by rfl)
    (hfew : ((backTo cpos (starEach (e :: es) X.env)).all (fun x => !x.1) && (backToKw cpos (keywordEach [] X.env)).all (fun x => x.1.isSome)
      && decide ((e :: es).length + ([] : List Keyword).length + (if ([] : List Keyword).isEmpty then 0 else 1) < 30)) = true := by rfl)
    (hline : (apos.endLine == cpos.line) = true := by rfl) (hs : starEach (e :: es) X.env = (false, eval e X.env) :: starEach es X.env := by rfl) (hplain : (backTo cpos (starEach es X.env)).any (·.1) = false := by rfl) :
    PE X (.Call (.Attribute o name apos) (e :: es) [] cpos) (tMD r to t) := by
  intro pins s σ H Q I h
  refine wpAny_Call_method_late hbase hfew hline rfl (thn (ho pins s σ H _ I h) fun v s1 ⟨x, H1, I1, r1, q1⟩ => ?_)
  cases x with
  | ref p => ?_
  | _ => exact False.elim q1
  obtain ⟨⟨kvs, hx⟩, q1⟩ := q1
  cases r1
  obtain ⟨h1, h2, _⟩ := isD_at I1 (.inl ⟨kvs, .inl hx⟩)
  refine ⟨"dict", id, pa, slot, hty, h1, h2, ?_⟩
  have hA := ha cpos pins s1 σ H1 _ I1 q1
  rw [hs] at hA ⊢
  refine Calls.callWith_builtin (by show (false || (backTo cpos (starEach es X.env)).any (·.1)) = false; rw [hplain] <;> rfl) (Calls.evalArgs_plain ?_)
  exact thn hA fun us s2 ⟨vs, H2, I2, r2, q2⟩ => hm pins s2 σ H2 (.ref p) vs _ us Q I2 rfl r2 q2
def PairV (H : Hp) (x : V) (p : Key × V) : Prop := ∃ t, x = .ref t ∧ H t = some (.tup [kV p.1, p.2])
def updM : V → List V → Hp → VK → Prop := fun x vs H Q => match x, vs with
  | .ref d, [.ref l] => ∃ (kvs : List (Key × V)) (xs : List V) (ps : List (Key × V)), H d = some (.dK kvs) ∧ H l = some (.lst xs) ∧ xs.length = ps.length ∧ (∀ (j : Nat) x p, xs[j]? = some x → ps[j]? = some p → PairV H x p) ∧ kvs.length + ps.length ≤ 50000 ∧
      Q .non (upd H d (.dK (ps.foldl (fun m p => putK m p.1 p.2) kvs)))
  | _, _ => False
theorem kv_fold : ∀ {ps : List (Key × V)} {qs : List (Key × Value)} {kvs : List (Key × V)} {vs : List (Key × Value)}, KV kvs vs → Paired (fun (p : Key × V) (q : Key × Value) => p.1 = q.1 ∧ RelV p.2 q.2) ps qs → KV (ps.foldl (fun m p => putK m p.1 p.2) kvs) (qs.foldl (fun m p => stored m p.1 p.2) vs)
  | _, _, _, _, r, .nil => r
  | p :: ps, q :: qs, kvs, vs, r, .cons ⟨e, rp⟩ t => by
    simp only [List.foldl_cons]
    rw [← e]
    exact kv_fold (r.put p.1 rp) t
theorem put_len (kvs : List (Key × V)) : ∀ ps : List (Key × V), (ps.foldl (fun m p => putK m p.1 p.2) kvs).length ≤ kvs.length + ps.length := by
  intro ps
  induction ps generalizing kvs with
  | nil => exact Nat.le_refl _
  | cons p r ih =>
    have h1 := ih (putK kvs p.1 p.2)
    have h2 := length_putK kvs p.1 p.2
    simp only [List.foldl_cons, List.length_cons]
    omega
theorem pairs_of {pins : List (Addr × Obj)} {σ : List (Option V)} {H : Hp} {s : Shared} (I : Inv X pins σ H s) : ∀ {xs : List V} {us : List Value} {ps : List (Key × V)}, Vals xs us → xs.length = ps.length → (∀ (j : Nat) x p, xs[j]? = some x → ps[j]? = some p → PairV H x p) →
    ∃ qs : List (Key × Value), Paired (fun (p : Key × V) (q : Key × Value) => p.1 = q.1 ∧ RelV p.2 q.2) ps qs ∧ qs.length = us.length ∧ ∀ (j : Nat) u q, us[j]? = some u → qs[j]? = some q → PairAt (mixKind X.prog X.w) s.heap u q
  | _, _, [], .nil, _, _ => ⟨[], .nil, rfl, fun j u q h => by simp at h⟩
  | x :: xs, u :: us, p :: ps, .cons r t, hl, h => by
    obtain ⟨qs, h1, h2, h3⟩ := pairs_of I (ps := ps) t (by simpa using hl) fun j x p a b => h (j + 1) x p (by simpa using a) (by simpa using b)
    obtain ⟨a, rfl, ha⟩ := h 0 x p rfl rfl
    cases r
    obtain ⟨its, rv, pl, _⟩ := I.tuple (SqT.of ha)
    obtain ⟨key, val, rfl, rk, rval⟩ := vals2 rv
    obtain ⟨o, ho, hc, n, hd⟩ := pl
    refine ⟨(p.1, val) :: qs, .cons ⟨rfl, rval⟩ h1, by simp [h2], fun j u q a1 a2 => ?_⟩
    cases j with
    | zero =>
      simp at a1 a2
      subst a1 a2
      exact ⟨a, o, n, key, rfl, ho, hc, hd, kV_is rk⟩
    | succ j => exact h3 j u q (by simpa using a1) (by simpa using a2)
  | [], [], _ :: _, .nil, hl, _ => by simp at hl
  | _ :: _, _ :: _, [], .cons _ _, hl, _ => by simp at hl
theorem d_write' {pins : List (Addr × Obj)} {σ : List (Option V)} {H : Hp} {s : Shared} {a : Addr} {h' : Heap} {t' : Nat} {ob : HO} (I : Inv X pins σ H s) (mu : Mut (H a)) (hs : ∀ b o, b ≠ a → s.heap.get? b = some o → h'.get? b = some o) (he : ∃ q, h'.get? a = some q) (new : ObjOk X.prog X.w (upd H a ob) h' a ob) :
    Inv X pins σ (upd H a ob) { s with heap := h', toks := t' } := I.write (x := a) (e := a) mu (.inl rfl) hs he new
theorem mt_updM (hc : X.calm = true) : MtR X "dict.update" updM := by
  intro pins s σ H x vs v us Q I rx rv h
  match x, vs, rx, rv, h with
  | .ref d, [.ref l], rx, rv, h =>
    obtain ⟨kvs, xs, ps, hd, hl, hlen, hp, hz, q⟩ := h
    cases rx
    obtain ⟨u, rfl, ru⟩ := vals1 rv
    cases ru
    obtain ⟨z, hds, ws, rel, dd⟩ := dk_of I.hok hd
    obtain ⟨z2, its, n, r, _, e⟩ := I.lstM hl
    have hil := r.length
    have hdl : d ≠ l := fun z => by rw [z, hl] at hd; cases hd
    obtain ⟨qs, h1, h2, h3⟩ := pairs_of I r hlen hp
    have hpq := Paired.length h1
    have hrl := rel.length
    refine upd_call (knd := mixKind X.prog X.w) (I.ok.hd hc) hdl qs (by simp [h2]) (by simp; omega) dd e rfl rfl rfl (fun j v p a1 a2 => h3 j v p (by simpa using a1) a2) fun h' tk hd' hk he => ?_
    have hfl := put_len kvs ps
    exact ⟨.non, _, d_write' I (by rw [hd]; exact True.intro) hk he (dk_new (by rw [sizeLine_eq]; omega) hds (kv_fold rel h1) hd'), rfl, q⟩
end
end L2
namespace L3
open PySem PySem.Spec
open L2 hiding Rep RepL
open Mi (Dt Xn R okR bindR optR bindR_ok bindR_none bindR_err optR_some optR_none Rh Sl Ro EM TM AM FM IM SM OM Tg Out bindT setsH setsO full frz frz1 frzAt)
abbrev wk (kvs : List (Sum Int Str × Mi.Sw)) : List (Key × V) := kvs.map fun p => (p.1, swV p.2)
theorem val_w (kvs : List (Sum Int Str × Mi.Sw)) (k : Key) : valV (wk kvs) k = (Mi.getW kvs k).map swV := by
  unfold valV Mi.getW wk
  induction kvs with
  | nil => rfl
  | cons p r ih =>
    simp only [List.map_cons, List.find?_cons]
    by_cases h : p.1 = k
    · simp [h]
    · simp only [h, decide_false]
      exact ih
theorem put_w (kvs : List (Sum Int Str × Mi.Sw)) (k : Key) (u : Mi.Sw) : putK (wk kvs) k (swV u) = wk (Mi.putW kvs k u) := by
  unfold putK Mi.putW wk
  have e : (kvs.map fun p => ((p.1, swV p.2) : Key × V)).any (fun kv => decide (kv.1 = k)) = kvs.any fun p => decide (p.1 = k) := by
    rw [List.any_map]; rfl
  rw [e]
  split
  · rw [List.map_map, List.map_map]
    refine List.map_congr_left fun p _ => ?_
    by_cases h : p.1 = k
    · simp [h]
    · simp [h]
  · simp
theorem put_ws (ps : List (Sum Int Str × Mi.Sw)) : ∀ kvs : List (Sum Int Str × Mi.Sw), (wk ps).foldl (fun m p => putK m p.1 p.2) (wk kvs) = wk (ps.foldl (fun m p => Mi.putW m p.1 p.2) kvs) := by
  induction ps with
  | nil => intro kvs; rfl
  | cons p r ih =>
    intro kvs
    show (wk r).foldl (fun m p => putK m p.1 p.2) (putK (wk kvs) p.1 (swV p.2)) = _
    rw [put_w, ih]
    rfl
section
variable [Kc] {mg : Str → Option Value} {E : XK} {L n k l : Nat} {te ta tb tx td : TE} {e ea eb ex ed ma : EM} {t : TA} {m : AM}
theorem ky_rep {G : Hp} {d : Dt} {v : V} {q : Sum Int Str} (h : Rep G d v) (e : Mi.kyD d = some q) : v = kV q := by
  cases d with
  | int i => cases e; exact h
  | str x => cases e; exact h
  | _ => cases e
theorem sw_rep {G : Hp} {d : Dt} {v : V} {u : Mi.Sw} (h : Rep G d v) (e : Mi.swD d = some u) : v = swV u := by
  cases d with
  | non => cases e; exact h
  | bl _ => cases e; exact h
  | int i => cases e; exact h
  | str x => cases e; exact h
  | _ => cases e
theorem rep_swT {G : Hp} (u : Mi.Sw) : Rep G (Mi.swT u) (swV u) := by cases u <;> rfl
theorem dep_swT (u : Mi.Sw) : (Mi.swT u).dep = 0 := by cases u <;> rfl
theorem de_dct0 : DE mg E tDNewK Mi.eDct0 1 := by
  intro G H σ ρ Q s w p a ha
  have fr : Fr G H G H (fun _ => False) := ⟨Ext.refl s, fun _ z => z.elim⟩
  exact p (.ref a) G _ _ (fr.add ha (.dK [])) ⟨a, rfl, upd_same, .inl rfl⟩
theorem dt_B (A : DE mg E te e k) : DT mg E (L2.tB te) (Mi.tB e) := by
  intro G H σ ρ Q s w p
  refine (de_frz A).step errT s w p fun d v G1 H1 S _ fr o p1 => ?_
  cases d with
  | bl b =>
    cases (show v = .bl b from o)
    exact ⟨b, rfl, p1 H1 fr.ext.h⟩
  | _ => exact p1.elim
theorem de_din (A : DE mg E ta ea k) (B : DE mg E tb eb l) : DE mg E (tDIn ta tb) (Mi.eB (Mi.dinD false) ea eb) n := by
  intro G H σ ρ Q s w p
  refine (de_frz A).step errE s w p fun d v G1 H1 S _ fr o p1 => ?_
  refine (de_frz B).step (errE.from fr.ext) fr.ext.in' (w.mono fr.ext.g) p1 fun e u G2 H2 S2 _ fr2 o2 p2 => ?_
  cases e with
  | dct kvs =>
    obtain ⟨a, rfl, ha⟩ := o2
    have p3 : PostE mg E G H n (optR (match Mi.kyD d with | some k => some (.bl (if false = true then !(Mi.getW kvs k).isSome else (Mi.getW kvs k).isSome)) | none => none)) Q := p2
    cases ek : Mi.kyD d with
    | none => rw [ek] at p3; exact p3.elim
    | some q =>
      rw [ek] at p3
      cases ky_rep o ek
      refine ⟨a, _, rfl, DGet.k (fr2.ext.in' _ _ ha), ?_⟩
      rw [val_w, Option.isSome_map]
      exact PostE.val (PostE.from p3 (fr.ext.trans fr2.ext)) (Ext.refl fr2.ext.in') rfl rfl
  | _ => exact p2.elim
theorem de_dnin (A : DE mg E ta ea k) (B : DE mg E tb eb l) : DE mg E (tDNotIn ta tb) (Mi.eB (Mi.dinD true) ea eb) n := by
  intro G H σ ρ Q s w p
  refine (de_frz A).step errE s w p fun d v G1 H1 S _ fr o p1 => ?_
  refine (de_frz B).step (errE.from fr.ext) fr.ext.in' (w.mono fr.ext.g) p1 fun e u G2 H2 S2 _ fr2 o2 p2 => ?_
  cases e with
  | dct kvs =>
    obtain ⟨a, rfl, ha⟩ := o2
    have p3 : PostE mg E G H n (optR (match Mi.kyD d with | some k => some (.bl (if true = true then !(Mi.getW kvs k).isSome else (Mi.getW kvs k).isSome)) | none => none)) Q := p2
    cases ek : Mi.kyD d with
    | none => rw [ek] at p3; exact p3.elim
    | some q =>
      rw [ek] at p3
      cases ky_rep o ek
      refine ⟨a, _, rfl, DGet.k (fr2.ext.in' _ _ ha), ?_⟩
      rw [val_w, Option.isSome_map]
      exact PostE.val (PostE.from p3 (fr.ext.trans fr2.ext)) (Ext.refl fr2.ext.in') rfl rfl
  | _ => exact p2.elim
theorem de_dget (D : DE mg E td ed k) (A : DE mg E ta ea l) {j : Nat} (X : DE mg E tx ex j) : DE mg E (tDGet2 td ta tx) (Mi.eDGet ed ea ex) n := by
  intro G H σ ρ Q s w p
  refine (de_frz D).step errE s w p fun d v G1 H1 S _ fr o p1 => ?_
  cases d with
  | dct kvs =>
    obtain ⟨a, rfl, ha⟩ := o
    refine ⟨a, rfl, .inl ⟨_, .inl (fr.ext.in' _ _ ha)⟩, ?_⟩
    have p1' : PostE mg E G H n (bindR (ea ρ) fun y => bindR (ex ρ) fun z => match Mi.kyD y with | some q => if z.dep = 0 then okR (match Mi.getW kvs q with | some w => Mi.swT w | none => z) else none | none => none) Q := p1
    refine (de_frz A).step (errE.from fr.ext) fr.ext.in' (w.mono fr.ext.g) p1' fun y u G2 H2 S2 _ fr2 o2 p2 => ?_
    have x2 := fr.ext.trans fr2.ext
    refine (de_frz X).step (errE.from x2) fr2.ext.in' (w.mono x2.g) p2 fun z u3 G3 H3 S3 _ fr3 o3 p3 => ?_
    cases ek : Mi.kyD y with
    | none => rw [ek] at p3; exact p3.elim
    | some q =>
      rw [ek] at p3
      cases ky_rep o2 ek
      dsimp only at p3
      split at p3
      · rename_i hz
        have ha3 := (x2.trans fr3.ext).in'
        refine ⟨_, DGet.k (fr3.ext.h _ _ (fr2.ext.h _ _ (fr.ext.in' _ _ ha))), ?_⟩
        rw [val_w]
        have p4 := PostE.from p3 (x2.trans fr3.ext)
        cases eg : Mi.getW kvs q with
        | none =>
          rw [eg] at p4
          exact PostE.val p4 (Ext.refl fr3.ext.in') hz o3
        | some u =>
          rw [eg] at p4
          exact PostE.val p4 (Ext.refl fr3.ext.in') (dep_swT u) (rep_swT u)
      · exact p3.elim
  | _ => exact p1.elim
theorem ds_dput (i : Nat) {n1 n2 : Nat} {t1 t2 : TE} {e1 e2 : EM} (A : DE mg E t1 e1 n1) (B : DE mg E t2 e2 n2) : DS mg E L (sDPut (vM i) t1 t2) (Mi.sDput i e1 e2) := by
  intro G0 H0 S0 σ ρ G H As D a p
  obtain ⟨J, x, s, w⟩ := a.full
  refine (de_frz B).step (errS.from x) x.in' w p fun d y G1 H1 S _ fr o p1 => ?_
  cases er : ρ[i]? with
  | none => rw [er] at p1; exact p1.elim
  | some sl =>
    rw [er] at p1
    match sl, er, p1 with
    | none, _, p => exact p.elim
    | some (.dct kvs, k + 1), er, p1 =>
      obtain ⟨v, h1, q, rfl, hq, hs⟩ := a.at i _ _ er
      unfold vM
      rw [h1]
      have x1 : Ext J H J H1 := Ext.same x.in' fr.ext.h
      refine (de_frz A).step (errS.from (x.trans x1)) x1.in' w p1 fun z u G2 H2 S2 _ fr2 o2 p2 => ?_
      cases ek : Mi.kyD z with
      | none => rw [ek] at p2; exact p2.elim
      | some c =>
        cases ev : Mi.swD d with
        | none => rw [ek, ev] at p2; exact p2.elim
        | some uu =>
          rw [ek, ev] at p2
          dsimp only at p2
          split at p2
          · rename_i hz
            cases ky_rep o2 ek
            cases sw_rep o ev
            have sH := fr.ext.h.trans fr2.ext.h
            have a1 := a.grow sH
            refine ⟨q, _, rfl, DPut.k (sH _ _ hq) (by rw [List.length_map, sizeLine_eq]; omega), ?_⟩
            rw [put_w]
            exact p2 σ G _ _ (a1.store (o := .dK (wk (Mi.putW kvs c uu))) (n := k + 1) (d := .dct (Mi.putW kvs c uu)) (S := As i) hs h1 ⟨q, rfl, upd_same, hs⟩ fun b z => .inl z)
          · exact p2.elim
    | some (.dct _, 0), _, p => exact p.elim
    | some (.lst _, _), _, p => exact p.elim
    | some (.non, _), _, p => exact p.elim
    | some (.bl _, _), _, p => exact p.elim
    | some (.int _, _), _, p => exact p.elim
    | some (.str _, _), _, p => exact p.elim
    | some (.tup _, _), _, p => exact p.elim
    | some (.scr _, _), _, p => exact p.elim
    | some (.exc _ _ _, _), _, p => exact p.elim
    | some (.ins _ _, _), _, p => exact p.elim
theorem pairs_rep {G : Hp} : ∀ {ds : List Dt} {xs : List V} {ps : List (Sum Int Str × Mi.Sw)}, Mi.pairsD ds = some ps → RepL G ds xs → xs.length = (wk ps).length ∧ ∀ (j : Nat) x p, xs[j]? = some x → (wk ps)[j]? = some p → PairV G x p
  | [], xs, ps, h, r => by
    cases h; cases r
    exact ⟨rfl, fun j x p h => by simp at h⟩
  | .tup [a, b] :: ds, xs, ps, h, r => by
    unfold Mi.pairsD at h
    cases ea : Mi.kyD a with
    | none => rw [ea] at h; cases h
    | some q =>
      cases eb : Mi.swD b with
      | none => rw [ea, eb] at h; cases h
      | some u =>
        cases er : Mi.pairsD ds with
        | none => rw [ea, eb, er] at h; cases h
        | some ps' =>
          rw [ea, eb, er] at h
          cases h
          obtain ⟨x, xs', rfl, hx, hr⟩ := r
          obtain ⟨i1, i2⟩ := pairs_rep er hr
          refine ⟨by simp at i1 ⊢; exact i1, fun j y p h1 h2 => ?_⟩
          cases j with
          | zero =>
            simp at h1 h2
            subst h1 h2
            obtain ⟨t, ys, rfl, ht, hy⟩ := hx
            obtain ⟨y1, y2, rfl, g1, g2⟩ := repL2 hy
            cases ky_rep g1 ea
            cases sw_rep g2 eb
            exact ⟨t, rfl, ht⟩
          | succ j => exact i2 j y p (by simpa using h1) (by simpa using h2)
  | .tup [] :: ds, _, _, h, _ => by cases h
  | .tup [_] :: ds, _, _, h, _ => by cases h
  | .tup (_ :: _ :: _ :: _) :: ds, _, _, h, _ => by cases h
  | .lst _ :: ds, _, _, h, _ => by cases h
  | .non :: ds, _, _, h, _ => by cases h
  | .bl _ :: ds, _, _, h, _ => by cases h
  | .int _ :: ds, _, _, h, _ => by cases h
  | .str _ :: ds, _, _, h, _ => by cases h
  | .scr _ :: ds, _, _, h, _ => by cases h
  | .exc _ _ _ :: ds, _, _, h, _ => by cases h
  | .ins _ _ :: ds, _, _, h, _ => by cases h
  | .dct _ :: ds, _, _, h, _ => by cases h
end
end L3

namespace Mi
open PySem
noncomputable section
end
end Mi

namespace L2
open PySem PySem.Spec PyProof.Rows
section
variable {X : Cx} {pins : List (Addr × Obj)} {σ : List (Option V)} {H : Hp} {s : Shared}
end
section
variable {X : Cx}
theorem de_tupD {es : List Expr} {t : TA} {x1 : Nat} {pos : Pos} (h : Dr (PA X es t)) : Dr (PE X (.Tuple es x1 pos) (tTup t)) := ⟨pe_tup h.h⟩
end
end L2
namespace L3
open PySem PySem.Spec
open L2 hiding Rep RepL
open Mi (Dt Xn R okR bindR optR bindR_ok bindR_none bindR_err optR_some optR_none Rh Sl Ro EM TM AM FM IM SM OM Tg Out bindT setsH setsO full frz frz1 frzAt)
section
variable [Kc] {mg : Str → Option Value} {E : XK} {L n k l : Nat} {te ta tb : TE} {e ea eb ma : EM} {t : TA} {m : AM}
end
end L3

namespace Mi
open PySem
noncomputable section
end
end Mi

namespace L2
open PySem PySem.Spec PyProof.Rows
section
variable {X : Cx} {e m1 : Expr} {te ts : TE} {pos p2 : Pos}
theorem ex_door {b : List Stmt} {t : TS} {R : TS → Prop} (h : Dr (PSs X b t)) (r : R t) : ∃ t, PSs X b t ∧ R t := ⟨t, h.h, r⟩
theorem da_consT {xs es : List Expr} {x1 : Nat} {p : Pos} {te : TE} {t : TA} (h1 : Dr (PE X (.Tuple xs x1 p) te)) (h2 : Dr (PA X es t)) : Dr (PA X (.Tuple xs x1 p :: es) (tCons te t)) := ⟨pa_cons h1.h h2.h rfl⟩
end
end L2
namespace L3
open PySem PySem.Spec
open L2 hiding Rep RepL
open Mi (Dt Xn R okR bindR optR bindR_ok bindR_none bindR_err optR_some optR_none Rh Sl Ro EM TM AM FM IM SM OM Tg Out bindT setsH setsO full frz frz1 frzAt)
section
variable [Kc] {mg : Str → Option Value} {E : XK} {L n k l : Nat}
end
end L3

namespace Mi
open PySem
noncomputable section
def sRetIx (L i : Nat) (e : EM) : SM := fun ρ => match ρ[i]? with
  | some (some (.lst ds, k + 1)) => bindR (e (full ρ)) fun z => match z with
    | .int z => match itA ds z with
      | some d => if k = L then okR (.rt d) else none
      | none => none
    | _ => none
  | _ => none
def botI : List Int → Int
  | [] => 0
  | [x] => x
  | x :: y :: r => min x (botI (y :: r))
def minL : List Dt → Option Dt
  | [.lst ds] => match intsD ds with
    | some (n :: ns) => some (.int (botI (n :: ns)))
    | _ => none
  | _ => none
end
end Mi

namespace L2
open PySem PySem.Spec PyProof.Rows
section
variable {X : Cx}
def rMinL : List V → Hp → VK → Prop := fun vs H Q => match vs with
  | [.ref a] => ∃ ns : List Int, H a = some (.lst (ns.map V.int)) ∧ 0 < ns.length ∧ ∀ M, M ∈ ns → (∀ a, a ∈ ns → M ≤ a) → Q (.int M) H
  | _ => False
theorem k_minL (hc : X.calm = true) : CallR X (.builtin "min") rMinL := by
  intro pins s σ H vs us Q I r h
  match vs, r, h with
  | [.ref a], r, h =>
    obtain ⟨ns, ha, hz, q⟩ := h
    obtain ⟨u, rfl, rx⟩ := vals1 r
    cases rx
    obtain ⟨its, rv, hl⟩ := hok_list I.hok ha
    have hi : IntsAre its ns := ints_vals rv
    obtain ⟨xs, e⟩ := hi.allInts.items
    have en2 : numsOf (intItems xs).toList = ns := by rw [← e]; exact hi.numsOf
    rw [nums_intItems] at en2
    have hl' : s.heap.IsList a (intItems xs) := by rw [← e]; exact hl
    have hxl : xs.size = ns.length := by rw [← en2]; simp
    refine min_intList (I.ok.hd hc) hl' (by omega) fun v h' tk hv hk => ?_
    obtain ⟨t, rfl⟩ := intItems_at hv
    obtain ⟨h1, h2⟩ := argBest_lt (numAt xs) (xs.size - 1)
    refine ⟨.int _, H, I.kept (t' := tk) hk, ⟨_, rfl⟩, q _ ?_ fun b hb => ?_⟩
    · rw [numAt_eq, en2]; exact getD_mem (by omega)
    · rw [← en2] at hb
      obtain ⟨j, hj, rfl⟩ := mem_getD hb
      rw [List.length_map, Array.length_toList] at hj
      rw [← numAt_eq]; exact h2 j (by omega)
end
end L2
namespace L3
open PySem PySem.Spec PyProof.Rows
open L2 hiding Rep RepL
open Mi (Dt R Rh EM TM SM AM IM Xn Sl Ro Out okR bindR optR full frz frzAt)
section
variable [Kc] {mg : Str → Option Value} {E : XK} {n L : Nat} {te ta tb : TE} {e : EM} {m m' : SM}
theorem botI_spec : ∀ (ns : List Int) (M : Int), M ∈ ns → (∀ a, a ∈ ns → M ≤ a) → Mi.botI ns = M
  | [], M, h, _ => by cases h
  | [x], M, h, _ => by simp at h; rw [h]; rfl
  | x :: y :: r, M, h, hb => by
    have hx := hb x (by simp)
    show min x (Mi.botI (y :: r)) = M
    rcases List.mem_cons.mp h with rfl | h
    · have key : ∀ (l : List Int), l ≠ [] → (∀ a, a ∈ l → M ≤ a) → M ≤ Mi.botI l := by
        intro l
        induction l with
        | nil => intro h; exact absurd rfl h
        | cons a q ih =>
          intro _ hb
          cases q with
          | nil => exact hb a (by simp)
          | cons b q =>
            have h1 := ih (by simp) fun c hc => hb c (by simp [hc])
            have h2 := hb a (by simp)
            show M ≤ min a (Mi.botI (b :: q))
            omega
      have := key (y :: r) (by simp) fun a ha => hb a (by simp [ha])
      omega
    · rw [botI_spec (y :: r) M h fun a ha => hb a (by simp [ha])]
      omega
theorem cb_minL : CBi rMinL Mi.minL n := by
  refine one_ints (one_lst rfl (fun d h => by cases d <;> first | rfl | exact absurd rfl (h _)) fun a b r => by cases a <;> rfl) (fun es h => by rw [Mi.minL, h]) fun mg E G H a es ns Q s ei ha p => ?_
  rw [Mi.minL, ei] at p
  cases ns with
  | nil => exact p.elim
  | cons q ns =>
    refine ⟨q :: ns, ha, by simp, fun M h1 h2 => ?_⟩
    rw [← botI_spec _ M h1 h2]
    exact PostE.val p (Ext.refl s) rfl rfl
end
end L3

namespace Mi
open PySem
noncomputable section
end
end Mi

namespace L2
open PySem PySem.Spec PyProof.Rows
section
variable {X : Cx} {tg : Expr}
end
section
variable {prog : Program} {w : World} {A : Around} {E : Value → Shared → Prop} {s : Shared}
end
section
variable {X : Cx}
end
end L2
namespace L3
open PySem PySem.Spec
open PyProof.Rows (risingS sortedS ltCps_eq)
open L2 hiding Rep RepL
open Mi (Dt Xn R okR bindR optR bindR_ok bindR_none bindR_err optR_some optR_none Rh Sl Ro EM TM AM FM IM SM OM Tg Out bindT setsH setsO full frz frz1 frzAt)
section
variable [Kc] {mg : Str → Option Value} {E : XK} {L n k l : Nat} {t : TA} {m : AM}
end
end L3

namespace Mi
open PySem
noncomputable section
def sAppUpd (i v j : Nat) (e : EM) : SM := fun ρ => match ρ[i]? with
  | some (some (.lst ds, k + 1)) => match ρ[v]? with
    | some (some (d, l)) => @ite _ (i ≠ v ∧ ds.length ≤ 100000 ∧ d.dep ≤ l ∧ d.dep ≤ k ∧ l < 1000) (Classical.propDecidable _) (sDupd j (fun ρ' => e (ρ'.set v (some d))) ((ρ.set v none).set i (some (.lst (ds ++ [d]), k + 1)))) none
    | _ => none
  | _ => none
def sPop0 (i : Nat) : SM := fun ρ => match ρ[i]? with
  | some (some (.lst ds, k + 1)) => if ds = [] then none else okR (.nx (ρ.set i (some (.lst (ds.eraseIdx (ds.length - 1)), k + 1))))
  | _ => none
def accGo (x y : Nat) (c : TM) (e ea : EM) : List Dt → Ro → R Out
  | [], ρ => okR (.nx ρ)
  | d :: ds, ρ => bindR (c ((full ρ).set x (some d))) fun b => if b = true then bindR (e ((full ρ).set x (some d))) fun r => (if r.dep = 0 then okR (.rt r) else none) else bindR (ea ((full ρ).set x (some d))) fun a => if a.dep ≤ 1 then accGo x y c e ea ds ((ρ.set x none).set y (some (a, 1))) else none
def sForAcc (i x y : Nat) (c : TM) (e ea : EM) : SM := fun ρ => match ρ[i]? with
  | some (some (.lst ds, _)) => accGo x y c e ea ds ρ
  | _ => none
end
end Mi

namespace L3
open PySem PySem.Spec
open L2 hiding Rep RepL
open Mi (Dt Xn R okR bindR optR bindR_ok bindR_none bindR_err optR_some optR_none Rh Sl Ro EM TM AM FM IM SM OM Tg Out bindT setsH setsO full frz frz1 frzAt)
section
variable [Kc] {mg : Str → Option Value} {E : XK} {L n k l : Nat} {te : TE} {e : EM}
section
variable {G0 H0 S0 : Hp} {σ : St} {ρ : Ro} {G H : Hp} {As : Nat → Addr → Prop}
theorem Sat.lose (a : Sat G0 H0 S0 σ ρ G H As) (v : Nat) : Sat G0 H0 S0 σ (ρ.set v none) G H (fun j b => j ≠ v ∧ As j b) := by
  refine ⟨a.ext, a.stb, by simp [a.len], fun j d m h => ?_, fun j l b h1 h2 => a.dis j l b h1.2 h2.2, fun j b h => a.new j b h.2⟩
  by_cases z : v = j
  · subst z
    have hj : v < ρ.length := by
      have := (List.getElem?_eq_some_iff.mp h).1
      simpa using this
    rw [List.getElem?_set_self hj] at h
    cases h
  · rw [List.getElem?_set_ne z] at h
    obtain ⟨u, h1, h2⟩ := a.at j d m h
    exact ⟨u, h1, h2.sub fun b hb => ⟨fun q => z q.symm, hb⟩⟩
theorem Sat.moved (a : Sat G0 H0 S0 σ ρ G H As) {i v : Nat} {ds : List Dt} {d : Dt} (e1 : ρ[i]? = some (some (.lst ds, k + 1))) (e2 : ρ[v]? = some (some (d, l))) (hne : i ≠ v) (hd : d.dep ≤ l) (hk : d.dep ≤ k) (hl : l < 1000) :
    ∃ q xs y As1, σ[i]? = some (some (.ref q)) ∧ H q = some (.lst xs) ∧ xs.length = ds.length ∧ σ[v]? = some (some y) ∧ Sat G0 H0 S0 σ ((ρ.set v none).set i (some (.lst (ds ++ [d]), k + 1))) G (upd H q (.lst (xs ++ [y]))) As1 := by
  obtain ⟨u, h1, q, xs, T, rfl, hq, kd⟩ := a.at i _ _ e1
  obtain ⟨y, g1, g2⟩ := a.at v d l e2
  have q1 : Own G H k (As v) d y := g2.at hd hk hl
  have al := a.lose v
  have hp := kd.top
  have nS : ¬ As v q := fun z => hne (a.dis i v q hp z)
  have ap : ∀ r b, T r b → As v b → False := fun r b t1 t2 => hne (a.dis i v b (kd.sub r b t1) t2)
  refine ⟨q, xs, y, _, h1, hq, kd.len, g1, al.store (i := i) (S := fun b => As i b ∨ As v b) (p := q) ⟨hne, hp⟩ h1 ⟨q, _, fun r b => (r < ds.length ∧ T r b) ∨ (r = ds.length ∧ As v b), rfl, upd_same, ⟨by simp [kd.len], fun r d' z x1 x2 => ?_, .inl hp, fun r z => ?_, fun r r' b z1 z2 => ?_, fun r b z => ?_⟩⟩ fun b z => ?_⟩
  · by_cases hr : r < ds.length
    · rw [List.getElem?_append_left hr] at x1
      rw [List.getElem?_append_left (by rw [kd.len]; exact hr)] at x2
      exact ((kd.own r d' z x1 x2).upd (kd.out r)).sub fun b z => .inl ⟨hr, z⟩
    · rw [List.getElem?_append_right (by omega)] at x1
      rw [List.getElem?_append_right (by rw [kd.len]; omega), kd.len] at x2
      have hq0 : r - ds.length = 0 := by
        have := (List.getElem?_eq_some_iff.mp x1).1
        simp at this; omega
      rw [hq0] at x1 x2
      simp at x1 x2
      subst x1; subst x2
      exact (q1.upd nS).sub fun b z => .inr ⟨by omega, z⟩
  · rcases z with ⟨_, z⟩ | ⟨_, z⟩
    · exact kd.out r z
    · exact nS z
  · rcases z1 with ⟨c1, t1⟩ | ⟨c1, t1⟩ <;> rcases z2 with ⟨c2, t2⟩ | ⟨c2, t2⟩
    · exact kd.dis r r' b t1 t2
    · exact (ap r b t1 t2).elim
    · exact (ap r' b t2 t1).elim
    · omega
  · rcases z with ⟨_, z⟩ | ⟨_, z⟩
    · exact .inl (kd.sub r b z)
    · exact .inr z
  · rcases z with z | z
    · exact .inl ⟨hne, z⟩
    · obtain ⟨n1, n2, n3⟩ := a.new v b z
      exact .inr ⟨n1, n2, n3, fun j hj => hj.1 (a.dis j v b hj.2 z)⟩
end
theorem dupd_gen {i : Nat} (A : DE mg E te e n) {e2 : EM} {G0 H0 S0 : Hp} {σ : St} {ρ : Ro} {ρv : Rh} {G H J : Hp} {As : Nat → Addr → Prop} {D : Ends} (a : Sat G0 H0 S0 σ ρ G H As) (x : Ext G0 H0 J H) (w : View J σ ρv) (he : e2 (full ρ) = e ρv)
    (p : PostS mg E G0 H0 S0 L (Mi.sDupd i e2 ρ) D) : tDrop (tMD updM (vM i) (tCons te tNil)) D σ H := by
  unfold Mi.sDupd at p
  split at p
  · rename_i kvs k e1
    obtain ⟨v, h1, q, rfl, hq, hs⟩ := a.at i _ _ e1
    rw [he] at p
    unfold tDrop tMD vM
    rw [h1]
    refine ⟨⟨_, hq⟩, ?_⟩
    refine (de_frz A).step (errS.from x) x.in' w p fun d y G1 H1 S ee fr o p1 => ?_
    split at p1
    · rename_i ds
      split at p1
      · rename_i ps ep
        split at p1
        · rename_i hz
          obtain ⟨b0, xs, rfl, hb0, rr⟩ := o
          obtain ⟨i1, i2⟩ := pairs_rep ep rr
          have a1 := a.grow fr.ext.h
          refine ⟨wk kvs, xs, wk ps, fr.ext.h _ _ hq, fr.ext.in' _ _ hb0, i1, fun j x p g1 g2 => ?_, by simpa using hz, ?_⟩
          · obtain ⟨t, e1, e2⟩ := i2 j x p g1 g2
            exact ⟨t, e1, fr.ext.in' _ _ e2⟩
          · rw [put_ws]
            exact p1 σ G _ _ (a1.store (o := .dK (wk (ps.foldl (fun m p => Mi.putW m p.1 p.2) kvs))) (n := k + 1) (d := .dct (ps.foldl (fun m p => Mi.putW m p.1 p.2) kvs)) (S := As i) hs h1 ⟨q, rfl, upd_same, hs⟩ fun b z => .inl z)
        · exact p1.elim
      · exact p1.elim
    · exact p1.elim
  · exact p.elim
theorem ds_appUpd (i v j : Nat) (A : DE mg E te e n) : DS mg E L (tSeq (tDrop (tML appM (vM i) (tCons (vM v) tNil))) (tDrop (tMD updM (vM j) (tCons te tNil)))) (Mi.sAppUpd i v j e) := by
  intro G0 H0 S0 σ ρ G H As D a p
  unfold Mi.sAppUpd at p
  split at p
  · rename_i ds k e1
    split at p
    · rename_i d l e2
      split at p
      · rename_i hz
        obtain ⟨hne, hz1, hd, hk, hl⟩ := hz
        obtain ⟨q, xs, y, As1, h1, hq, hxl, g1, a1⟩ := a.moved e1 e2 hne hd hk hl
        have hdrop : ∀ Q : VK, Q .non (upd H q (.lst (xs ++ [y]))) → tML appM (vM i) (tCons (vM v) tNil) σ H Q := fun Q hQ => by
          unfold tML vM tCons tNil
          rw [h1]
          refine ⟨xs, hq, ?_⟩
          dsimp only
          rw [g1]
          exact ⟨xs, hq, by rw [hxl]; exact L2.big (by omega), hQ⟩
        show tML appM (vM i) (tCons (vM v) tNil) σ H _
        refine hdrop _ ?_
        obtain ⟨J, x, s, w⟩ := a1.full
        have hvl : v < ρ.length := (List.getElem?_eq_some_iff.mp e2).1
        have hil : i < ρ.length := (List.getElem?_eq_some_iff.mp e1).1
        have hfi : (full ((ρ.set v none).set i (some (.lst (ds ++ [d]), k + 1))))[i]? = some (some (.lst (ds ++ [d]))) := by
          unfold Mi.full
          rw [List.getElem?_map, List.getElem?_set_self (by simpa using hil)]
          rfl
        obtain ⟨u, hu1, q', xs', hu2, hJ, rr⟩ := w.at i _ hfi
        rw [h1] at hu1
        cases hu1
        cases hu2
        have hJ2 := x.in' _ _ hJ
        rw [upd_same] at hJ2
        cases hJ2
        have hrep : Rep J d y := repL_at rr (q := ds.length) (by simp) (by rw [← hxl]; simp)
        have w2 : View J σ ((full ((ρ.set v none).set i (some (.lst (ds ++ [d]), k + 1)))).set v (some d)) := by
          refine ⟨by rw [List.length_set]; exact w.len, fun r d' hr => ?_⟩
          by_cases z : v = r
          · subst z
            rw [List.getElem?_set_self (by unfold Mi.full; simpa using hvl)] at hr
            cases hr
            exact ⟨y, g1, hrep⟩
          · rw [List.getElem?_set_ne z] at hr
            exact w.at r d' hr
        exact dupd_gen A a1 x w2 rfl p
      · exact p.elim
    · exact p.elim
  · exact p.elim
theorem ds_pop0 (i : Nat) : DS mg E L (tDrop (tML popM (vM i) tNil)) (Mi.sPop0 i) := by
  intro G0 H0 S0 σ ρ G H As D a p
  unfold Mi.sPop0 at p
  split at p
  · rename_i ds k e1
    split at p
    · exact p.elim
    · rename_i hz
      obtain ⟨v, h1, q, xs, T, rfl, hq, kd⟩ := a.at i _ _ e1
      have hdl : 0 < ds.length := List.length_pos_iff.mpr hz
      have hc : ds.length - 1 < xs.length := by rw [kd.len]; omega
      have hx : xs[xs.length - 1]? = some xs[ds.length - 1] := by rw [kd.len]; exact List.getElem?_eq_getElem hc
      have hdr : xs.dropLast = xs.eraseIdx (ds.length - 1) := by
        rw [← kd.len, List.eraseIdx_eq_take_drop_succ, List.drop_of_length_le (by omega), List.append_nil, List.dropLast_eq_take]
      unfold tDrop tML vM tNil
      rw [h1]
      refine ⟨xs, hq, xs, _, hq, hx, ?_⟩
      rw [hdr]
      exact p _ G _ _ (a.store (o := .lst (xs.eraseIdx (ds.length - 1))) (n := k + 1) (d := .lst (ds.eraseIdx (ds.length - 1))) (S := fun b => As i b ∧ ¬ T (ds.length - 1) b) kd.top h1 ⟨q, _, _, rfl, upd_same, own_up (kd.pop (ds.length - 1)) fun r => by split <;> exact kd.out _⟩ fun b z => .inl z.1)
  · exact p.elim
section
variable {G0 H0 S0 : Hp} {σ : St} {ρ : Ro} {G H : Hp} {As : Nat → Addr → Prop}
theorem Sat.loseSet (a : Sat G0 H0 S0 σ ρ G H As) (v : Nat) (u : Option V) : Sat G0 H0 S0 (σ.set v u) (ρ.set v none) G H (fun j b => j ≠ v ∧ As j b) := by
  have b := a.lose v
  refine ⟨b.ext, b.stb, by simp [a.len], fun j d m h => ?_, b.dis, b.new⟩
  have hne : v ≠ j := fun z => by
    subst z
    have hj : v < ρ.length := by
      have := (List.getElem?_eq_some_iff.mp h).1
      simpa using this
    rw [List.getElem?_set_self hj] at h
    cases h
  obtain ⟨w, h1, h2⟩ := b.at j d m h
  exact ⟨w, by rw [List.getElem?_set_ne hne]; exact h1, h2⟩
end
def both (J G : Hp) : Hp := fun b => match J b with
  | some o => some o
  | none => G b
theorem both_l {J G : Hp} : Same J (both J G) := fun b o e => by unfold both; rw [e]
theorem both_r {J G H : Hp} (h1 : Same J H) (h2 : Same G H) : Same G (both J G) := fun b o e => by
  unfold both
  cases ej : J b with
  | none => exact e
  | some o' =>
    have := (h1 _ _ ej).symm.trans (h2 _ _ e)
    exact this
theorem both_in {J G H : Hp} (h1 : Same J H) (h2 : Same G H) : Same (both J G) H := fun b o e => by
  unfold both at e
  cases ej : J b with
  | none => rw [ej] at e; exact h2 _ _ e
  | some o' => rw [ej] at e; cases e; exact h1 _ _ ej
theorem ds_forAcc (i x y : Nat) {tc : TT} {c : TM} {tr ta : TE} {er ea : EM} {k1 : Nat} (C : DT mg E tc c) (A : DE mg E tr er k1) (B : DE mg E ta ea 1) :
    DS mg E L (fun D σ H => iAny Kc.K (vM i) σ H (tForK (gName x) (tSeq (tIfS tc (tRet tr) tNext) (tAsg ta (gName y))) D σ)) (Mi.sForAcc i x y c er ea) := by
  intro G0 H0 S0 σ ρ G H As D a p
  unfold Mi.sForAcc at p
  split at p
  · rename_i ds n0 e1
    obtain ⟨J0, x0, s0, w0⟩ := a.full
    have hfi : (full ρ)[i]? = some (some (.lst ds)) := by
      unfold Mi.full
      rw [List.getElem?_map, e1]
      rfl
    have hsq : Mi.iSq (Mi.eV i) (full ρ) = okR ds := by
      have : Mi.eV i (full ρ) = okR (.lst ds) := by unfold Mi.eV; rw [hfi]
      show bindR (Mi.eV i (full ρ)) _ = _
      rw [this]
      rfl
    refine di_all (mg := mg) (E := E) (k := 0) (de_v i) J0 H σ (full ρ) _ x0.in' w0 ?_
    rw [hsq]
    intro J G1 H1 x1 io
    refine ⟨fun q m σ' H' => m = ds.length - q ∧ q ≤ ds.length ∧ ∃ ρ' As', Sat G0 H0 S0 σ' ρ' G H' As' ∧ Same H1 H' ∧ PostS mg E G0 H0 S0 L (Mi.accGo x y c er ea (ds.drop q) ρ') D,
      ⟨_, rfl, Nat.zero_le _, ρ, As, a.grow x1.h, Same.refl _, by rw [List.drop_zero]; exact p⟩, ?_⟩
    rintro q m σ' H' ⟨rfl, hq, ρ', As', a', sH, p'⟩
    obtain ⟨j1, j2, j3⟩ := io q G1 H' (Same.refl _) (x1.in'.trans sH)
    by_cases hlt : q < ds.length
    · refine .inr ⟨j1 hlt, fun σ2 H2 => q + 1 ≤ ds.length ∧ ∃ ρ2 As2, Sat G0 H0 S0 σ2 ρ2 G H2 As2 ∧ Same H1 H2 ∧ PostS mg E G0 H0 S0 L (Mi.accGo x y c er ea (ds.drop (q + 1)) ρ2) D, fun σ2 H2 z => ⟨ds.length - (q + 1), by omega, rfl, z⟩, fun v H2 hy => ?_⟩
      have hd : ds[q]? = some ds[q] := List.getElem?_eq_getElem hlt
      obtain ⟨G2, x2, r2⟩ := j3 v H2 ds[q] hd hy
      rw [List.drop_eq_getElem_cons hlt, Mi.accGo] at p'
      have a2 := a'.grow x2.h
      obtain ⟨J3, x3, s3, w3⟩ := a2.full
      have sb := both_in x3.in' x2.in'
      have x4 : Ext G0 H0 (both J3 G2) H2 := ⟨x3.g.trans both_l, x3.h, sb, fun b hb => by
        have h3 := x3.old b hb
        unfold both
        cases ej : J3 b with
        | some o => rw [← h3, ej]
        | none =>
          show G2 b = G0 b
          have hH : H b ≠ none := x0.h.some hb
          have hH' : H' b ≠ none := sH.some (x1.h.some hH)
          rw [x2.old b hH', x1.old b hH, x0.old b hb]⟩
      have w4 : View (both J3 G2) (σ'.set x (some v)) ((full ρ').set x (some ds[q])) := by
        refine ⟨by rw [List.length_set, List.length_set]; exact w3.len, fun r d' hr => ?_⟩
        by_cases z : x = r
        · subst z
          have hxl : x < (full ρ').length := by
            have := (List.getElem?_eq_some_iff.mp hr).1
            simpa using this
          rw [List.getElem?_set_self hxl] at hr
          cases hr
          exact ⟨v, List.getElem?_set_self (by rw [← w3.len]; exact hxl), Rep.mono (both_r x3.in' x2.in') r2⟩
        · rw [List.getElem?_set_ne z] at hr
          obtain ⟨u, g1, g2⟩ := w3.at r d' hr
          exact ⟨u, by rw [List.getElem?_set_ne z]; exact g1, Rep.mono both_l g2⟩
      show tc (σ'.set x (some v)) H2 _
      refine C.step (errS.from x4) x4.in' w4 p' fun b H3 _ s5 p1 => ?_
      have x5 : Ext G0 H0 (both J3 G2) H3 := x4.trans (Ext.same x4.in' s5)
      cases b with
      | true =>
        show tr (σ'.set x (some v)) H3 D.rt
        refine A.step (errS.from x5) x5.in' w4 p1 fun r u G5 H5 S _ fr o p2 => ?_
        split at p2
        · rename_i hr
          exact p2 u G5 H5 (fun _ => False) ⟨x5.trans fr.ext, fun _ z => z.elim⟩ (o.scalar hr)
        · exact p2.elim
      | false =>
        show ta (σ'.set x (some v)) H3 fun vy H4 => _
        refine B.step (errS.from x5) x5.in' w4 p1 fun r u G5 H5 S _ fr o p2 => ?_
        split at p2
        · rename_i hr
          have a3 := ((a2.grow s5).grow fr.ext.h).loseSet x (some v)
          refine ⟨hlt, _, _, a3.put (i := y) (n := 1) (S := S) (o.at hr hr (by omega)) (fun b hb => ?_) (fun j b hj h1 h2 => ?_), sH.trans (x2.h.trans (s5.trans fr.ext.h)), p2⟩
          · obtain ⟨n1, n2, n3⟩ := fr.new b hb
            exact ⟨x5.h.free n1, (a2.ext.in'.trans s5).free n1, n3⟩
          · exact (s5.some (a2.new j b h1.2).2.2) (fr.new b h2).1
        · exact p2.elim
    · have e : q = ds.length := by omega
      subst e
      rw [List.drop_length, Mi.accGo] at p'
      exact .inl ⟨j2 (Nat.le_refl _), p' σ' G H' As' a'⟩
  · exact p.elim
end
end L3

namespace Mp
noncomputable section
open Mi PySem
def b__law_whole : SM := (sRet 0 0 [0] (eAnd (eIsi "int" (eV 0)) (eNot (eIsi "bool" (eV 0)))))
def m__law_whole : FM := runF 1 1 b__law_whole
def b__law_joined : SM := (sSeq (sSet 2 0 [0, 1] (eB ixD (eLst (aCons (eTup (aCons (eC (.int 1)) (aCons (eC (.int 0)) (aCons (eC (.int 3)) (aCons (eC (.int 2)) aNil))))) (aCons (eTup (aCons (eC (.int 2)) (aCons (eC (.int 3)) (aCons (eC (.int 0)) (aCons (eC (.int 1)) aNil))))) (aCons (eTup (aCons (eC (.int 3)) (aCons (eC (.int 2)) (aCons (eC (.int 1)) (aCons (eC (.int 0)) aNil))))) aNil)))) (eB ixD (eV 0) (eB divD (eV 1) (eC (.int 4))))))
  (sRet 1 1 [1, 2] (eB addD (eB subD (eV 1) (eB modD (eV 1) (eC (.int 4)))) (eB ixD (eV 2) (eB modD (eV 1) (eC (.int 4)))))))
def m__law_joined : FM := runF 2 3 b__law_joined
def b__law_round : SM := (sSeq (sSet 3 9 [] (eLst aNil))
  (sSeq (sSet 4 0 [2] (eV 2))
  (sSeq (sWhile (Mi.tOr (tB (eB eqD (eV 3) (eLst aNil))) (tB (eB neD (eV 4) (eV 2)))) (sSeq (sApp 3 0 (eV 4))
  (sSeq (sApp 3 1 (eCall m__law_joined (aCons (eV 1) (aCons (eV 4) aNil))))
  (sSet 4 0 [0, 3] (eB ixD (eV 0) (eB ixD (eV 3) (eU negD (eC (.int 1)))))))))
  (sRetV 9 3))))
def m__law_round : FM := runF 3 5 b__law_round
def b__law_rounds : SM := (sSeq (sSet 2 1 [] eDct0)
  (sSeq (sSet 3 9 [] (eLst aNil))
  (sSeq (sForR (iR1 (aCons (eBi lenD (aCons (eV 0) aNil)) aNil)) 4 (sIf (tB (eB (dinD true) (eV 4) (eV 2))) (sSeq (sSet 5 9 [0, 1, 4] (eCall m__law_round (aCons (eV 0) (aCons (eV 1) (aCons (eV 4) aNil)))))
  (sSeq (sFor [5] (iSq (eV 5)) (.one 6) (sDput 2 (eV 6) (eC (.bl true))))
  (sAppF 3 [5] (eV 5)))) sNil))
  (sRetV 1 3))))
def m__law_rounds : FM := runF 2 7 b__law_rounds
def b_joined : SM := (sRet 0 0 [1, 0] (eB xorD (eV 1) (eB addD (eV 0) (eC (.int 1)))))
def m_joined : FM := runF 2 2 b_joined
def b_joined_end : SM := (sSeq (sSet 2 0 [1] (eB divD (eV 1) (eC (.int 4))))
  (sRet 1 1 [2, 0, 1] (eB addD (eB mulD (eV 2) (eC (.int 4))) (eCall m_joined (aCons (eB ixD (eV 0) (eV 2)) (aCons (eB modD (eV 1) (eC (.int 4))) aNil))))))
def m_joined_end : FM := runF 2 3 b_joined_end
def b_round_of : SM := (sSeq (sSet 3 1 [2, 1] (eLst (aCons (eV 2) (aCons (eCall m_joined_end (aCons (eV 1) (aCons (eV 2) aNil))) aNil))))
  (sSeq (sWhile (tB (eB neD (eB ixD (eV 0) (eB ixD (eV 3) (eU negD (eC (.int 1))))) (eV 2))) (sSeq (sSet 4 0 [0, 3] (eB ixD (eV 0) (eB ixD (eV 3) (eU negD (eC (.int 1))))))
  (sExt 3 0 (eLst (aCons (eV 4) (aCons (eCall m_joined_end (aCons (eV 1) (aCons (eV 4) aNil))) aNil))))))
  (sRetV 1 3)))
def m_round_of : FM := runF 3 5 b_round_of
def b_rounds_of : SM := (sSeq (sSet 2 9 [] (eLst aNil))
  (sSeq (sSet 3 1 [] eDct0)
  (sSeq (sForR (iR1 (aCons (eBi lenD (aCons (eV 0) aNil)) aNil)) 4 (sIf (tB (eB (dinD true) (eV 4) (eV 3))) (sSeq (sSet 5 1 [0, 1, 4] (eCall m_round_of (aCons (eV 0) (aCons (eV 1) (aCons (eV 4) aNil)))))
  (sSeq (sAppF 2 [5] (eV 5))
  (sDupd 3 (eComp (iSq (eV 5)) 1 (.one 6) Mi.tYes (eTup (aCons (eV 6) (aCons (eC (.bl true)) aNil))))))) sNil))
  (sRetV 1 2))))
def m_rounds_of : FM := runF 2 6 b_rounds_of
def b__law_built_v3 : SM := (sSeq (sSet 2 1 [0] (eB repD (eLst (aCons (eC (.int 0)) aNil)) (eB mulD (eC (.int 2)) (eBi lenD (aCons (eV 0) aNil)))))
  (sSeq (sSet 3 9 [] (eLst aNil))
  (sSeq (sSet 4 1 [] eDct0)
  (sSeq (sFor [0] (iSq (eV 0)) (.one 5) (sSeq (sApp 3 1 (eTup (aCons (eV 5) (aCons (eDGet (eV 4) (eV 5) (eC (.int 0))) aNil))))
  (sDput 4 (eV 5) (eC (.int 2)))))
  (sSeq (sForR (iR1 (aCons (eBi lenD (aCons (eV 0) aNil)) aNil)) 6 (sSeq (sUnp [5, 7] [3, 6] (eB ixD (eV 3) (eB subD (eV 6) (eC (.int 1)))))
  (sSeq (sUnp [8, 9] [3, 6] (eB ixD (eV 3) (eV 6)))
  (sSeq (sSet 10 1 [5, 1, 7] (eB addD (eB mulD (eC (.int 4)) (eV 5)) (eB ixD (eB ixD (eV 1) (eV 5)) (eB addD (eV 7) (eC (.int 1))))))
  (sSeq (sSet 11 1 [8, 9, 1] (eB addD (eB mulD (eC (.int 4)) (eV 8)) (eB ixD (eB ixD (eV 1) (eV 8)) (eV 9))))
  (sSeq (sItem 2 0 (eV 10) (eV 11))
  (sItem 2 0 (eV 11) (eV 10))))))))
  (sRetV 1 2))))))
def m__law_built_v3 : FM := runF 2 12 b__law_built_v3
def b__law_cell_v4 : SM := (sSeq (sSet 2 0 [] (eC (.int 0)))
  (sSeq (sIf (tB (eB (cmpD fun i j => decide (i < j)) (eV 1) (eBi lenD (aCons (eV 0) aNil)))) (sSet 2 0 [0, 1] (eB ixD (eV 0) (eV 1))) sNil)
  (sSeq (sIf (tAn (tB (eB (cmpD fun i j => decide (j < i)) (eBi lenD (aCons (eV 0) aNil)) (eC (.int 0)))) (tB (eB eqD (eB modD (eB ixD (eV 0) (eC (.int 0))) (eC (.int 2))) (eC (.int 1))))) (sRet 1 1 [2, 1] (eB divD (eB modD (eV 2) (eB powD (eC (.int 10)) (eC (.int 60)))) (eB ixD (eLst (aCons (eC (.int 1)) (aCons (eC (.int 2)) aNil))) (eBi intD (aCons (eB eqD (eV 1) (eC (.int 0))) aNil))))) sNil)
  (sSeq (sSet 3 0 [2, 1] (eB modD (eB mulD (eB addD (eB modD (eV 2) (eC (.int 1000000000039))) (eB mulD (eC (.int 7919)) (eB addD (eV 1) (eC (.int 1))))) (eC (.int 48271))) (eC (.int 2147483647))))
  (sSeq (sSet 4 0 [3] (eB modD (eB mulD (eB modD (eB mulD (eV 3) (eC (.int 69621))) (eC (.int 2147483629))) (eC (.int 16807))) (eC (.int 2147483647))))
  (sRet 1 1 [4, 3] (eB addD (eB mulD (eB addD (eB mulD (eV 3) (eC (.int 2147483647))) (eV 4)) (eC (.int 2147483629))) (eB modD (eB mulD (eV 4) (eC (.int 40692))) (eC (.int 2147483399))))))))))
def m__law_cell_v4 : FM := runF 2 5 b__law_cell_v4
def b__law_row_v3 : SM := (sSeq (sSet 3 1 [2] (eComp (iR1 (aCons (eB mulD (eC (.int 2)) (eV 2)) aNil)) 1 (.one 7) Mi.tYes (eB divD (eV 7) (eC (.int 2)))))
  (sSeq (sSet 4 1 [0, 1] (eCall m__law_cell_v4 (aCons (eV 0) (aCons (eV 1) aNil))))
  (sSeq (sSet 5 9 [] (eLst aNil))
  (sSeq (sWhile (tB (eB neD (eV 3) (eLst aNil))) (sSeq (sSet 6 0 [4, 3] (eB divD (eV 4) (eBi lenD (aCons (eV 3) aNil))))
  (sSeq (sAppPop 5 3 (eB modD (eV 4) (eBi lenD (aCons (eV 3) aNil))))
  (sSet 4 0 [6] (eV 6)))))
  (sRetV 9 5)))))
def m__law_row_v3 : FM := runF 3 7 b__law_row_v3
def b__law_seats_v2 : SM := (sSeq (sSet 2 9 [] (eLst aNil))
  (sSeq (sForR (iR1 (aCons (eV 1) aNil)) 3 (sSeq (sSet 4 1 [] (eLst (aCons (eC (.int 0)) (aCons (eC (.int 1)) (aCons (eC (.int 2)) (aCons (eC (.int 3)) aNil))))))
  (sSeq (sSet 5 9 [] (eLst aNil))
  (sSeq (sFor [] (iSq (eTup (aCons (eC (.int 4)) (aCons (eC (.int 3)) (aCons (eC (.int 2)) (aCons (eC (.int 1)) aNil)))))) (.one 6) (sSeq (sAppPop 5 4 (eB modD (eV 0) (eV 6)))
  (sSet 0 0 [0, 6] (eB divD (eV 0) (eV 6)))))
  (sAppF 2 [5] (eV 5))))))
  (sRetV 1 2)))
def m__law_seats_v2 : FM := runF 2 7 b__law_seats_v2
def b__law_any_net_v2 : SM := (sSeq (sSet 3 1 [2] (eBi rangeD (aCons (eB mulD (eC (.int 4)) (eV 2)) aNil)))
  (sSeq (sSet 4 1 [2] (eB repD (eLst (aCons (eC (.int 0)) aNil)) (eB mulD (eC (.int 4)) (eV 2))))
  (sSeq (sSet 5 1 [0, 1] (eCall m__law_cell_v4 (aCons (eV 0) (aCons (eV 1) aNil))))
  (sSeq (sWhile (tB (eB neD (eV 3) (eLst aNil))) (sSeq (sPop 6 3 (eC (.int 0)))
  (sSeq (sSet 7 0 [5, 3] (eB divD (eV 5) (eBi lenD (aCons (eV 3) aNil))))
  (sSeq (sPop 8 3 (eB modD (eV 5) (eBi lenD (aCons (eV 3) aNil))))
  (sSeq (sItem 4 0 (eV 6) (eV 8))
  (sSeq (sItem 4 0 (eV 8) (eV 6))
  (sSet 5 0 [7] (eV 7))))))))
  (sRetV 1 4)))))
def m__law_any_net_v2 : FM := runF 3 9 b__law_any_net_v2
def b__law_alike : SM := (sSeq (sIf (Mi.tOr (tNo (tM (eIsi "list" (eV 0)))) (tB (eB neD (eV 0) (eV 1)))) (sRet 0 0 [] (eC (.bl false))) sNil)
  (sSeq (sFor [0] (iSq (eV 0)) (.one 2) (sSeq (sIf (tNo (tM (eIsi "list" (eV 2)))) (sRet 0 0 [] (eC (.bl false))) sNil)
  (sIf (tNo (tM (eBi allD (aCons (eComp (iSq (eV 2)) 1 (.one 3) Mi.tYes (eAnd (eIsi "int" (eV 3)) (eNot (eIsi "bool" (eV 3))))) aNil)))) (sRet 0 0 [] (eC (.bl false))) sNil)))
  (sRet 0 0 [] (eC (.bl true)))))
def m__law_alike : FM := runF 2 3 b__law_alike
def b_rounds_of_v2 : SM := (sSeq (sSet 2 9 [] (eLst aNil))
  (sSeq (sSet 3 1 [] eDct0)
  (sSeq (sForR (iR1 (aCons (eBi lenD (aCons (eV 0) aNil)) aNil)) 4 (sIf (tB (eB (dinD true) (eV 4) (eV 3))) (sSeq (sSet 5 1 [0, 1, 4] (eCall m_round_of (aCons (eV 0) (aCons (eV 1) (aCons (eV 4) aNil)))))
  (sAppUpd 2 5 3 (eComp (iSq (eV 5)) 1 (.one 6) Mi.tYes (eTup (aCons (eV 6) (aCons (eC (.bl true)) aNil)))))) sNil))
  (sRetV 2 2))))
def m_rounds_of_v2 : FM := runF 2 6 b_rounds_of_v2
def b_many_rounds_v2 : SM := (sRet 0 0 [0, 1] (eBi lenD (aCons (eCall m_rounds_of_v2 (aCons (eV 0) (aCons (eV 1) aNil))) aNil)))
def m_many_rounds_v2 : FM := runF 2 2 b_many_rounds_v2
def b_law_Q14 : SM := (sSeq (sSet 1 1 [0] (eB addD (eC (.int 1)) (eB modD (eCall m__law_cell_v4 (aCons (eV 0) (aCons (eC (.int 0)) aNil))) (eC (.int 8)))))
  (sSeq (sSet 2 1 [0, 1] (eCall m__law_any_net_v2 (aCons (eV 0) (aCons (eC (.int 2)) (aCons (eV 1) aNil)))))
  (sSeq (sIf (tB (eB eqD (eB modD (eB divD (eCall m__law_cell_v4 (aCons (eV 0) (aCons (eC (.int 0)) aNil))) (eC (.int 8))) (eC (.int 2))) (eC (.int 1)))) (sSet 2 1 [0, 1] (eCall m__law_built_v3 (aCons (eCall m__law_row_v3 (aCons (eV 0) (aCons (eC (.int 2)) (aCons (eV 1) aNil)))) (aCons (eCall m__law_seats_v2 (aCons (eCall m__law_cell_v4 (aCons (eV 0) (aCons (eC (.int 1)) aNil))) (aCons (eV 1) aNil))) aNil)))) sNil)
  (sSeq (sSet 3 1 [0, 1] (eComp (iR1 (aCons (eV 1) aNil)) 1 (.one 10) Mi.tYes (eB modD (eCall m__law_cell_v4 (aCons (eV 0) (aCons (eB addD (eC (.int 20)) (eV 10)) aNil))) (eC (.int 3)))))
  (sSeq (sSet 4 1 [2, 3] (eCall m__law_rounds (aCons (eV 2) (aCons (eV 3) aNil))))
  (sSeq (sSet 5 2 [2, 3] (eLst (aCons (eBi listD (aCons (eV 2) aNil)) (aCons (eBi listD (aCons (eV 3) aNil)) aNil))))
  (sSeq (sSet 6 2 [5] (eCall m_rounds_of_v2 (aCons (eB ixD (eV 5) (eC (.int 0))) (aCons (eB ixD (eV 5) (eC (.int 1))) aNil))))
  (sSeq (sIf (Mi.tOr (tNo (tM (eCall m__law_alike (aCons (eV 6) (aCons (eV 4) aNil))))) (tB (eB neD (eV 5) (eLst (aCons (eV 2) (aCons (eV 3) aNil)))))) (sRet 0 0 [] (eC (.bl false))) sNil)
  (sSeq (sSet 7 9 [] (eLst aNil))
  (sSeq (sForAcc 6 8 7 (Mi.tOr (tB (eB neD (eB ixD (eV 8) (eC (.int 0))) (eBi minL (aCons (eV 8) aNil)))) (tB (eB neD (eCall m_round_of (aCons (eBi listD (aCons (eV 2) aNil)) (aCons (eBi listD (aCons (eV 3) aNil)) (aCons (eB ixD (eV 8) (eC (.int 0))) aNil)))) (eV 8)))) (eC (.bl false)) (eB addD (eV 7) (eV 8)))
  (sSeq (sIf (tB (eB neD (eBi sortD (aCons (eV 7) aNil)) (eBi rangeD (aCons (eB mulD (eC (.int 4)) (eV 1)) aNil)))) (sRet 0 0 [] (eC (.bl false))) sNil)
  (sSeq (sSet 9 0 [5] (eCall m_many_rounds_v2 (aCons (eB ixD (eV 5) (eC (.int 0))) (aCons (eB ixD (eV 5) (eC (.int 1))) aNil))))
  (sSeq (sIf (Mi.tOr (tNo (tM (eCall m__law_whole (aCons (eV 9) aNil)))) (tB (eB neD (eV 9) (eBi lenD (aCons (eV 4) aNil))))) (sRet 0 0 [] (eC (.bl false))) sNil)
  (sSeq (sApp2 6 0 (eC (.int 0)) (eC (.int 0)))
  (sSeq (sPop0 6)
  (sRet 0 0 [4, 5, 2, 3] (eAnd (eCall m__law_alike (aCons (eCall m_rounds_of_v2 (aCons (eB ixD (eV 5) (eC (.int 0))) (aCons (eB ixD (eV 5) (eC (.int 1))) aNil))) (aCons (eV 4) aNil))) (eB eqD (eV 5) (eLst (aCons (eV 2) (aCons (eV 3) aNil)))))))))))))))))))))
def m_law_Q14 : FM := runF 1 10 b_law_Q14
end
end Mp

namespace Mi
open PySem
section
variable (ρ : Rh) (r : Ro) (a : EM) (am : AM)
@[simp] theorem x_tL : tL a ρ = bindR (a ρ) fun x => match x with | .bl k => okR k | .int i => okR (i != 0) | .non => okR false | .lst xs => okR (!xs.isEmpty) | .tup xs => okR (!xs.isEmpty) | _ => none := rfl
@[simp] theorem x_eMl (f : List Dt → List Dt → Option Dt) : eMl f a am ρ = bindR (a ρ) fun x => match x with | .lst xs => bindR (am ρ) fun ds => optR (f xs ds) | _ => none := rfl
@[simp] theorem x_iRv : iRv am ρ = bindR (am ρ) fun vs => match vs with | [.lst xs] => okR xs.reverse | _ => none := rfl
@[simp] theorem v_xor (i j : Int) : xorD (.int i) (.int j) = some (.int (Builtin.bitXor i j)) := rfl
@[simp] theorem v_rep (xs : List Dt) (k : Int) : repD (.lst xs) (.int k) = @ite _ ((-4611686018427387904 ≤ k ∧ k < 4611686018427387904) ∧ xs.length * k.toNat ≤ 100000) (Classical.propDecidable _) (some (.lst (List.replicate k.toNat xs).flatten)) none := rfl
end
end Mi

namespace Mi
open PySem
@[simp] theorem okR_inj {α : Type} {a b : α} : okR a = okR b ↔ a = b := ⟨fun h => by cases h; rfl, fun h => by rw [h]⟩
@[simp] theorem x_sFor (vs : List Nat) (it : IM) (tg : Tg) (b : SM) (r : Ro) : sFor vs it tg b r = bindR (it (frz (frzAt vs r))) fun ds => forGo tg b ds (frzAt vs r) := rfl
@[simp] theorem x_sForR (it : IM) (i : Nat) (b : SM) (r : Ro) : sForR it i b r = bindR (it (full r)) fun ds => forGo (.one i) b ds r := rfl
@[simp] theorem x_iSq (e : EM) (ρ : Rh) : iSq e ρ = bindR (e ρ) fun d => match d with | .lst xs => okR xs | .tup xs => okR xs | .scr ns => okR (ns.map .int) | .str z => okR (signsD z) | _ => none := rfl
@[simp] theorem x_iEn (e : AM) (ρ : Rh) : iEn e ρ = bindR (e ρ) fun vs => match vs with | [.lst xs] => okR (enumD 0 xs) | _ => none := rfl
@[simp] theorem x_iZi (e : AM) (ρ : Rh) : iZi e ρ = bindR (e ρ) fun vs => match vs with | [.lst xs, .lst ys] => okR (zipD xs ys) | _ => none := rfl
theorem x_iR1 {e : AM} {ρ : Rh} {n : Nat} (h : e ρ = okR [.int n]) (hn : n ≤ 100000) : iR1 e ρ = okR (nums 0 n) := by
  unfold iR1
  rw [h, bindR_ok]
  dsimp only
  rw [if_pos (by omega)]
  simp
theorem nums_ints (n : Nat) : nums 0 n = ((List.range n).map fun i : Nat => (i : Int)).map Dt.int := by
  unfold nums
  rw [List.map_map]
  exact List.map_congr_left fun i _ => by simp
theorem nums_nat (n : Nat) : nums 0 n = (List.range n).map fun i : Nat => Dt.int (i : Int) := by
  unfold nums
  exact List.map_congr_left fun i _ => by simp
def nxR (x : R Out) (P : Ro → Prop) : Prop := match x with
  | some (.ok (.nx r)) => P r
  | _ => False
@[simp] theorem x_nxR (r : Ro) (P : Ro → Prop) : nxR (okR (.nx r)) P = P r := rfl
theorem nxR_iff {x : R Out} {P : Ro → Prop} (h : nxR x P) : ∃ r', x = okR (.nx r') ∧ P r' := by
  unfold nxR at h
  split at h
  · exact ⟨_, rfl, h⟩
  · exact h.elim
theorem nxR_of {x : R Out} {P : Ro → Prop} {r : Ro} (h : x = okR (.nx r)) (hp : P r) : nxR x P := by rw [h]; exact hp
theorem x_app {i n : Nat} {e : EM} {r : Ro} {ds : List Dt} {k : Nat} {d : Dt} (h : r[i]? = some (some (.lst ds, k + 1))) (he : e (full r) = okR d) (h1 : ds.length ≤ 100000) (h2 : d.dep ≤ n) (h3 : d.dep ≤ k) : sApp i n e r = okR (.nx (r.set i (some (.lst (ds ++ [d]), k + 1)))) := by
  unfold sApp
  rw [h]
  dsimp only
  rw [he, bindR_ok, if_pos ⟨h1, h2, h3⟩]
theorem mul_l {i j : Int} (h : -18446744073709551616 < i) (h' : i < 18446744073709551616) : mulD (.int i) (.int j) = some (.int (i * j)) := by
  rw [v_mul, if_pos (.inl (.inl ⟨h, h'⟩))]
theorem mul_r {i j : Int} (h : -18446744073709551616 < j) (h' : j < 18446744073709551616) : mulD (.int i) (.int j) = some (.int (i * j)) := by
  rw [v_mul, if_pos (.inl (.inr ⟨h, h'⟩))]
theorem comp_range {ρ : Rh} {c : TM} {e : EM} {i : Nat} (g : Nat → Dt) (n : Nat) (hc : c = tYes) (hi : i = ρ.length) (h : ∀ k, k < n → e (ρ ++ [some (.int (k : Nat))]) = okR (g k)) (it : IM) (hit : it ρ = okR (nums 0 n)) (hn : n ≤ 100000) : eComp it 1 (.one i) c e ρ = okR (.lst ((List.range n).map g)) := by
  subst hc hi
  unfold eComp
  rw [hit, bindR_ok, if_pos ⟨by simpa [nums] using hn, by simp [Tg.idx]⟩]
  rw [comp_map (fun d => match d with | .int k => g k.toNat | _ => .non) _ [] fun d hd => ?_]
  · rw [bindR_ok, nums_nat, List.map_map]
    simp only [List.nil_append]
    congr 2
  · rw [nums_nat] at hd
    obtain ⟨k, hk, rfl⟩ := List.mem_map.mp hd
    refine ⟨_, rfl, rfl, ?_⟩
    have : setsH (ρ ++ List.replicate 1 none) [(ρ.length, Dt.int (k : Int))] = ρ ++ [some (.int (k : Nat))] := by
      simp [setsH]
    rw [this]
    simpa using h k (by simpa using hk)
theorem comp_items {ρ : Rh} {c : TM} {e : EM} {i : Nat} {β : Type} (en : β → Dt) (g : β → Dt) (ns : List β) (hc : c = tYes) (hi : i = ρ.length) (h : ∀ k, k ∈ ns → e (ρ ++ [some (en k)]) = okR (g k)) (it : IM) (hit : it ρ = okR (ns.map en)) (hn : ns.length ≤ 100000) : eComp it 1 (.one i) c e ρ = okR (.lst (ns.map g)) := by
  subst hc hi
  unfold eComp
  rw [hit, bindR_ok, if_pos ⟨by simpa using hn, by simp [Tg.idx]⟩]
  have : ∀ (ns : List β) (acc : List Dt), (∀ k, k ∈ ns → e (ρ ++ [some (en k)]) = okR (g k)) → compGo ρ 1 (.one ρ.length) tYes e (ns.map en) acc = okR (acc ++ ns.map g) := by
    intro ns
    induction ns with
    | nil => intro acc _; simp [compGo]
    | cons d r ih =>
      intro acc h
      rw [List.map_cons, compGo]
      have e1 : setsH (ρ ++ List.replicate 1 none) [(ρ.length, en d)] = ρ ++ [some (en d)] := by simp [setsH]
      show bindR (tYes _) _ = _
      simp only [x_tYes, bindR_ok, if_true]
      show bindR (e (setsH (ρ ++ List.replicate 1 none) [(ρ.length, en d)])) _ = _
      rw [e1, h d (by simp), bindR_ok, ih _ fun k hk => h k (by simp [hk])]
      simp
  rw [this ns [] h, bindR_ok]
  simp
end Mi
namespace Mi
open PySem
theorem seq_go {a b : SM} {r : Ro} {X : R Out} (h : ∀ bb : SM, bb = b → nxR (a r) fun r1 => bb r1 = X) : sSeq a b r = X := by
  obtain ⟨r1, h1, h2⟩ := nxR_iff (h b rfl)
  unfold sSeq
  rw [h1, bindR_ok]
  exact h2
theorem seq_nx {a b : SM} {r : Ro} {P : Ro → Prop} (h : ∀ bb : SM, bb = b → nxR (a r) fun r1 => nxR (bb r1) P) : nxR (sSeq a b r) P := by
  obtain ⟨r1, h1, h2⟩ := nxR_iff (h b rfl)
  unfold sSeq
  rw [h1, bindR_ok]
  exact h2
theorem run_rt {P n : Nat} {b : SM} {ds : List Dt} {d : Dt} (h : ds.length = P) (hb : b (startO n ds) = okR (.rt d)) : runF P n b ds = okR d := by
  unfold runF
  rw [if_pos h, hb]; rfl
theorem nx_up {j n : Nat} {b : SM} {r : Ro} {X : Ro → Prop} (Pv : Nat → Ro → Prop) (h : Pv 0 r) (hs : ∀ k, k < n → ∀ r, Pv k r → nxR (b (r.set j (some (.int (k : Nat), 0)))) (Pv (k + 1))) (hK : ∀ r', Pv n r' → X r') : nxR (forGo (.one j) b (nums 0 n) r) X := by
  obtain ⟨r', h1, h2⟩ : ∃ r', forGo (.one j) b (nums 0 n) r = okR (.nx r') ∧ Pv n r' := by
    obtain ⟨r', h1, h2⟩ := for_all (tg := .one j) (b := b) Pv (nums 0 n) 0 r h fun k d r hd hp => by
      rw [nums_nat, List.getElem?_map] at hd
      cases e : (List.range n)[k]? with
      | none => rw [e] at hd; cases hd
      | some q =>
        rw [e] at hd
        cases hd
        obtain ⟨h1, h2⟩ := List.getElem?_eq_some_iff.mp e
        rw [List.getElem_range] at h2
        subst h2
        rw [Nat.zero_add] at hp
        obtain ⟨r', g1, g2⟩ := nxR_iff (hs k (by simpa using h1) r hp)
        exact ⟨_, r', rfl, g1, by rw [Nat.zero_add]; exact g2⟩
    exact ⟨r', h1, by simpa [nums] using h2⟩
  rw [h1]
  exact hK r' h2
theorem nx_each {γ : Type} {j : Nat} {b : SM} {r : Ro} {X : Ro → Prop} (en : γ → Dt) (ns : List γ) (Pv : Nat → Ro → Prop) (h : Pv 0 r) (hs : ∀ k x, ns[k]? = some x → ∀ r, Pv k r → nxR (b (r.set j (some (en x, 0)))) (Pv (k + 1))) (hK : ∀ r', Pv ns.length r' → X r') : nxR (forGo (.one j) b (ns.map en) r) X := by
  obtain ⟨r', h1, h2⟩ := for_all (tg := .one j) (b := b) Pv (ns.map en) 0 r h fun k d r hd hp => by
    rw [List.getElem?_map] at hd
    cases e : ns[k]? with
    | none => rw [e] at hd; cases hd
    | some q =>
      rw [e] at hd
      cases hd
      rw [Nat.zero_add] at hp
      obtain ⟨r', g1, g2⟩ := nxR_iff (hs k q e r hp)
      exact ⟨_, r', rfl, g1, by rw [Nat.zero_add]; exact g2⟩
  rw [h1]
  exact hK r' (by simpa using h2)
theorem nx_while {c : TM} {b : SM} {r : Ro} {X : Ro → Prop} (Pv : Ro → Prop) (μ : Ro → Nat) (Rv : Ro → Prop) (h0 : Pv r) (hm : μ r < 1000000) (hc : ∀ r, Pv r → (c (full r) = okR false ∧ Rv r) ∨ (c (full r) = okR true ∧ nxR (b r) fun r' => Pv r' ∧ μ r' < μ r)) (hK : ∀ r', Rv r' → X r') : nxR (sWhile c b r) X := by
  obtain ⟨r', h1, h2⟩ := sWhile_all Pv μ Rv h0 hm fun r hr => (hc r hr).imp (fun z => z) fun z => ⟨z.1, nxR_iff z.2⟩
  rw [h1]
  exact hK r' h2
end Mi
namespace Mi
open PySem
theorem map_inj_c : ∀ (a b : List Char), a.map Char.toNat = b.map Char.toNat → a = b
  | [], [], _ => rfl
  | [], _ :: _, h => by simp at h
  | _ :: _, [], h => by simp at h
  | x :: r, y :: q, h => by
    simp only [List.map_cons, List.cons.injEq] at h
    rw [map_inj_c r q h.2]
    have : x = y := Char.toNat_inj.mp h.1
    rw [this]
@[simp] theorem str_inj (a b : String) : (Str.ofString a = Str.ofString b) ↔ a = b := by
  constructor
  · intro h
    rw [Str.ofString_eq_toList, Str.ofString_eq_toList] at h
    simp only [Str.mk.injEq, List.toArray_inj] at h
    have := map_inj_c _ _ (by simpa using h)
    exact String.toList_inj.mp this
  · intro h; rw [h]
end Mi
namespace Mi
open PySem
end Mi

namespace Mi
open PySem
section
variable (ρ : Rh) (a : EM) (am : AM) (lo hi : OM)
@[simp] theorem x_eSl : eSl a lo hi ρ = bindR (a ρ) fun x => bindR (lo ρ) fun l => bindR (hi ρ) fun h => optR (slD x l h) := rfl
@[simp] theorem x_oNo : oNo ρ = okR none := rfl
@[simp] theorem x_oE : oE a ρ = bindR (a ρ) fun d => match d with | .int i => okR (some i) | _ => none := rfl
@[simp] theorem x_eMt (f : Dt → List Dt → Option Dt) : eMt f a am ρ = bindR (a ρ) fun x => if isStrD x = true then bindR (am ρ) fun xs => optR (f x xs) else none := rfl
@[simp] theorem v_isStr (z : Str) : isStrD (.str z) = true := rfl
end
@[simp] theorem v_slL (xs : List Dt) (l h : Option Int) : slD (.lst xs) l h = some (.lst (cutA xs l h)) := rfl
@[simp] theorem v_slS (z : Str) (l h : Option Int) : slD (.str z) l h = @ite _ (z.length ≤ 100000) (Classical.propDecidable _) (some (.str ⟨(cutA z.cps.toList l h).toArray⟩)) none := rfl
@[simp] theorem v_ixSt (z : Str) (i : Int) : ixD (.str z) (.int i) = @ite _ (z.length ≤ 100000) (Classical.propDecidable _) ((itA z.cps.toList i).map fun c => .str ⟨#[c]⟩) none := rfl
@[simp] theorem v_lenSt (z : Str) : lenD [.str z] = @ite _ (z.length ≤ 100000) (Classical.propDecidable _) (some (.int z.length)) none := rfl
@[simp] theorem v_count1 (z : Str) (c : Nat) : countD (.str z) [.str ⟨#[c]⟩] = some (.int (z.cps.toList.count c : Nat)) := rfl
@[simp] theorem v_in1 (ng : Bool) (z : Str) (c : Nat) : inD ng (.str ⟨#[c]⟩) (.str z) = some (.bl (if ng = true then !decide (c ∈ z.cps.toList) else decide (c ∈ z.cps.toList))) := rfl
@[simp] theorem v_find1 (z : Str) (c : Nat) : findD (.str z) [.str ⟨#[c]⟩] = some (.int (match posC c z.cps.toList with | some i => (i : Int) | none => -1)) := rfl
theorem str_app (a b : Str) : (a ++ b).cps.toList = a.cps.toList ++ b.cps.toList := by
  show (Str.mk (a.cps ++ b.cps)).cps.toList = _
  simp
theorem len_cps (z : Str) : z.length = z.cps.toList.length := by
  unfold Str.length
  simp
theorem len_mk (l : List Nat) : (Str.mk l.toArray).length = l.length := by rw [len_cps]
end Mi
namespace Mi
open PySem
end Mi

namespace Mp
open Mi PySem
end Mp

namespace Mp
open Mi PySem
def rowD (r : List Int) : Dt := .lst (r.map .int)
def mat (A : List (List Int)) : Dt := .lst (A.map rowD)
@[simp] theorem dep_row (r : List Int) : (rowD r).dep = 1 := by simp [rowD]
@[simp] theorem lenR (r : List Int) : lenD [rowD r] = some (.int r.length) := by
  show some (Dt.int ((r.map Dt.int).length : Int)) = _
  rw [List.length_map]
@[simp] theorem listR (r : List Int) : listD [rowD r] = some (rowD r) := rfl
@[simp] theorem lenM (A : List (List Int)) : lenD [mat A] = some (.int A.length) := by
  show some (Dt.int ((A.map rowD).length : Int)) = _
  rw [List.length_map]
theorem eq_row (a b : List Int) : Dt.eq (rowD a) (rowD b) = decide (a = b) := by
  unfold rowD
  rw [v_e4, eqL_ints]
theorem comp_row {ρ : Rh} {e : EM} {it : IM} {i n : Nat} (g : Nat → Int) (hi : i = ρ.length) (hn : n ≤ 1000) (h1 : it ρ = okR (nums 0 n)) (h : ∀ a, a < n → e (ρ ++ [some (.int (a : Nat))]) = okR (.int (g a))) : eComp it 1 (.one i) tYes e ρ = okR (rowD ((List.range n).map g)) := by
  rw [comp_range (fun b => .int (g b)) n rfl hi (fun b hb => h b hb) it h1 (by omega)]
  unfold rowD
  rw [List.map_map]
  rfl
end Mp

namespace Mp
open Mi PySem
end Mp

namespace Mp
open Mi PySem
def Bit (x : Int) : Prop := x = 0 ∨ x = 1
def RowN (n : Nat) (r : List Int) : Prop := r.length = n ∧ ∀ x ∈ r, Bit x
theorem ixRow (r : List Int) (i : Nat) (h : i < r.length) : ixD (rowD r) (.int (i : Int)) = some (.int (r.getD i 0)) := by
  have := itA_ints (ns := r) (i := (i : Int)) (by omega) (by omega)
  rw [Int.toNat_natCast] at this
  exact this
end Mp

namespace Mp
open Mi PySem
end Mp

namespace Mp
open Mi PySem
theorem flatL {ds : List Dt} (h : ∀ d ∈ ds, d.dep = 0) : Dt.depL ds = 0 := by
  induction ds with
  | nil => simp
  | cons a r ih => rw [v_dcons, h a (by simp), ih fun d hd => h d (by simp [hd])]; rfl
theorem appPop_go {r : Ro} {j i k l : Nat} {e : EM} {z : Int} {ds es : List Dt} {c : Dt} (hi : r[i]? = some (some (.lst ds, k + 1))) (hj : r[j]? = some (some (.lst es, l + 1))) (he : e (full r) = okR (.int z)) (h0 : 0 ≤ z) (h1 : z < ds.length) (hc : ds[z.toNat]? = some c) (hf : c.dep = 0) (hij : i ≠ j) (hz : ds.length ≤ 1000) (hz2 : es.length ≤ 1000) (hk : k < 1000) :
    sAppPop j i e r = okR (.nx ((r.set i (some (.lst (ds.eraseIdx z.toNat), k + 1))).set j (some (.lst (es ++ [c]), l + 1)))) := by
  unfold sAppPop
  rw [hj, hi]
  dsimp only
  rw [he, bindR_ok]
  dsimp only
  rw [ixA_of h0 h1]
  dsimp only
  rw [hc]
  dsimp only
  rw [if_pos ⟨hij, by omega, by omega, .inr ⟨by omega, by omega, hk⟩⟩]
def lenAt (i : Nat) (r : Ro) : Nat := match r[i]? with
  | some (some (Dt.lst lf, _)) => lf.length
  | _ => 0
end Mp

namespace Mp
open Mi PySem
def numL (ks : List Nat) : List Int := ks.map fun k : Nat => (k : Int)
theorem getD_lt {ks : List Nat} {n a : Nat} (hk : ∀ k ∈ ks, k < n) (ha : a < ks.length) : ks.getD a 0 < n := by
  refine hk _ ?_
  rw [List.getD_eq_getElem?_getD, List.getElem?_eq_getElem ha]
  simp
def sub (ks : List Nat) (f : Nat → Nat → Int) : Nat → Nat → Int := fun a b => f (ks.getD a 0) (ks.getD b 0)
theorem bools_true {α : Type} (l : List α) : allD [.lst (l.map fun _ => Dt.bl true)] = some (.bl true) := by
  have hall : ∀ l : List α, boolsD (l.map fun _ => Dt.bl true) = some (l.map fun _ => true) := by
    intro l
    induction l with
    | nil => rfl
    | cons a r ih => simp [boolsD, ih]
  simp [allD, hall]
theorem ints_of_map (l : List Int) : intsD (l.map Dt.int) = some l := by
  induction l with
  | nil => rfl
  | cons a r ih => simp [intsD, ih]
end Mp

namespace Mp
open Mi PySem
def sgn (c : Nat) : Dt := .str ⟨#[c]⟩
theorem flat_sgn (cs : List Nat) : ∀ d ∈ cs.map sgn, d.dep = 0 := by
  intro d hd
  obtain ⟨c, _, rfl⟩ := List.mem_map.mp hd
  rfl
@[simp] theorem depL_sgn (cs : List Nat) : Dt.depL (cs.map sgn) = 0 := flatL (flat_sgn cs)
end Mp

namespace Mp
end Mp

namespace Mp
end Mp

namespace Mp
open Mi PySem
theorem ixNum (ks : List Nat) (a : Nat) (h : a < ks.length) : ixD (rowD (numL ks)) (.int (a : Int)) = some (.int (ks.getD a 0 : Nat)) := by
  have i1 := ixRow (numL ks) a (by simp [numL]; exact h)
  rw [show (numL ks).getD a 0 = ((ks.getD a 0 : Nat) : Int) by
    unfold numL
    simp [List.getD_eq_getElem?_getD, List.getElem?_eq_getElem h]] at i1
  exact i1
theorem rep_zero (n : Nat) (hn : n ≤ 10000) : repD (.lst [.int 0]) (.int (n : Int)) = some (rowD (List.replicate n 0)) := by
  rw [v_rep, if_pos (by simp; omega)]
  have : ∀ m : Nat, (List.replicate m [Dt.int 0]).flatten = List.replicate m (Dt.int 0) := by
    intro m
    induction m with
    | zero => rfl
    | succ m ih => rw [List.replicate_succ, List.flatten_cons, ih]; rfl
  rw [Int.toNat_natCast, this]
  unfold rowD
  rw [List.map_replicate]
end Mp

namespace Mp
open Mi PySem
theorem nums_ints (n : Nat) : nums 0 n = ((List.range n).map fun i : Nat => (i : Int)).map Dt.int := by
  unfold nums
  rw [List.map_map]
  exact List.map_congr_left fun i _ => by simp
theorem set_ints (ms : List Int) (q : Nat) (v : Int) : (ms.map Dt.int).set q (.int v) = (ms.set q v).map Dt.int := by
  rw [List.map_set]
theorem erase_ints (ms : List Int) (q : Nat) : (ms.map Dt.int).eraseIdx q = (ms.eraseIdx q).map Dt.int := by
  induction ms generalizing q with
  | nil => rfl
  | cons a r ih =>
    cases q with
    | zero => rfl
    | succ q => simp [ih]
theorem pop_ints {r : Ro} {j i l : Nat} {ls : List Int} {e : EM} {z : Int} (h : r[i]? = some (some (.lst (ls.map .int), l + 1))) (he : e (full r) = okR (.int z)) (h0 : 0 ≤ z) (h1 : z < ls.length) (hij : i ≠ j) (hle : ls.length ≤ 1000000) :
    sPop j i e r = okR (.nx ((r.set i (some (.lst ((ls.eraseIdx z.toNat).map .int), l + 1))).set j (some (.int (ls.getD z.toNat 0), l)))) := by
  have hi : ixA (ls.map Dt.int).length z = some z.toNat := ixA_of h0 (by simpa using h1)
  have hg : (ls.map Dt.int)[z.toNat]? = some (.int (ls.getD z.toNat 0)) := by
    have : z.toNat < ls.length := by omega
    rw [List.getElem?_map, List.getElem?_eq_getElem this, List.getD_eq_getElem?_getD, List.getElem?_eq_getElem this]
    rfl
  unfold sPop
  rw [h]
  dsimp only
  rw [he, bindR_ok]
  dsimp only
  rw [hi]
  dsimp only
  rw [hg]
  dsimp only
  rw [if_pos ⟨hij, by simpa using hle⟩, erase_ints]
theorem item_ints {r : Ro} {i n l : Nat} {ls : List Int} {e1 e2 : EM} {z v : Int} (h : r[i]? = some (some (.lst (ls.map .int), l + 1))) (he2 : e2 (full r) = okR (.int v)) (he1 : e1 (full r) = okR (.int z)) (h0 : 0 ≤ z) (h1 : z < ls.length) :
    sItem i n e1 e2 r = okR (.nx (r.set i (some (.lst ((ls.set z.toNat v).map .int), l + 1)))) := by
  have hi : ixA (ls.map Dt.int).length z = some z.toNat := ixA_of h0 (by simpa using h1)
  unfold sItem
  rw [he2, bindR_ok, h]
  dsimp only
  rw [he1, bindR_ok]
  dsimp only
  rw [hi]
  dsimp only
  rw [if_pos ⟨Nat.zero_le _, Nat.zero_le _⟩, set_ints]
end Mp

namespace FW
structure NetL (ns : List Int) (n : Nat) : Prop where
  len : ns.length = n
  tie : ∀ i : Nat, i < n → ∃ j : Nat, j < n ∧ j ≠ i ∧ ns[i]? = some (j : Int) ∧ ns[j]? = some (i : Int)
structure Part (left : List Nat) (ns : List Int) (n : Nat) : Prop where
  len : ns.length = n
  nd : left.Nodup
  lt : ∀ i ∈ left, i < n
  ev : left.length % 2 = 0
  tie : ∀ i : Nat, i < n → i ∉ left → ∃ j : Nat, j < n ∧ j ∉ left ∧ j ≠ i ∧ ns[i]? = some (j : Int) ∧ ns[j]? = some (i : Int)
theorem Part.start (n : Nat) (h : n % 2 = 0) : Part (List.range n) (List.replicate n 0) n :=
  ⟨by simp, List.nodup_range, fun i hi => List.mem_range.mp hi, by simpa using h, fun i hi hn => absurd (List.mem_range.mpr hi) hn⟩
theorem Part.done {ns : List Int} {n : Nat} (h : Part [] ns n) : NetL ns n := ⟨h.len, fun i hi => by
  obtain ⟨j, h1, _, h2, h3, h4⟩ := h.tie i hi (by simp)
  exact ⟨j, h1, h2, h3, h4⟩⟩
theorem mem_erase {l : List Nat} {k : Nat} {x : Nat} : x ∈ l.eraseIdx k → x ∈ l := fun h => List.mem_of_mem_eraseIdx h
theorem not_mem_erase : ∀ {l : List Nat} {k : Nat} {b : Nat}, l.Nodup → l[k]? = some b → b ∉ l.eraseIdx k
  | [], _, _, _, h => by simp at h
  | a :: r, 0, b, nd, h => by
    simp at h; subst h
    simpa using (List.nodup_cons.mp nd).1
  | a :: r, k + 1, b, nd, h => by
    obtain ⟨h1, h2⟩ := List.nodup_cons.mp nd
    have h' : r[k]? = some b := by simpa using h
    intro hm
    simp only [List.eraseIdx_cons_succ] at hm
    rcases List.mem_cons.mp hm with e | hm
    · subst e; exact h1 (List.mem_of_getElem? h')
    · exact not_mem_erase h2 h' hm
theorem mem_erase_of : ∀ {l : List Nat} {k : Nat} {b x : Nat}, l[k]? = some b → x ∈ l → x ≠ b → x ∈ l.eraseIdx k
  | [], _, _, _, h, _, _ => by simp at h
  | a :: r, 0, b, x, h, hx, hne => by
    simp at h; subst h
    rcases List.mem_cons.mp hx with e | hx
    · exact absurd e hne
    · simpa using hx
  | a :: r, k + 1, b, x, h, hx, hne => by
    have h' : r[k]? = some b := by simpa using h
    simp only [List.eraseIdx_cons_succ]
    rcases List.mem_cons.mp hx with e | hx
    · exact List.mem_cons.mpr (.inl e)
    · exact List.mem_cons.mpr (.inr (mem_erase_of h' hx hne))
theorem len_erase {l : List Nat} {k : Nat} (h : k < l.length) : (l.eraseIdx k).length + 1 = l.length := by
  rw [List.length_eraseIdx_of_lt h]; omega
theorem Part.turn {a b k : Nat} {l : List Nat} {ns : List Int} {n : Nat} (h : Part (a :: l) ns n) (hb : l[k]? = some b) : Part (l.eraseIdx k) ((ns.set a (b : Int)).set b (a : Int)) n := by
  obtain ⟨ha, nd⟩ := List.nodup_cons.mp h.nd
  have hk : k < l.length := (List.getElem?_eq_some_iff.mp hb).1
  have hbl : b ∈ l := List.mem_of_getElem? hb
  have hab : a ≠ b := fun e => ha (e ▸ hbl)
  have han : a < n := h.lt a (by simp)
  have hbn : b < n := h.lt b (by simp [hbl])
  have hl := h.len
  refine ⟨by simp [hl], nd.sublist (List.eraseIdx_sublist l k), fun i hi => h.lt i (List.mem_cons_of_mem _ (mem_erase hi)), ?_, fun i hi hn => ?_⟩
  · have e := h.ev
    have := len_erase hk
    simp at e
    omega
  · have nb : b ∉ l.eraseIdx k := not_mem_erase nd hb
    have na : a ∉ l.eraseIdx k := fun z => ha (mem_erase z)
    by_cases e1 : i = a
    · subst e1
      refine ⟨b, hbn, nb, fun z => hab z.symm, ?_, ?_⟩
      · rw [List.getElem?_set_ne (fun z => hab z.symm), List.getElem?_set_self (by omega)]
      · rw [List.getElem?_set_self (by simp [hl]; omega)]
    · by_cases e2 : i = b
      · subst e2
        refine ⟨a, han, na, hab, ?_, ?_⟩
        · rw [List.getElem?_set_self (by simp [hl]; omega)]
        · rw [List.getElem?_set_ne (fun z => hab z.symm), List.getElem?_set_self (by omega)]
      · have hi' : i ∉ a :: l := fun z => by
          rcases List.mem_cons.mp z with z | z
          · exact e1 z
          · exact hn (mem_erase_of hb z e2)
        obtain ⟨j, hj, hjl, hji, g1, g2⟩ := h.tie i hi hi'
        have ja : j ≠ a := fun z => hjl (by simp [z])
        have jb : j ≠ b := fun z => hjl (by simp [z, hbl])
        refine ⟨j, hj, fun z => hjl (List.mem_cons_of_mem _ (mem_erase z)), hji, ?_, ?_⟩
        · rw [List.getElem?_set_ne (fun z => e2 z.symm), List.getElem?_set_ne (fun z => e1 z.symm)]; exact g1
        · rw [List.getElem?_set_ne (fun z => jb z.symm), List.getElem?_set_ne (fun z => ja z.symm)]; exact g2
end FW

namespace Mp
open Mi PySem
theorem least_of {P : Nat → Prop} : ∀ (n : Nat), P n → ∃ p, p ≤ n ∧ P p ∧ ∀ q, q < p → ¬ P q := by
  intro n
  induction n using Nat.strongRecOn with
  | ind n ih =>
    intro h
    by_cases hq : ∃ q, q < n ∧ P q
    · obtain ⟨q, h1, h2⟩ := hq
      obtain ⟨p, h3, h4, h5⟩ := ih q h1 h2
      exact ⟨p, by omega, h4, h5⟩
    · exact ⟨n, Nat.le_refl _, h, fun q h1 h2 => hq ⟨q, h1, h2⟩⟩
def itr (f : Nat → Nat) : Nat → Nat → Nat
  | 0, x => x
  | k + 1, x => f (itr f k x)
theorem itr_lt {f : Nat → Nat} {M : Nat} (hf : ∀ x, x < M → f x < M) {x : Nat} (hx : x < M) : ∀ k, itr f k x < M
  | 0 => hx
  | k + 1 => hf _ (itr_lt hf hx k)
theorem itr_back {f : Nat → Nat} {M : Nat} (hf : ∀ x, x < M → f x < M) (hi : ∀ x y, x < M → y < M → f x = f y → x = y) {x : Nat} (hx : x < M) : ∀ i d, itr f i x = itr f (i + d) x → itr f d x = x
  | 0, d, h => by rw [Nat.zero_add] at h; exact h.symm
  | i + 1, d, h => by
    rw [show i + 1 + d = (i + d) + 1 by omega] at h
    exact itr_back hf hi hx i d (hi _ _ (itr_lt hf hx i) (itr_lt hf hx (i + d)) h)
theorem not_nodup : ∀ l : List Nat, ¬ l.Nodup → ∃ i j, i < j ∧ j < l.length ∧ l.getD i 0 = l.getD j 0
  | [], h => absurd List.nodup_nil h
  | a :: l, h => by
    by_cases ha : a ∈ l
    · obtain ⟨j, hj, e⟩ := List.getElem_of_mem ha
      exact ⟨0, j + 1, by omega, by simp; omega, by simp [hj, e]⟩
    · have : ¬ l.Nodup := fun hn => h (List.nodup_cons.mpr ⟨ha, hn⟩)
      obtain ⟨i, j, h1, h2, h3⟩ := not_nodup l this
      exact ⟨i + 1, j + 1, by omega, by simp; omega, by simpa using h3⟩
theorem nodup_leR : ∀ {a b : List Nat}, a.Nodup → (∀ x ∈ a, x ∈ b) → a.length ≤ b.length
  | [], b, _, _ => by simp
  | x :: a, b, hn, h => by
    obtain ⟨h1, h2⟩ := List.nodup_cons.mp hn
    have hx := h x (by simp)
    have := nodup_leR (b := b.erase x) h2 fun y hy => by
      have hne : y ≠ x := fun z => h1 (z ▸ hy)
      exact (List.mem_erase_of_ne hne).mpr (h y (by simp [hy]))
    rw [List.length_erase_of_mem hx] at this
    have := List.length_pos_of_mem hx
    simp only [List.length_cons]
    omega
theorem comes_back {f : Nat → Nat} {M : Nat} (hf : ∀ x, x < M → f x < M) (hi : ∀ x y, x < M → y < M → f x = f y → x = y) {x : Nat} (hx : x < M) : ∃ p, 1 ≤ p ∧ p ≤ M ∧ itr f p x = x ∧ ∀ q, 1 ≤ q → q < p → itr f q x ≠ x := by
  have hn : ¬ ((List.range (M + 1)).map fun k => itr f k x).Nodup := fun hn => by
    have := nodup_leR (b := List.range M) hn fun y hy => by
      obtain ⟨k, _, rfl⟩ := List.mem_map.mp hy
      exact List.mem_range.mpr (itr_lt hf hx k)
    simp at this
    omega
  obtain ⟨i, j, h1, h2, h3⟩ := not_nodup _ hn
  simp at h2
  have e : itr f i x = itr f j x := by
    simpa [show i < M + 1 by omega, h2] using h3
  have hb : itr f (j - i) x = x := itr_back hf hi hx i (j - i) (by rw [show i + (j - i) = j by omega]; exact e)
  obtain ⟨p, h4, h5, h6⟩ := least_of (P := fun p => 1 ≤ p ∧ itr f p x = x) (j - i) ⟨by omega, hb⟩
  exact ⟨p, h5.1, by omega, h5.2, fun q h7 h8 h9 => h6 q h8 ⟨h7, h9⟩⟩
def jn (cs : List Nat) (e : Nat) : Nat := e / 4 * 4 + (e % 4 ^^^ (cs.getD (e / 4) 0 + 1))
theorem xor4 : ∀ s, s < 4 → ∀ w, w < 3 → (s ^^^ (w + 1)) < 4 ∧ ((s ^^^ (w + 1)) ^^^ (w + 1)) = s := by decide
theorem jn_ok {cs : List Nat} {n e : Nat} (hl : cs.length = n) (hw : ∀ c ∈ cs, c < 3) (he : e < 4 * n) : jn cs e < 4 * n ∧ jn cs (jn cs e) = e := by
  have hc : cs.getD (e / 4) 0 < 3 := getD_lt hw (by omega)
  obtain ⟨h1, h2⟩ := xor4 (e % 4) (by omega) _ hc
  have hq : jn cs e / 4 = e / 4 := by unfold jn; omega
  have hr : jn cs e % 4 = (e % 4 ^^^ (cs.getD (e / 4) 0 + 1)) := by unfold jn; omega
  refine ⟨by unfold jn; omega, ?_⟩
  show jn cs e / 4 * 4 + (jn cs e % 4 ^^^ (cs.getD (jn cs e / 4) 0 + 1)) = e
  rw [hq, hr, h2]
  omega
def nt (ts : List Nat) (e : Nat) : Nat := ts.getD e 0
structure NetN (ts : List Nat) (M : Nat) : Prop where
  len : ts.length = M
  lt : ∀ e, e < M → nt ts e < M
  inv : ∀ e, e < M → nt ts (nt ts e) = e
def stp (ts cs : List Nat) (e : Nat) : Nat := nt ts (jn cs e)
theorem stp_ok {ts cs : List Nat} {n : Nat} (hN : NetN ts (4 * n)) (hl : cs.length = n) (hw : ∀ c ∈ cs, c < 3) : (∀ x, x < 4 * n → stp ts cs x < 4 * n) ∧ ∀ x y, x < 4 * n → y < 4 * n → stp ts cs x = stp ts cs y → x = y := by
  refine ⟨fun x hx => hN.lt _ (jn_ok hl hw hx).1, fun x y hx hy e => ?_⟩
  have h1 := congrArg (nt ts) e
  unfold stp at h1
  rw [hN.inv _ (jn_ok hl hw hx).1, hN.inv _ (jn_ok hl hw hy).1] at h1
  have h2 := congrArg (jn cs) h1
  rw [(jn_ok hl hw hx).2, (jn_ok hl hw hy).2] at h2
  exact h2
def orb (ts cs : List Nat) (e : Nat) (k : Nat) : List Nat := (List.range k).flatMap fun i => [itr (stp ts cs) i e, jn cs (itr (stp ts cs) i e)]
theorem orb_succ (ts cs : List Nat) (e k : Nat) : orb ts cs e (k + 1) = orb ts cs e k ++ [itr (stp ts cs) k e, jn cs (itr (stp ts cs) k e)] := by
  unfold orb
  rw [List.range_succ, List.flatMap_append]
  simp
theorem orb_len (ts cs : List Nat) (e : Nat) : ∀ k, (orb ts cs e k).length = 2 * k
  | 0 => rfl
  | k + 1 => by rw [orb_succ, List.length_append, orb_len ts cs e k]; simp; omega
end Mp

namespace Mp
open Mi PySem
theorem bx4 : ∀ s : Nat, s < 4 → ∀ w : Nat, w < 3 → Builtin.bitXor (s : Int) ((w : Int) + 1) = ((s ^^^ (w + 1) : Nat) : Int) := by decide
theorem joined_prog {w s : Nat} (hw : w < 3) (hs : s < 4) : m_joined [.int (w : Int), .int (s : Int)] = okR (.int ((s ^^^ (w + 1) : Nat) : Int)) := by
  refine run_rt rfl ?_
  show b_joined [some (.int (w : Int), 0), some (.int (s : Int), 0)] = _
  unfold b_joined
  simp [bx4 s hs w hw]
theorem joined_end_prog {cs : List Nat} {n e : Nat} (hl : cs.length = n) (hn : n ≤ 1000) (hw : ∀ c ∈ cs, c < 3) (he : e < 4 * n) : m_joined_end [rowD (numL cs), .int (e : Int)] = okR (.int (jn cs e : Nat)) := by
  have hx := ixNum cs (e / 4) (by omega)
  have hc : cs.getD (e / 4) 0 < 3 := getD_lt hw (by omega)
  have hj := joined_prog hc (show e % 4 < 4 by omega)
  have e1 : (e : Int) / 4 = ((e / 4 : Nat) : Int) := by omega
  have e2 : (e : Int) % 4 = ((e % 4 : Nat) : Int) := by omega
  refine run_rt rfl ?_
  show b_joined_end [some (rowD (numL cs), 0), some (.int (e : Int), 0), none] = _
  unfold b_joined_end
  generalize rowD (numL cs) = C at hx ⊢
  refine seq_go fun bb hb => nxR_of (r := [some (C, 0), some (.int (e : Int), 0), some (.int ((e / 4 : Nat) : Int), 0)]) (by simp) ?_
  subst hb
  have m1 : mulD (.int ((e / 4 : Nat) : Int)) (.int 4) = some (.int (((e / 4 : Nat) : Int) * 4)) := mul_r (by omega) (by omega)
  have hm : modD (.int (e : Int)) (.int 4) = some (.int ((e % 4 : Nat) : Int)) := by simp
  have ejn : ((e / 4 : Nat) : Int) * 4 + ((e % 4 ^^^ (cs.getD (e / 4) 0 + 1) : Nat) : Int) = ((jn cs e : Nat) : Int) := by unfold jn; omega
  generalize ((e / 4 : Nat) : Int) = q at *
  generalize ((e % 4 : Nat) : Int) = r at *
  simp only [x_sRet, x_eB, x_eV, x_eC, x_eCall, x_aCons, x_aNil, x_full_cons, x_full_nil, Option.map_some, Option.map_none, List.getElem?_cons_succ, List.getElem?_cons_zero, bindR_ok, m1, hm, hx, hj, optR_some, v_add, ejn]
  simp
theorem seats3 : ∀ w : Nat, w < 3 → ∀ s : Nat, s < 4 → itA [Dt.tup [.int 1, .int 0, .int 3, .int 2], Dt.tup [.int 2, .int 3, .int 0, .int 1], Dt.tup [.int 3, .int 2, .int 1, .int 0]] (w : Int) = some (Dt.tup ((List.range 4).map fun s : Nat => Dt.int ((s ^^^ (w + 1) : Nat) : Int))) := by
  intro w hw s hs
  match w, hw with
  | 0, _ => rfl
  | 1, _ => rfl
  | 2, _ => rfl
theorem ljoined_prog {cs : List Nat} {n e : Nat} (hl : cs.length = n) (hn : n ≤ 1000) (hw : ∀ c ∈ cs, c < 3) (he : e < 4 * n) : m__law_joined [rowD (numL cs), .int (e : Int)] = okR (.int (jn cs e : Nat)) := by
  have hx := ixNum cs (e / 4) (by omega)
  have hc : cs.getD (e / 4) 0 < 3 := getD_lt hw (by omega)
  have h3 := seats3 _ hc (e % 4) (by omega)
  have e1 : (e : Int) / 4 = ((e / 4 : Nat) : Int) := by omega
  have e2 : (e : Int) % 4 = ((e % 4 : Nat) : Int) := by omega
  generalize hT : Dt.tup ((List.range 4).map fun s : Nat => Dt.int ((s ^^^ (cs.getD (e / 4) 0 + 1) : Nat) : Int)) = T at h3
  have h4 : ixD T (.int ((e % 4 : Nat) : Int)) = some (.int ((e % 4 ^^^ (cs.getD (e / 4) 0 + 1) : Nat) : Int)) := by
    rw [← hT]
    refine itA_of (j := e % 4) rfl ?_
    rw [List.getElem?_map, List.getElem?_range (by omega)]
    rfl
  have hTd : T.dep = 1 := by rw [← hT]; rfl
  refine run_rt rfl ?_
  show b__law_joined [some (rowD (numL cs), 0), some (.int (e : Int), 0), none] = _
  unfold b__law_joined
  generalize rowD (numL cs) = C at hx ⊢
  have hdv : divD (.int (e : Int)) (.int 4) = some (.int ((e / 4 : Nat) : Int)) := by simp
  have hm : modD (.int (e : Int)) (.int 4) = some (.int ((e % 4 : Nat) : Int)) := by simp
  refine seq_go fun bb hb => nxR_of (r := [some (C, 0), some (.int (e : Int), 0), some (T, 0)]) (by
    rw [← e1] at hx
    have h3' : ixD (.lst [Dt.tup [.int 1, .int 0, .int 3, .int 2], Dt.tup [.int 2, .int 3, .int 0, .int 1], Dt.tup [.int 3, .int 2, .int 1, .int 0]]) (.int ((cs.getD (e / 4) 0 : Nat) : Int)) = some T := h3
    simp [hx, h3', hTd, -List.getD_eq_getElem?_getD, -v_ixL]) ?_
  subst hb
  have ejn : (e : Int) - ((e % 4 : Nat) : Int) + ((e % 4 ^^^ (cs.getD (e / 4) 0 + 1) : Nat) : Int) = ((jn cs e : Nat) : Int) := by unfold jn; omega
  generalize ((e % 4 : Nat) : Int) = r at *
  simp only [x_sRet, x_eB, x_eV, x_eC, x_full_cons, x_full_nil, Option.map_some, Option.map_none, List.getElem?_cons_succ, List.getElem?_cons_zero, bindR_ok, hm, h4, optR_some, v_add, v_sub, ejn]
  simp
end Mp
namespace Mp
open Mi PySem
theorem ix_last {l : List Nat} {x : Nat} : ixD (rowD (numL (l ++ [x]))) (.int (-1)) = some (.int (x : Int)) := by
  show itA ((numL (l ++ [x])).map Dt.int) (-1) = _
  unfold itA ixA
  simp [numL]
  rw [if_pos (by omega)]
  simp
  rw [show (-1 + ((l.length : Int) + 1)).toNat = l.length by omega]
  simp
theorem round_prog {ts cs : List Nat} {n e : Nat} (hN : NetN ts (4 * n)) (hl : cs.length = n) (hn : n ≤ 100) (hw : ∀ c ∈ cs, c < 3) (he : e < 4 * n) {p : Nat} (p1 : 1 ≤ p) (p2 : p ≤ 4 * n) (p3 : itr (stp ts cs) p e = e) (p4 : ∀ q, 1 ≤ q → q < p → itr (stp ts cs) q e ≠ e) :
    m_round_of [rowD (numL ts), rowD (numL cs), .int (e : Int)] = okR (rowD (numL (orb ts cs e p))) := by
  obtain ⟨st1, _⟩ := stp_ok hN hl hw
  have hlt : ∀ k, itr (stp ts cs) k e < 4 * n := itr_lt st1 he
  have hjn : ∀ k, m_joined_end [rowD (numL cs), .int ((itr (stp ts cs) k e : Nat) : Int)] = okR (.int (jn cs (itr (stp ts cs) k e) : Nat)) := fun k => joined_end_prog hl (by omega) hw (hlt k)
  have hnt : ∀ k, ixD (rowD (numL ts)) (.int ((jn cs (itr (stp ts cs) k e) : Nat) : Int)) = some (.int ((itr (stp ts cs) (k + 1) e : Nat) : Int)) := fun k => ixNum ts _ (by rw [hN.len]; exact (jn_ok hl hw (hlt k)).1)
  have hlast : ∀ k, ixD (rowD (numL (orb ts cs e (k + 1)))) (.int (-1)) = some (.int ((jn cs (itr (stp ts cs) k e) : Nat) : Int)) := fun k => by
    rw [orb_succ, show orb ts cs e k ++ [itr (stp ts cs) k e, jn cs (itr (stp ts cs) k e)] = (orb ts cs e k ++ [itr (stp ts cs) k e]) ++ [jn cs (itr (stp ts cs) k e)] by simp]
    exact ix_last
  have hdr : ∀ k, (rowD (numL (orb ts cs e k))).dep = 1 := fun k => dep_row _
  have hext : ∀ k : Nat, k ≤ 1000 → ∀ o4, sExt 3 0 (eLst (aCons (eV 4) (aCons (eCall m_joined_end (aCons (eV 1) (aCons (eV 4) aNil))) aNil))) [some (rowD (numL ts), 0), some (rowD (numL cs), 0), some (.int (e : Int), 0), some (rowD (numL (orb ts cs e (k + 1))), 1), some (.int ((itr (stp ts cs) (k + 1) e : Nat) : Int), o4)] = okR (.nx [some (rowD (numL ts), 0), some (rowD (numL cs), 0), some (.int (e : Int), 0), some (rowD (numL (orb ts cs e (k + 2))), 1), some (.int ((itr (stp ts cs) (k + 1) e : Nat) : Int), o4)]) := by
    intro k hk o4
    have hj := hjn (k + 1)
    have ol := orb_len ts cs e (k + 1)
    have es := orb_succ ts cs e (k + 1)
    generalize rowD (numL cs) = C at hj ⊢
    generalize rowD (numL ts) = T
    generalize hx : itr (stp ts cs) (k + 1) e = x at hj es ⊢
    generalize hy : jn cs x = y at hj es ⊢
    rw [show k + 1 + 1 = k + 2 from rfl] at es
    rw [es]
    unfold rowD numL sExt
    simp [hj, ol]
    omega
  have key : b_round_of [some (rowD (numL ts), 0), some (rowD (numL cs), 0), some (.int (e : Int), 0), none, none] = okR (.rt (rowD (numL (orb ts cs e p)))) := by
    unfold b_round_of
    have h0 := hjn 0
    refine seq_go fun bb hb => nxR_of (r := [some (rowD (numL ts), 0), some (rowD (numL cs), 0), some (.int (e : Int), 0), some (rowD (numL (orb ts cs e 1)), 1), none]) (by
      have eo : rowD (numL (orb ts cs e 1)) = .lst [.int (e : Int), .int ((jn cs e : Nat) : Int)] := rfl
      replace h0 : m_joined_end [rowD (numL cs), .int (e : Int)] = okR (.int ((jn cs e : Nat) : Int)) := h0
      rw [eo]
      generalize rowD (numL cs) = C at h0 ⊢
      generalize rowD (numL ts) = T
      simp [h0]) ?_
    subst hb
    refine seq_go fun bb hb => ?_
    refine nx_while (fun r => ∃ k o4, k + 1 ≤ p ∧ r = [some (rowD (numL ts), 0), some (rowD (numL cs), 0), some (.int (e : Int), 0), some (rowD (numL (orb ts cs e (k + 1))), 1), o4]) (fun r => 1000 - lenAt 3 r) (fun r => ∃ o4, r = [some (rowD (numL ts), 0), some (rowD (numL cs), 0), some (.int (e : Int), 0), some (rowD (numL (orb ts cs e p)), 1), o4]) ⟨0, none, by omega, rfl⟩ ?_ ?_ ?_
    · exact Nat.lt_of_le_of_lt (Nat.sub_le _ _) (by omega)
    · rintro r ⟨k, o4, hk, rfl⟩
      have c1 := hlast k
      have c2 := hnt k
      have hx1 : itr (stp ts cs) (k + 1) e = e ↔ k + 1 = p := by
        constructor
        · intro h
          by_cases hkp : k + 1 = p
          · exact hkp
          · exact absurd h (p4 (k + 1) (by omega) (by omega))
        · intro h; rw [h]; exact p3
      have hcond : (tB (eB neD (eB ixD (eV 0) (eB ixD (eV 3) (eU negD (eC (.int 1))))) (eV 2))) (full [some (rowD (numL ts), 0), some (rowD (numL cs), 0), some (.int (e : Int), 0), some (rowD (numL (orb ts cs e (k + 1))), 1), o4]) = okR (decide (¬ k + 1 = p)) := by
        have hd : decide (((itr (stp ts cs) (k + 1) e : Nat) : Int) = (e : Int)) = decide (k + 1 = p) := by
          by_cases h : k + 1 = p
          · have := hx1.mpr h
            rw [this]; simp [h]
          · have : ¬ itr (stp ts cs) (k + 1) e = e := fun z => h (hx1.mp z)
            simp [h]
            omega
        generalize rowD (numL (orb ts cs e (k + 1))) = Z at c1 ⊢
        generalize rowD (numL cs) = C
        generalize rowD (numL ts) = T at c2 ⊢
        simp [c1, c2, hd]
      rw [hcond]
      by_cases hkp : k + 1 = p
      · refine .inl ⟨by simp [hkp], o4, ?_⟩
        rw [hkp]
      · refine .inr ⟨by simp [hkp], ?_⟩
        refine seq_nx fun bb hb => nxR_of (r := [some (rowD (numL ts), 0), some (rowD (numL cs), 0), some (.int (e : Int), 0), some (rowD (numL (orb ts cs e (k + 1))), 1), some (.int ((itr (stp ts cs) (k + 1) e : Nat) : Int), 0)]) (by
          generalize rowD (numL (orb ts cs e (k + 1))) = Z at c1 ⊢
          generalize rowD (numL cs) = C
          generalize rowD (numL ts) = T at c2 ⊢
          simp [c1, c2]) ?_
        subst hb
        refine nxR_of (hext k (by omega) 0) ⟨⟨k + 1, _, by omega, rfl⟩, ?_⟩
        have l1 := orb_len ts cs e (k + 1)
        have l2 := orb_len ts cs e (k + 2)
        show 1000 - ((numL (orb ts cs e (k + 2))).map Dt.int).length < 1000 - ((numL (orb ts cs e (k + 1))).map Dt.int).length
        simp [numL, l1, l2]
        omega
    · rintro r ⟨o4, rfl⟩
      subst hb
      have := hdr p
      generalize rowD (numL (orb ts cs e p)) = Z at this ⊢
      generalize rowD (numL cs) = C
      generalize rowD (numL ts) = T
      simp [this]
  exact run_rt rfl key
end Mp
namespace Mp
open Mi PySem
theorem lround_prog {ts cs : List Nat} {n e : Nat} (hN : NetN ts (4 * n)) (hl : cs.length = n) (hn : n ≤ 100) (hw : ∀ c ∈ cs, c < 3) (he : e < 4 * n) {p : Nat} (p1 : 1 ≤ p) (p2 : p ≤ 4 * n) (p3 : itr (stp ts cs) p e = e) (p4 : ∀ q, 1 ≤ q → q < p → itr (stp ts cs) q e ≠ e) :
    m__law_round [rowD (numL ts), rowD (numL cs), .int (e : Int)] = okR (rowD (numL (orb ts cs e p))) := by
  obtain ⟨st1, _⟩ := stp_ok hN hl hw
  have hlt : ∀ k, itr (stp ts cs) k e < 4 * n := itr_lt st1 he
  have hjn : ∀ k, m__law_joined [rowD (numL cs), .int ((itr (stp ts cs) k e : Nat) : Int)] = okR (.int (jn cs (itr (stp ts cs) k e) : Nat)) := fun k => ljoined_prog hl (by omega) hw (hlt k)
  have hnt : ∀ k, ixD (rowD (numL ts)) (.int ((jn cs (itr (stp ts cs) k e) : Nat) : Int)) = some (.int ((itr (stp ts cs) (k + 1) e : Nat) : Int)) := fun k => ixNum ts _ (by rw [hN.len]; exact (jn_ok hl hw (hlt k)).1)
  have hlast : ∀ k, ixD (rowD (numL (orb ts cs e (k + 1)))) (.int (-1)) = some (.int ((jn cs (itr (stp ts cs) k e) : Nat) : Int)) := fun k => by
    rw [orb_succ, show orb ts cs e k ++ [itr (stp ts cs) k e, jn cs (itr (stp ts cs) k e)] = (orb ts cs e k ++ [itr (stp ts cs) k e]) ++ [jn cs (itr (stp ts cs) k e)] by simp]
    exact ix_last
  have key : b__law_round [some (rowD (numL ts), 0), some (rowD (numL cs), 0), some (.int (e : Int), 0), none, none] = okR (.rt (rowD (numL (orb ts cs e p)))) := by
    unfold b__law_round
    refine seq_go fun bb hb => nxR_of (r := [some (rowD (numL ts), 0), some (rowD (numL cs), 0), some (.int (e : Int), 0), some (rowD (numL (orb ts cs e 0)), 9), none]) (by
      have eo : rowD (numL (orb ts cs e 0)) = .lst [] := rfl
      rw [eo]
      generalize rowD (numL cs) = C
      generalize rowD (numL ts) = T
      simp) ?_
    subst hb
    refine seq_go fun bb hb => nxR_of (r := [some (rowD (numL ts), 0), some (rowD (numL cs), 0), some (.int (e : Int), 0), some (rowD (numL (orb ts cs e 0)), 9), some (.int ((itr (stp ts cs) 0 e : Nat) : Int), 0)]) (by
      show _ = okR (Out.nx [some (rowD (numL ts), 0), some (rowD (numL cs), 0), some (.int (e : Int), 0), some (rowD (numL (orb ts cs e 0)), 9), some (.int (e : Int), 0)])
      generalize rowD (numL (orb ts cs e 0)) = Z
      generalize rowD (numL cs) = C
      generalize rowD (numL ts) = T
      simp) ?_
    subst hb
    refine seq_go fun bb hb => ?_
    refine nx_while (fun r => ∃ k, k ≤ p ∧ r = [some (rowD (numL ts), 0), some (rowD (numL cs), 0), some (.int (e : Int), 0), some (rowD (numL (orb ts cs e k)), 9), some (.int ((itr (stp ts cs) k e : Nat) : Int), 0)]) (fun r => 1000 - lenAt 3 r) (fun r => ∃ o4, r = [some (rowD (numL ts), 0), some (rowD (numL cs), 0), some (.int (e : Int), 0), some (rowD (numL (orb ts cs e p)), 9), o4]) ⟨0, by omega, rfl⟩ ?_ ?_ ?_
    · exact Nat.lt_of_le_of_lt (Nat.sub_le _ _) (by omega)
    · rintro r ⟨k, hk, rfl⟩
      have hcond : (Mi.tOr (tB (eB eqD (eV 3) (eLst aNil))) (tB (eB neD (eV 4) (eV 2)))) (full [some (rowD (numL ts), 0), some (rowD (numL cs), 0), some (.int (e : Int), 0), some (rowD (numL (orb ts cs e k)), 9), some (.int ((itr (stp ts cs) k e : Nat) : Int), 0)]) = okR (decide (¬ k = p)) := by
        have hq := eq_row (numL (orb ts cs e k)) []
        replace hq : Dt.eq (rowD (numL (orb ts cs e k))) (.lst []) = decide (numL (orb ts cs e k) = []) := hq
        have hd := dep_row (numL (orb ts cs e k))
        by_cases h0 : k = 0
        · have h1 : (numL (orb ts cs e k) = []) = True := by subst h0; exact eq_true rfl
          have h2 : ¬ k = p := by omega
          generalize rowD (numL (orb ts cs e k)) = Z at hq hd ⊢
          generalize rowD (numL cs) = C
          generalize rowD (numL ts) = T
          simp [hq, hd, h1, h2]
        · have hol := orb_len ts cs e k
          have h1 : (numL (orb ts cs e k) = []) = False := eq_false fun z => by
            have := congrArg List.length z
            simp [numL, hol] at this
            omega
          have h2 : ((itr (stp ts cs) k e : Nat) : Int) = (e : Int) ↔ k = p := by
            constructor
            · intro h
              by_cases hkp : k = p
              · exact hkp
              · exact absurd (by omega) (p4 k (by omega) (by omega))
            · intro h; rw [h, p3]
          generalize rowD (numL (orb ts cs e k)) = Z at hq hd ⊢
          generalize rowD (numL cs) = C
          generalize rowD (numL ts) = T
          simp [hq, hd, h1, h2]
      rw [hcond]
      by_cases hkp : k = p
      · subst hkp
        exact .inl ⟨by simp, _, rfl⟩
      · refine .inr ⟨by simp [hkp], ?_⟩
        have ol := orb_len ts cs e k
        have hx := hlt k
        refine seq_nx fun bb hb => nxR_of (x_app (i := 3) (k := 8) (ds := (numL (orb ts cs e k)).map Dt.int) (d := .int ((itr (stp ts cs) k e : Nat) : Int)) rfl rfl (by simp [numL, ol]; omega) (Nat.zero_le _) (Nat.zero_le _)) ?_
        subst hb
        show nxR (sSeq _ _ [some (rowD (numL ts), 0), some (rowD (numL cs), 0), some (.int (e : Int), 0), some (.lst ((numL (orb ts cs e k)).map Dt.int ++ [.int ((itr (stp ts cs) k e : Nat) : Int)]), 9), some (.int ((itr (stp ts cs) k e : Nat) : Int), 0)]) _
        refine seq_nx fun bb hb => nxR_of (x_app (i := 3) (k := 8) (ds := (numL (orb ts cs e k)).map Dt.int ++ [.int ((itr (stp ts cs) k e : Nat) : Int)]) (d := .int ((jn cs (itr (stp ts cs) k e) : Nat) : Int)) rfl ?_ (by simp [numL, ol]; omega) (Nat.zero_le _) (Nat.zero_le _)) ?_
        · have hj := hjn k
          generalize rowD (numL cs) = C at hj ⊢
          generalize rowD (numL ts) = T
          generalize ((numL (orb ts cs e k)).map Dt.int ++ [.int ((itr (stp ts cs) k e : Nat) : Int)]) = Z
          simp [hj]
        subst hb
        have eo : (Dt.lst ((numL (orb ts cs e k)).map Dt.int ++ [.int ((itr (stp ts cs) k e : Nat) : Int)] ++ [.int ((jn cs (itr (stp ts cs) k e) : Nat) : Int)])) = rowD (numL (orb ts cs e (k + 1))) := by
          rw [orb_succ]
          simp [rowD, numL]
        show nxR (sSet 4 0 [0, 3] _ [some (rowD (numL ts), 0), some (rowD (numL cs), 0), some (.int (e : Int), 0), some (.lst ((numL (orb ts cs e k)).map Dt.int ++ [.int ((itr (stp ts cs) k e : Nat) : Int)] ++ [.int ((jn cs (itr (stp ts cs) k e) : Nat) : Int)]), 9), some (.int ((itr (stp ts cs) k e : Nat) : Int), 0)]) _
        rw [eo]
        have c1 := hlast k
        have c2 := hnt k
        refine nxR_of (r := [some (rowD (numL ts), 0), some (rowD (numL cs), 0), some (.int (e : Int), 0), some (rowD (numL (orb ts cs e (k + 1))), 9), some (.int ((itr (stp ts cs) (k + 1) e : Nat) : Int), 0)]) (by
          generalize rowD (numL (orb ts cs e (k + 1))) = Z at c1 ⊢
          generalize rowD (numL cs) = C
          generalize rowD (numL ts) = T at c2 ⊢
          simp [c1, c2]) ⟨⟨k + 1, by omega, rfl⟩, ?_⟩
        have l2 := orb_len ts cs e (k + 1)
        show 1000 - ((numL (orb ts cs e (k + 1))).map Dt.int).length < 1000 - ((numL (orb ts cs e k)).map Dt.int).length
        simp [numL, ol, l2]
        omega
    · rintro r ⟨o4, rfl⟩
      subst hb
      have := dep_row (numL (orb ts cs e p))
      generalize rowD (numL (orb ts cs e p)) = Z at this ⊢
      generalize rowD (numL cs) = C
      generalize rowD (numL ts) = T
      simp [this]
  exact run_rt rfl key
end Mp

namespace Mp
open Mi PySem
abbrev Kv := List (Sum Int Str × Sw)
def markN (D : Kv) (l : List Nat) : Kv := l.foldl (fun (m : Kv) (x : Nat) => putW m (.inl (x : Int)) (.bl true)) D
theorem put_lenW (D : Kv) (k : Sum Int Str) (v : Sw) : (putW D k v).length ≤ D.length + 1 := by
  unfold putW
  split
  · simp
  · simp
theorem mark_len (l : List Nat) : ∀ D : Kv, (markN D l).length ≤ D.length + l.length := by
  induction l with
  | nil => intro D; exact Nat.le_refl _
  | cons x r ih =>
    intro D
    have h1 := ih (putW D (.inl (x : Int)) (.bl true))
    have h2 := put_lenW D (.inl (x : Int)) (.bl true)
    show (markN (putW D (.inl (x : Int)) (.bl true)) r).length ≤ _
    simp only [List.length_cons]
    omega
def rdS (f : Nat → List Nat) : Nat → List (List Nat) × Kv
  | 0 => ([], [])
  | k + 1 => if (getW (rdS f k).2 (.inl (k : Int))).isSome = true then rdS f k else ((rdS f k).1 ++ [f k], markN (rdS f k).2 (f k))
theorem rdS_len {f : Nat → List Nat} {B : Nat} (hf : ∀ k, (f k).length ≤ B) : ∀ k, (rdS f k).1.length ≤ k ∧ (rdS f k).2.length ≤ k * B
  | 0 => by simp [rdS]
  | k + 1 => by
    obtain ⟨h1, h2⟩ := rdS_len hf k
    have hb := hf k
    have hm := mark_len (f k) (rdS f k).2
    unfold rdS
    split
    · exact ⟨by omega, by rw [Nat.succ_mul]; omega⟩
    · exact ⟨by simp; omega, by show (markN (rdS f k).2 (f k)).length ≤ _; rw [Nat.succ_mul]; omega⟩
def rowsD (R : List (List Nat)) : Dt := .lst (R.map fun l => rowD (numL l))
theorem rows_dep : ∀ R : List (List Nat), Dt.depL (R.map fun l => rowD (numL l)) ≤ 1
  | [] => by simp [Dt.depL]
  | l :: R => by
    have h := rows_dep R
    have := dep_row (numL l)
    simp only [List.map_cons]
    rw [Dt.depL]
    omega
theorem rowsD_dep (R : List (List Nat)) : (rowsD R).dep ≤ 2 := by
  have := rows_dep R
  unfold rowsD
  rw [Dt.dep]
  omega
theorem appF_rows {r : Ro} {i v : Nat} {R : List (List Nat)} {l : List Nat} {lv lx : Nat} {e : EM} (hi : r[i]? = some (some (rowsD R, lv + 1))) (hv : r[v]? = some (some (rowD (numL l), lx))) (hne : v ≠ i) (he : ∀ ρ : Rh, ρ[v]? = some (some (rowD (numL l))) → e ρ = okR (rowD (numL l))) (hz : R.length ≤ 1000) :
    sAppF i [v] e r = okR (.nx (((r.set i (some (rowsD R, 1))).set v (some (rowD (numL l), 0))).set i (some (rowsD (R ++ [l]), 1)))) := by
  have hil : i < r.length := by
    have := (List.getElem?_eq_some_iff.mp hi).1
    exact this
  have hvl : v < r.length := (List.getElem?_eq_some_iff.mp hv).1
  have h1 : low i r = r.set i (some (rowsD R, 1)) := by
    unfold low
    rw [hi]
    rfl
  have h2 : frzAt [v] (r.set i (some (rowsD R, 1))) = (r.set i (some (rowsD R, 1))).set v (some (rowD (numL l), 0)) := by
    show frz1 v _ = _
    unfold frz1
    rw [List.getElem?_set_ne (Ne.symm hne), hv]
  unfold sAppF
  rw [h1, h2]
  have h3 : ((r.set i (some (rowsD R, 1))).set v (some (rowD (numL l), 0)))[i]? = some (some (rowsD R, 1)) := by
    rw [List.getElem?_set_ne hne, List.getElem?_set_self hil]
  rw [h3]
  have h4 : (frz ((r.set i (some (rowsD R, 1))).set v (some (rowD (numL l), 0))))[v]? = some (some (rowD (numL l))) := by
    unfold frz
    rw [List.getElem?_map, List.getElem?_set_self (by simpa using hvl)]
    simp
  show bindR (e _) _ = _
  rw [he _ h4, bindR_ok, if_pos (by simp; omega)]
  congr 5
  simp [rowsD]
end Mp
namespace Mp
open Mi PySem
theorem pairs_marks : ∀ (l : List Nat), pairsD (l.map fun x : Nat => Dt.tup [.int (x : Int), .bl true]) = some (l.map fun x : Nat => ((Sum.inl (x : Int) : Sum Int Str), Sw.bl true))
  | [] => rfl
  | x :: l => by
    simp only [List.map_cons]
    unfold pairsD
    rw [pairs_marks l]
    rfl
theorem fold_marks (l : List Nat) (D : Kv) : (l.map fun x : Nat => ((Sum.inl (x : Int) : Sum Int Str), Sw.bl true)).foldl (fun m p => putW m p.1 p.2) D = markN D l := by
  unfold markN
  rw [List.foldl_map]
end Mp
namespace Mp
open Mi PySem
theorem lrounds_prog {ts cs : List Nat} {n : Nat} (hN : NetN ts (4 * n)) (hn : n ≤ 30) {f : Nat → List Nat} (hf : ∀ k, (f k).length ≤ 8 * n)
    (hr : ∀ e, e < 4 * n → m__law_round [rowD (numL ts), rowD (numL cs), .int (e : Int)] = okR (rowD (numL (f e)))) :
    m__law_rounds [rowD (numL ts), rowD (numL cs)] = okR (rowsD (rdS f (4 * n)).1) := by
  have hlen : lenD [rowD (numL ts)] = some (.int ((4 * n : Nat) : Int)) := by
    show some (Dt.int (((numL ts).map Dt.int).length : Int)) = _
    rw [List.length_map]
    unfold numL
    rw [List.length_map, hN.len]
  have key : b__law_rounds [some (rowD (numL ts), 0), some (rowD (numL cs), 0), none, none, none, none, none] = okR (.rt (rowsD (rdS f (4 * n)).1)) := by
    unfold b__law_rounds
    refine seq_go fun bb hb => nxR_of (r := [some (rowD (numL ts), 0), some (rowD (numL cs), 0), some (.dct [], 1), none, none, none, none]) rfl ?_
    subst hb
    refine seq_go fun bb hb => nxR_of (r := [some (rowD (numL ts), 0), some (rowD (numL cs), 0), some (.dct [], 1), some (.lst [], 9), none, none, none]) (by
      generalize rowD (numL cs) = C
      generalize rowD (numL ts) = T
      simp) ?_
    subst hb
    refine seq_go fun bb hb => ?_
    rw [x_sForR, show iR1 (aCons (eBi lenD (aCons (eV 0) aNil)) aNil) (full [some (rowD (numL ts), 0), some (rowD (numL cs), 0), some (.dct [], 1), some (.lst [], 9), none, none, none]) = okR (nums 0 (4 * n)) from x_iR1 (n := 4 * n) (by
      generalize rowD (numL cs) = C
      generalize rowD (numL ts) = T at hlen ⊢
      simp only [x_aCons, x_aNil, x_eBi, x_eV, x_full_cons, x_full_nil, Option.map_some, Option.map_none, List.getElem?_cons_zero, bindR_ok, hlen, optR_some]) (by omega), bindR_ok]
    refine nx_up (fun k r => ∃ lv o4 o5 o6, (lv = 0 ∨ (lv = 8 ∧ (rdS f k).1 = [])) ∧ r = [some (rowD (numL ts), 0), some (rowD (numL cs), 0), some (.dct (rdS f k).2, 1), some (rowsD (rdS f k).1, lv + 1), o4, o5, o6]) ⟨8, none, none, none, .inr ⟨rfl, rfl⟩, rfl⟩ (fun k hk r hr => ?_) fun r hr => ?_
    · obtain ⟨lv, o4, o5, o6, hlv, rfl⟩ := hr
      obtain ⟨l1, l2⟩ := rdS_len hf k
      have hfk := hf k
      show nxR (sIf _ _ _ [some (rowD (numL ts), 0), some (rowD (numL cs), 0), some (.dct (rdS f k).2, 1), some (rowsD (rdS f k).1, lv + 1), some (.int (k : Int), 0), o5, o6]) _
      have hrk := hr k hk
      have hcond : (tB (eB (dinD true) (eV 4) (eV 2))) (full [some (rowD (numL ts), 0), some (rowD (numL cs), 0), some (.dct (rdS f k).2, 1), some (rowsD (rdS f k).1, lv + 1), some (.int (k : Int), 0), o5, o6]) = okR (!(getW (rdS f k).2 (.inl (k : Int))).isSome) := rfl
      unfold sIf
      rw [hcond, bindR_ok]
      by_cases hg : (getW (rdS f k).2 (.inl (k : Int))).isSome = true
      · rw [hg]
        have e1 : rdS f (k + 1) = rdS f k := by rw [rdS, if_pos hg]
        refine nxR_of (r := [some (rowD (numL ts), 0), some (rowD (numL cs), 0), some (.dct (rdS f k).2, 1), some (rowsD (rdS f k).1, lv + 1), some (.int (k : Int), 0), o5, o6]) rfl ⟨lv, _, _, _, ?_, by rw [e1]⟩
        rw [e1]; exact hlv
      · have hg' : (getW (rdS f k).2 (.inl (k : Int))).isSome = false := by simpa using hg
        have e1 : rdS f (k + 1) = ((rdS f k).1 ++ [f k], markN (rdS f k).2 (f k)) := by rw [rdS, if_neg hg]
        rw [hg']
        rw [if_pos (by rfl)]
        have hdl := dep_row (numL (f k))
        have h8 : (rdS f k).2.length ≤ 120 * 240 := Nat.le_trans l2 (Nat.mul_le_mul (by omega) (by omega))
        refine seq_nx fun bb hb => nxR_of (r := [some (rowD (numL ts), 0), some (rowD (numL cs), 0), some (.dct (rdS f k).2, 1), some (rowsD (rdS f k).1, lv + 1), some (.int (k : Int), 0), some (rowD (numL (f k)), 9), o6]) (by
          generalize rowD (numL (f k)) = Z at hrk hdl ⊢
          generalize rowD (numL cs) = C at hrk ⊢
          generalize rowD (numL ts) = T at hrk ⊢
          generalize rowsD (rdS f k).1 = RR
          generalize Dt.dct (rdS f k).2 = DD
          simp [hrk, hdl]) ?_
        subst hb
        have hfor : nxR (sFor [5] (iSq (eV 5)) (.one 6) (sDput 2 (eV 6) (eC (.bl true))) [some (rowD (numL ts), 0), some (rowD (numL cs), 0), some (.dct (rdS f k).2, 1), some (rowsD (rdS f k).1, lv + 1), some (.int (k : Int), 0), some (rowD (numL (f k)), 9), o6]) (fun r => ∃ o6, r = [some (rowD (numL ts), 0), some (rowD (numL cs), 0), some (.dct (markN (rdS f k).2 (f k)), 1), some (rowsD (rdS f k).1, lv + 1), some (.int (k : Int), 0), some (rowD (numL (f k)), 0), o6]) := by
          rw [x_sFor]
          show nxR (bindR (okR ((numL (f k)).map Dt.int)) fun ds => forGo (.one 6) (sDput 2 (eV 6) (eC (.bl true))) ds [some (rowD (numL ts), 0), some (rowD (numL cs), 0), some (.dct (rdS f k).2, 1), some (rowsD (rdS f k).1, lv + 1), some (.int (k : Int), 0), some (rowD (numL (f k)), 0), o6]) _
          rw [bindR_ok, show (numL (f k)).map Dt.int = (f k).map fun x : Nat => Dt.int (x : Int) by unfold numL; rw [List.map_map]; rfl]
          refine nx_each (fun x : Nat => Dt.int (x : Int)) (f k) (fun j r => ∃ o6, r = [some (rowD (numL ts), 0), some (rowD (numL cs), 0), some (.dct (markN (rdS f k).2 ((f k).take j)), 1), some (rowsD (rdS f k).1, lv + 1), some (.int (k : Int), 0), some (rowD (numL (f k)), 0), o6]) ⟨o6, rfl⟩ (fun j x hx r hr => ?_) fun r hr => ?_
          · obtain ⟨o6, rfl⟩ := hr
            have hjl : j < (f k).length := (List.getElem?_eq_some_iff.mp hx).1
            have hxe : (f k)[j] = x := (List.getElem?_eq_some_iff.mp hx).2
            have e2 : markN (rdS f k).2 ((f k).take (j + 1)) = putW (markN (rdS f k).2 ((f k).take j)) (.inl (x : Int)) (.bl true) := by
              rw [List.take_succ_eq_append_getElem hjl, hxe]
              unfold markN
              rw [List.foldl_append]
              rfl
            have hml := mark_len ((f k).take j) (rdS f k).2
            have htl : ((f k).take j).length ≤ (f k).length := by rw [List.length_take]; omega
            refine nxR_of (r := [some (rowD (numL ts), 0), some (rowD (numL cs), 0), some (.dct (markN (rdS f k).2 ((f k).take (j + 1))), 1), some (rowsD (rdS f k).1, lv + 1), some (.int (k : Int), 0), some (rowD (numL (f k)), 0), some (.int (x : Int), 0)]) ?_ ⟨_, rfl⟩
            rw [e2]
            show (@ite _ ((markN (rdS f k).2 ((f k).take j)).length ≤ 100000) (Classical.propDecidable _) _ _ : R Out) = _
            rw [if_pos (by omega)]
            rfl
          · obtain ⟨o6, rfl⟩ := hr
            exact ⟨o6, by rw [List.take_length]⟩
        refine seq_nx fun bb hb => ?_
        obtain ⟨r', g1, o6', rfl⟩ := nxR_iff hfor
        refine nxR_of g1 ?_
        subst hb
        refine nxR_of (appF_rows (i := 3) (v := 5) (R := (rdS f k).1) (l := f k) (lv := lv) (lx := 0) rfl rfl (by decide) (fun ρ hρ => by show (match ρ[5]? with | some (some d) => okR d | _ => none) = _; rw [hρ]) (by omega)) ⟨0, some (.int (k : Int), 0), some (rowD (numL (f k)), 0), o6', .inl rfl, ?_⟩
        rw [e1]
        rfl
    · obtain ⟨lv, o4, o5, o6, hlv, rfl⟩ := hr
      subst hb
      rcases hlv with rfl | ⟨rfl, he⟩
      · generalize rowsD (rdS f (4 * n)).1 = RR
        generalize rowD (numL cs) = C
        generalize rowD (numL ts) = T
        simp
      · rw [he]
        show sRetV 1 3 [some (rowD (numL ts), 0), some (rowD (numL cs), 0), some (.dct (rdS f (4 * n)).2, 1), some (.lst [], 9), o4, o5, o6] = okR (.rt (.lst []))
        generalize rowD (numL cs) = C
        generalize rowD (numL ts) = T
        simp
  exact run_rt rfl key
end Mp

namespace Mp
open Mi PySem
end Mp

namespace Mp
open Mi PySem
end Mp

namespace Mp
open Mi PySem
end Mp

namespace Mp
open Mi PySem
def base2 (n : Nat) : List Nat := (List.range (2 * n)).map (· / 2)
theorem base2_succ (n : Nat) : base2 (n + 1) = base2 n ++ [n, n] := by
  unfold base2
  rw [show 2 * (n + 1) = 2 * n + 1 + 1 by omega, List.range_succ, List.range_succ, List.map_append, List.map_append]
  have h1 : 2 * n / 2 = n := by omega
  have h2 : (2 * n + 1) / 2 = n := by omega
  simp [h1, h2]
theorem base2_count : ∀ n v, (base2 n).count v = if v < n then 2 else 0
  | 0, v => by simp [base2]
  | n + 1, v => by
    rw [base2_succ, List.count_append, base2_count n v]
    by_cases h : v = n
    · subst h; simp
    · have : [n, n].count v = 0 := List.count_eq_zero.mpr (by simp [h])
      rw [this]
      by_cases h2 : v < n
      · rw [if_pos h2, if_pos (by omega)]
      · rw [if_neg h2, if_neg (by omega)]
structure Twice (n : Nat) (row : List Nat) : Prop where
  len : row.length = 2 * n
  cnt : ∀ v, row.count v = if v < n then 2 else 0
theorem twice_of {n : Nat} {row : List Nat} (h : row.Perm (base2 n)) : Twice n row :=
  ⟨by rw [h.length_eq]; simp [base2], fun v => by rw [h.count_eq, base2_count]⟩
section
variable {n : Nat} {row : List Nat} (t : Twice n row)
include t
theorem Twice.mem (v : Nat) : v ∈ row ↔ v < n := by
  rw [← List.count_pos_iff, t.cnt v]
  split <;> omega
theorem Twice.le1 {a : Nat} (h : a < row.length) : (row.take a).count (row.getD a 0) ≤ 1 := by
  have h1 := t.cnt (row.getD a 0)
  have hg : row.getD a 0 = row[a] := by rw [List.getD_eq_getElem?_getD, List.getElem?_eq_getElem h]; rfl
  have h2 : row.count (row.getD a 0) = (row.take a).count (row.getD a 0) + (row.drop a).count (row.getD a 0) := by
    rw [← List.count_append, List.take_append_drop]
  rw [List.drop_eq_getElem_cons h, hg, List.count_cons_self] at h2
  rw [hg] at h1 ⊢
  split at h1 <;> omega
end
end Mp

namespace Mp
open Mi PySem
def dot : List Int → List Int → Int
  | a :: r, b :: x => a * b + dot r x
  | _, _ => 0
def Ker (A : List (List Int)) (x : List Int) : Prop := ∀ r ∈ A, dot r x % 2 = 0
def ent (A : List (List Int)) (i k : Nat) : Int := (A.getD i []).getD k 0
theorem getD_mem {α : Type} {l : List α} {d : α} {i : Nat} (h : i < l.length) : l.getD i d ∈ l := by
  rw [List.getD_eq_getElem?_getD, List.getElem?_eq_getElem h]; simp
theorem mem_getD {α : Type} {l : List α} {d x : α} (h : x ∈ l) : ∃ i, i < l.length ∧ l.getD i d = x := by
  obtain ⟨i, hi, rfl⟩ := List.mem_iff_getElem.mp h
  exact ⟨i, hi, by simp [List.getD_eq_getElem?_getD, List.getElem?_eq_getElem hi]⟩
section
variable {A : List (List Int)} {c t m : Nat} (hm : ∀ r ∈ A, RowN m r) (ht : t < A.length) (hc : c ≤ t) (hl : ent A t c = 1) (hcm : c < m)
include hm ht in
include hm ht hc in
include ht hc in
include hm ht hc in
end
def UnitC (A : List (List Int)) (c : Nat) : Prop := ∀ i k, i < A.length → k < c → ent A i k = if i = k then 1 else 0
structure Rk (n : Nat) (T A : List (List Int)) (p q : Nat) : Prop where
  rows : ∀ r ∈ A, RowN n r
  zero : ∀ r ∈ A, ∀ k, k < p → r.getD k 0 = 0
  le : q ≤ p
  all : q = p → ∀ x, RowN n x → Ker T x → Ker A x ∧ ((∀ j, p ≤ j → x.getD j 0 = 0) → ∀ j, x.getD j 0 = 0)
  some : q < p → ∃ x, RowN n x ∧ Ker T x ∧ ∃ j, j < n ∧ x.getD j 0 = 1
  lift : ∀ x, RowN n x → Ker A x → ∃ y, RowN n y ∧ Ker T y ∧ ∀ j, p ≤ j → y.getD j 0 = x.getD j 0
end Mp

namespace Mp
open Mi PySem
end Mp

namespace Mp
open Mi PySem
def unitR (n i : Nat) : List Int := (List.range n).map fun j => if j = i then 1 else 0
def aug (n : Nat) (T : List (List Int)) : List (List Int) := (List.range n).map fun i => T.getD i [] ++ unitR n i
structure Un (n : Nat) (T A : List (List Int)) (c : Nat) : Prop where
  len : A.length = n
  rows : ∀ r ∈ A, RowN (n + n) r
  unit : UnitC A c
  ker : ∀ x, (∀ y ∈ x, Bit y) → (Ker A x ↔ Ker (aug n T) x)
end Mp

namespace Mp
open Mi PySem
def eiR (x : R Out) (P : Ro → Prop) (Q : Dt → Prop) : Prop := (∃ r, x = okR (.nx r) ∧ P r) ∨ ∃ d, x = okR (.rt d) ∧ Q d
theorem ei_nx {x : R Out} {P : Ro → Prop} {Q : Dt → Prop} (h : nxR x P) : eiR x P Q := .inl (nxR_iff h)
theorem seq_ei {a b : SM} {r : Ro} {P P' : Ro → Prop} {Q : Dt → Prop} (h : eiR (a r) P Q) (hb : ∀ r', P r' → eiR (b r') P' Q) : eiR (sSeq a b r) P' Q := by
  unfold sSeq
  rcases h with ⟨r', e, h'⟩ | ⟨d, e, hq⟩
  · rw [e, bindR_ok]; exact hb r' h'
  · rw [e, bindR_ok]; exact .inr ⟨d, rfl, hq⟩
end Mp

namespace Mp
open Mi PySem
theorem eraseB {α β : Type} (f : α → β) : ∀ (l : List α) (i : Nat), (l.map f).eraseIdx i = (l.eraseIdx i).map f
  | [], _ => rfl
  | a :: r, 0 => rfl
  | a :: r, i + 1 => by simp [eraseB f r i]
theorem perm_pick {α : Type} : ∀ (l : List α) {i : Nat} (h : i < l.length), l.Perm (l[i] :: l.eraseIdx i)
  | a :: r, 0, _ => List.Perm.refl _
  | a :: r, i + 1, h => by
    have := perm_pick r (i := i) (by simpa using h)
    exact (this.cons a).trans (List.Perm.swap _ _ _)
end Mp

namespace Mp
open Mi PySem
theorem str_eq {z : Str} {l : List Nat} (h : z.cps.toList = l) : z = ⟨l.toArray⟩ := by
  cases z with
  | mk a => subst h; simp
theorem add_str {a b : List Nat} (h : a.length + b.length ≤ 1000) : addD (.str ⟨a.toArray⟩) (.str ⟨b.toArray⟩) = some (.str ⟨(a ++ b).toArray⟩) := by
  rw [v_addS, if_pos (by rw [len_mk, len_mk]; omega)]
  congr 2
  exact str_eq (by rw [str_app])
end Mp

namespace Mp
open Mi PySem
theorem toNet {ns : List Int} {M : Nat} (h : FW.NetL ns M) : ∃ ts : List Nat, numL ts = ns ∧ NetN ts M := by
  have key : ∀ i, i < M → ∃ j : Nat, j < M ∧ ns[i]? = some (j : Int) ∧ ns[j]? = some (i : Int) := fun i hi => by
    obtain ⟨j, h1, _, h2, h3⟩ := h.tie i hi
    exact ⟨j, h1, h2, h3⟩
  have hnt : ∀ (i j : Nat), ns[i]? = some (j : Int) → nt (ns.map Int.toNat) i = j := fun i j h1 => by
    unfold nt
    rw [List.getD_eq_getElem?_getD, List.getElem?_map, h1]
    rfl
  refine ⟨ns.map Int.toNat, ?_, ⟨by simp [h.len], fun i hi => ?_, fun i hi => ?_⟩⟩
  · unfold numL
    rw [List.map_map]
    refine Eq.trans (List.map_congr_left fun x hx => ?_) (List.map_id ns)
    obtain ⟨i, hi, e⟩ := List.getElem_of_mem hx
    obtain ⟨j, _, h2, _⟩ := key i (by rw [← h.len]; exact hi)
    rw [List.getElem?_eq_getElem hi, e] at h2
    simp at h2
    rw [h2]
    rfl
  · obtain ⟨j, h1, h2, _⟩ := key i hi
    rw [hnt i j h2]; exact h1
  · obtain ⟨j, h1, h2, h3⟩ := key i hi
    rw [hnt i j h2, hnt j i h3]
end Mp

namespace Mp
open Mi PySem
structure Seats (R : List (List Nat)) (n : Nat) : Prop where
  len : R.length = n
  per : ∀ l ∈ R, l.Perm [0, 1, 2, 3]
end Mp

namespace Mp
open Mi PySem
theorem seat_facts {l : List Nat} (h : l.Perm [0, 1, 2, 3]) : l.length = 4 ∧ (∀ i, i < 4 → l.getD i 0 < 4) ∧ (∀ i j, i < 4 → j < 4 → l.getD i 0 = l.getD j 0 → i = j) ∧ ∀ s, s < 4 → ∃ i, i < 4 ∧ l.getD i 0 = s := by
  have hl : l.length = 4 := h.length_eq
  have hn : l.Nodup := h.nodup_iff.mpr (by decide)
  have hg : ∀ i (hi : i < l.length), l.getD i 0 = l[i] := fun i hi => by rw [List.getD_eq_getElem?_getD, List.getElem?_eq_getElem hi]; rfl
  refine ⟨hl, fun i hi => ?_, fun i j hi hj e => ?_, fun s hs => ?_⟩
  · rw [hg i (by omega)]
    have : l[i]'(by omega) ∈ [0, 1, 2, 3] := h.mem_iff.mp (List.getElem_mem _)
    simp at this
    omega
  · rw [hg i (by omega), hg j (by omega)] at e
    have hp := List.pairwise_iff_getElem.mp hn
    rcases Nat.lt_trichotomy i j with z | z | z
    · exact absurd e (hp i j (by omega) (by omega) z)
    · exact z
    · exact absurd e.symm (hp j i (by omega) (by omega) z)
  · have : s ∈ l := h.mem_iff.mpr (by simp; omega)
    obtain ⟨i, hi, e⟩ := List.getElem_of_mem this
    exact ⟨i, by omega, by rw [hg i hi, e]⟩
def atN (row : List Nat) (k : Nat) : Nat := if row.getD k 0 ∈ row.take k then 2 else 0
def SE (R : List (List Nat)) (p i : Nat) : Nat := 4 * p + (R.getD p []).getD i 0
def inE (R : List (List Nat)) (row : List Nat) (k : Nat) : Nat := SE R (row.getD k 0) (atN row k)
def ouE (R : List (List Nat)) (row : List Nat) (k : Nat) : Nat := SE R (row.getD k 0) (atN row k + 1)
def prv (N k : Nat) : Nat := if k = 0 then N - 1 else k - 1
theorem atN_lt (row : List Nat) (k : Nat) : atN row k = 0 ∨ atN row k = 2 := by unfold atN; split <;> simp
section
variable {R : List (List Nat)} {row : List Nat} {n : Nat} (hS : Seats R n) (tw : Twice n row)
include hS
theorem seat_of {p : Nat} (hp : p < n) : (R.getD p []).Perm [0, 1, 2, 3] := by
  have := hS.len
  rw [List.getD_eq_getElem?_getD, List.getElem?_eq_getElem (by omega)]
  exact hS.per _ (List.getElem_mem _)
theorem SE_lt {p i : Nat} (hp : p < n) (hi : i < 4) : SE R p i < 4 * n := by
  have := (seat_facts (seat_of hS hp)).2.1 i hi
  unfold SE
  omega
theorem SE_inj {p p' i i' : Nat} (hp : p < n) (hp' : p' < n) (hi : i < 4) (hi' : i' < 4) (e : SE R p i = SE R p' i') : p = p' ∧ i = i' := by
  have h1 := (seat_facts (seat_of hS hp)).2.1 i hi
  have h2 := (seat_facts (seat_of hS hp')).2.1 i' hi'
  unfold SE at e
  have : p = p' := by omega
  subst this
  exact ⟨rfl, (seat_facts (seat_of hS hp)).2.2.1 i i' hi hi' (by omega)⟩
include tw
omit hS in
theorem row_lt {k : Nat} (hk : k < 2 * n) : row.getD k 0 < n := by
  have := tw.len
  refine (tw.mem _).mp ?_
  rw [List.getD_eq_getElem?_getD, List.getElem?_eq_getElem (by omega)]
  exact List.getElem_mem _
omit hS in
theorem at_ne {k k' : Nat} (h : k < k') (hk' : k' < 2 * n) (e : row.getD k 0 = row.getD k' 0) : atN row k ≠ atN row k' := by
  have hl := tw.len
  have hg : row.getD k 0 = row[k]'(by omega) := by rw [List.getD_eq_getElem?_getD, List.getElem?_eq_getElem (by omega)]; rfl
  have h2 : row.getD k' 0 ∈ row.take k' := by
    rw [← e, hg]
    exact List.mem_take_iff_getElem.mpr ⟨k, by omega, rfl⟩
  have e2 : atN row k' = 2 := if_pos h2
  intro h3
  have h4 : row.getD k 0 ∈ row.take k := by
    rw [e2] at h3
    unfold atN at h3
    split at h3
    · assumption
    · omega
  have h5 := tw.le1 (a := k') (by omega)
  rw [← e] at h5
  have h6 : (row.take (k + 1)).count (row.getD k 0) ≤ (row.take k').count (row.getD k 0) := by
    refine List.Sublist.count_le _ ?_
    rw [show row.take (k + 1) = (row.take k').take (k + 1) by rw [List.take_take]; congr 1; omega]
    exact List.take_sublist _ _
  rw [List.take_succ_eq_append_getElem (show k < row.length by omega), List.count_append, ← hg] at h6
  have h7 : 0 < (row.take k).count (row.getD k 0) := List.count_pos_iff.mpr h4
  simp at h6
  simp only [List.getD_eq_getElem?_getD] at h5 h7
  omega
omit hS in
theorem at_inj {j k : Nat} (hj : j < 2 * n) (hk : k < 2 * n) (e : row.getD j 0 = row.getD k 0) (e2 : atN row j = atN row k) : j = k := by
  rcases Nat.lt_trichotomy j k with z | z | z
  · exact absurd e2 (at_ne tw z hk e)
  · exact z
  · exact absurd e2.symm (at_ne tw z hj e.symm)
theorem inE_lt {k : Nat} (hk : k < 2 * n) : inE R row k < 4 * n := SE_lt hS (row_lt tw hk) (by rcases atN_lt row k with h | h <;> omega)
theorem ouE_lt {k : Nat} (hk : k < 2 * n) : ouE R row k < 4 * n := SE_lt hS (row_lt tw hk) (by rcases atN_lt row k with h | h <;> omega)
theorem inE_inj {j k : Nat} (hj : j < 2 * n) (hk : k < 2 * n) (e : inE R row j = inE R row k) : j = k := by
  obtain ⟨h1, h2⟩ := SE_inj hS (row_lt tw hj) (row_lt tw hk) (by rcases atN_lt row j with h | h <;> omega) (by rcases atN_lt row k with h | h <;> omega) e
  exact at_inj tw hj hk h1 h2
theorem ouE_inj {j k : Nat} (hj : j < 2 * n) (hk : k < 2 * n) (e : ouE R row j = ouE R row k) : j = k := by
  obtain ⟨h1, h2⟩ := SE_inj hS (row_lt tw hj) (row_lt tw hk) (by rcases atN_lt row j with h | h <;> omega) (by rcases atN_lt row k with h | h <;> omega) e
  exact at_inj tw hj hk h1 (by omega)
theorem in_ne_ou {j k : Nat} (hj : j < 2 * n) (hk : k < 2 * n) : inE R row j ≠ ouE R row k := fun e => by
  obtain ⟨h1, h2⟩ := SE_inj hS (row_lt tw hj) (row_lt tw hk) (by rcases atN_lt row j with h | h <;> omega) (by rcases atN_lt row k with h | h <;> omega) e
  rcases atN_lt row j with h | h <;> rcases atN_lt row k with h' | h' <;> omega
omit hS in
theorem find_at {p : Nat} (hp : p < n) : (∃ k, k < 2 * n ∧ row.getD k 0 = p ∧ atN row k = 0) ∧ ∃ k, k < 2 * n ∧ row.getD k 0 = p ∧ atN row k = 2 := by
  have hl := tw.len
  have hm : p ∈ row := (tw.mem p).mpr hp
  have hi : row.idxOf p < row.length := List.idxOf_lt_length_of_mem hm
  have hg : row[row.idxOf p] = p := List.getElem_idxOf hi
  have hgd : row.getD (row.idxOf p) 0 = p := by rw [List.getD_eq_getElem?_getD, List.getElem?_eq_getElem hi, hg]; rfl
  have hnt : p ∉ row.take (row.idxOf p) := fun h => by
    obtain ⟨j, hj, e⟩ := List.mem_take_iff_getElem.mp h
    have : row.idxOf p ≤ j := by
      by_cases z : j < row.idxOf p
      · have := List.not_of_lt_findIdx (p := fun x => x == p) (xs := row) (i := j) z
        simp at this
        exact absurd e this
      · omega
    omega
  refine ⟨⟨row.idxOf p, by omega, hgd, by unfold atN; rw [hgd, if_neg hnt]⟩, ?_⟩
  have hc := tw.cnt p
  rw [if_pos hp, ← List.take_append_drop (row.idxOf p + 1) row, List.count_append] at hc
  rw [List.take_succ_eq_append_getElem hi, List.count_append, hg, List.count_eq_zero.mpr hnt] at hc
  simp at hc
  have h1 : p ∈ row.drop (row.idxOf p + 1) := List.count_pos_iff.mp (by omega)
  obtain ⟨i, hi2, e⟩ := List.getElem_of_mem h1
  rw [List.getElem_drop] at e
  simp at hi2
  have hgd2 : row.getD (row.idxOf p + 1 + i) 0 = p := by rw [List.getD_eq_getElem?_getD, List.getElem?_eq_getElem (by omega), e]; rfl
  refine ⟨row.idxOf p + 1 + i, by omega, hgd2, ?_⟩
  unfold atN
  rw [hgd2, if_pos]
  exact List.mem_take_iff_getElem.mpr ⟨row.idxOf p, by omega, hg⟩
def Tied (R : List (List Nat)) (row : List Nat) (n k : Nat) (ms : List Int) : Prop := ms.length = 4 * n ∧ ∀ j, j < k → ms[ouE R row (prv (2 * n) j)]? = some ((inE R row j : Nat) : Int) ∧ ms[inE R row j]? = some ((ouE R row (prv (2 * n) j) : Nat) : Int)
omit hS tw in
theorem prv_lt {N k : Nat} (h : k < N) : prv N k < N := by unfold prv; split <;> omega
omit hS tw in
theorem prv_inj {N j k : Nat} (hj : j < N) (hk : k < N) (e : prv N j = prv N k) : j = k := by unfold prv at e; split at e <;> split at e <;> omega
theorem tied_step {k : Nat} {ms : List Int} (hk : k < 2 * n) (h : Tied R row n k ms) : Tied R row n (k + 1) ((ms.set (ouE R row (prv (2 * n) k)) ((inE R row k : Nat) : Int)).set (inE R row k) ((ouE R row (prv (2 * n) k) : Nat) : Int)) := by
  obtain ⟨h1, h2⟩ := h
  have hpk := prv_lt hk
  have a1 := inE_lt hS tw hk
  have a2 := ouE_lt hS tw hpk
  have ne := in_ne_ou hS tw hk hpk
  refine ⟨by simp [h1], fun j hj => ?_⟩
  by_cases z : j = k
  · subst z
    rw [List.getElem?_set_ne ne, List.getElem?_set_self (by omega), List.getElem?_set_self (by simp; omega)]
    exact ⟨rfl, rfl⟩
  · have hjk : j < k := by omega
    have hpj := prv_lt (show j < 2 * n by omega)
    obtain ⟨g1, g2⟩ := h2 j hjk
    rw [List.getElem?_set_ne (in_ne_ou hS tw hk hpj), List.getElem?_set_ne (fun e => z (prv_inj (by omega) hk (ouE_inj hS tw hpj hpk e.symm))), g1,
      List.getElem?_set_ne (fun e => z (inE_inj hS tw (by omega) hk e.symm)), List.getElem?_set_ne (fun e => in_ne_ou hS tw (show j < 2 * n by omega) hpk e.symm), g2]
    exact ⟨rfl, rfl⟩
theorem tied_net {ms : List Int} (h : Tied R row n (2 * n) ms) : FW.NetL ms (4 * n) := by
  obtain ⟨h1, h2⟩ := h
  refine ⟨h1, fun i hi => ?_⟩
  have hp : i / 4 < n := by omega
  obtain ⟨j, hj, ej⟩ := (seat_facts (seat_of hS hp)).2.2.2 (i % 4) (by omega)
  have hiS : i = SE R (i / 4) j := by unfold SE; omega
  obtain ⟨⟨k0, b0, c0, d0⟩, k2, b2, c2, d2⟩ := find_at tw hp
  have key : ∃ k, k < 2 * n ∧ (i = inE R row k ∨ i = ouE R row k) := by
    rcases (show j = 0 ∨ j = 1 ∨ j = 2 ∨ j = 3 by omega) with z | z | z | z
    · exact ⟨k0, b0, .inl (by unfold inE; rw [c0, d0]; subst z; exact hiS)⟩
    · exact ⟨k0, b0, .inr (by unfold ouE; rw [c0, d0]; subst z; exact hiS)⟩
    · exact ⟨k2, b2, .inl (by unfold inE; rw [c2, d2]; subst z; exact hiS)⟩
    · exact ⟨k2, b2, .inr (by unfold ouE; rw [c2, d2]; subst z; exact hiS)⟩
  obtain ⟨k, hk, e | e⟩ := key
  · obtain ⟨g1, g2⟩ := h2 k hk
    refine ⟨ouE R row (prv (2 * n) k), ouE_lt hS tw (prv_lt hk), fun z => in_ne_ou hS tw hk (prv_lt hk) (by rw [z, e]), by rw [e]; exact g2, by rw [e]; exact g1⟩
  · obtain ⟨q, hq, eq⟩ : ∃ q, q < 2 * n ∧ prv (2 * n) q = k := by
      by_cases z : k + 1 = 2 * n
      · exact ⟨0, by omega, by unfold prv; simp; omega⟩
      · exact ⟨k + 1, by omega, by unfold prv; simp⟩
    obtain ⟨g1, g2⟩ := h2 q hq
    rw [eq] at g1 g2
    exact ⟨inE R row q, inE_lt hS tw hq, fun z => in_ne_ou hS tw hq hk (by rw [z, e]), by rw [e]; exact g1, by rw [e]; exact g2⟩
end
end Mp

namespace Mp
open Mi PySem
theorem getW_put (D : Kv) (k q : Sum Int Str) (v : Sw) : getW (putW D k v) q = if q = k then some v else getW D q := by
  unfold putW getW
  by_cases h : (D.any fun p => decide (p.1 = k)) = true
  · rw [if_pos h, List.find?_map]
    have e : ((fun p : Sum Int Str × Sw => decide (p.1 = q)) ∘ fun p => if p.1 = k then (p.1, v) else p) = fun p : Sum Int Str × Sw => decide (p.1 = q) := by
      funext p
      show decide ((if p.1 = k then (p.1, v) else p).1 = q) = decide (p.1 = q)
      split <;> rfl
    rw [e]
    cases hf : D.find? fun p : Sum Int Str × Sw => decide (p.1 = q) with
    | none =>
      have hq : ¬ q = k := fun z => by
        subst z
        obtain ⟨x, hx, hd⟩ := List.any_eq_true.mp h
        have := List.find?_eq_none.mp hf x hx
        exact this hd
      rw [if_neg hq]
      rfl
    | some x =>
      have hx : x.1 = q := by have := List.find?_some hf; simpa using this
      by_cases hq : q = k
      · rw [if_pos hq]
        simp [hx, hq]
      · rw [if_neg hq]
        simp [hx, hq]
  · rw [if_neg h, List.find?_append]
    have hn : ∀ x ∈ D, ¬ x.1 = k := fun x hx e => h (List.any_eq_true.mpr ⟨x, hx, by simpa using e⟩)
    by_cases hq : q = k
    · subst hq
      have : (D.find? fun p : Sum Int Str × Sw => decide (p.1 = q)) = none := List.find?_eq_none.mpr fun x hx => by simpa using hn x hx
      rw [this, if_pos rfl]
      simp
    · have hk : ¬ k = q := fun z => hq z.symm
      rw [if_neg hq]
      cases D.find? fun p : Sum Int Str × Sw => decide (p.1 = q) with
      | none => simp [hk]
      | some x => simp
def stoodT (l : List Nat) : Kv := l.foldl (fun (m : Kv) (x : Nat) => putW m (.inl (x : Int)) (.int 2)) []
theorem stood_snoc (l : List Nat) (x : Nat) : stoodT (l ++ [x]) = putW (stoodT l) (.inl (x : Int)) (.int 2) := by unfold stoodT; rw [List.foldl_append]; rfl
theorem snoc_ind {α : Type} {P : List α → Prop} (h0 : P []) (hs : ∀ l x, P l → P (l ++ [x])) (l : List α) : P l := by
  have key : ∀ m : List α, P m.reverse := fun m => by
    induction m with
    | nil => exact h0
    | cons a m ih => rw [List.reverse_cons]; exact hs _ _ ih
  have := key l.reverse
  rwa [List.reverse_reverse] at this
theorem stood_get (q : Nat) (l : List Nat) : getW (stoodT l) (.inl (q : Int)) = if q ∈ l then some (.int 2) else none := by
  refine snoc_ind (P := fun l => getW (stoodT l) (.inl (q : Int)) = if q ∈ l then some (.int 2) else none) (by simp [stoodT, getW]) (fun l x ih => ?_) l
  rw [stood_snoc, getW_put, ih]
  by_cases hx : q = x
  · subst hx
    simp
  · have : ¬ (Sum.inl (q : Int) : Sum Int Str) = .inl (x : Int) := fun e => hx (by injection e with e; omega)
    rw [if_neg this]
    simp [hx]
theorem stood_len (l : List Nat) : (stoodT l).length ≤ l.length := by
  refine snoc_ind (P := fun l => (stoodT l).length ≤ l.length) (by simp [stoodT]) (fun l x ih => ?_) l
  rw [stood_snoc]
  have := put_lenW (stoodT l) (.inl (x : Int)) (.int 2)
  simp
  omega
def insT (row : List Nat) (k : Nat) : Dt := .tup [.int ((row.getD k 0 : Nat) : Int), .int ((atN row k : Nat) : Int)]
def insL (row : List Nat) (k : Nat) : Dt := .lst ((List.range k).map (insT row))
theorem ins_ix {row : List Nat} {N k : Nat} (hk : k < N) : ixD (insL row N) (.int (k : Int)) = some (insT row k) := by
  refine itA_of (j := k) rfl ?_
  rw [List.getElem?_map, List.getElem?_range hk]
  rfl
theorem ins_prv {row : List Nat} {N k : Nat} (hk : k < N) : ixD (insL row N) (.int ((k : Int) - 1)) = some (insT row (prv N k)) := by
  by_cases z : k = 0
  · subst z
    have hq : ixA ((List.range N).map (insT row)).length (((0 : Nat) : Int) - 1) = some (N - 1) := by
      rw [List.length_map, List.length_range]
      unfold ixA
      simp
      omega
    show itA ((List.range N).map (insT row)) (((0 : Nat) : Int) - 1) = _
    unfold itA
    rw [hq]
    show ((List.range N).map (insT row))[N - 1]? = _
    rw [List.getElem?_map, List.getElem?_range (by omega)]
    rfl
  · rw [show (k : Int) - 1 = ((k - 1 : Nat) : Int) by omega, ins_ix (by omega)]
    unfold prv
    rw [if_neg z]
theorem rows_ix {R : List (List Nat)} {p : Nat} (hp : p < R.length) : ixD (rowsD R) (.int (p : Int)) = some (rowD (numL (R.getD p []))) := by
  refine itA_of (j := p) rfl ?_
  rw [List.getElem?_map, List.getD_eq_getElem?_getD, List.getElem?_eq_getElem hp]
  rfl
theorem ins_loop {row : List Nat} {RR N : Dt} (hz : row.length ≤ 100) (hR : RR.dep ≤ 1000) :
    nxR (sFor [0] (iSq (eV 0)) (.one 5) (sSeq (sApp 3 1 (eTup (aCons (eV 5) (aCons (eDGet (eV 4) (eV 5) (eC (.int 0))) aNil)))) (sDput 4 (eV 5) (eC (.int 2)))) [some (rowD (numL row), 0), some (RR, 0), some (N, 1), some (.lst [], 9), some (.dct [], 1), none, none, none, none, none, none, none])
      (fun r => ∃ o4 o5, r = [some (rowD (numL row), 0), some (RR, 0), some (N, 1), some (insL row row.length, 9), o4, o5, none, none, none, none, none, none]) := by
  have hi : iSq (eV 0) (frz (frzAt [0] [some (rowD (numL row), 0), some (RR, 0), some (N, 1), some (.lst [], 9), some (.dct [], 1), none, none, none, none, none, none, none])) = okR (row.map fun m : Nat => Dt.int (m : Int)) := by
    show okR ((numL row).map Dt.int) = _
    unfold numL
    rw [List.map_map]
    rfl
  rw [x_sFor, hi, bindR_ok]
  show nxR (forGo (.one 5) _ _ [some (rowD (numL row), 0), some (RR, 0), some (N, 1), some (.lst [], 9), some (.dct [], 1), none, none, none, none, none, none, none]) _
  refine nx_each (fun m : Nat => Dt.int (m : Int)) row (fun j r => ∃ o5, r = [some (rowD (numL row), 0), some (RR, 0), some (N, 1), some (insL row j, 9), some (.dct (stoodT (row.take j)), 1), o5, none, none, none, none, none, none]) ⟨_, rfl⟩ (fun j x hx r hr => ?_) fun r hr => ?_
  · obtain ⟨o5, rfl⟩ := hr
    have hjl : j < row.length := (List.getElem?_eq_some_iff.mp hx).1
    have hxe : row[j] = x := (List.getElem?_eq_some_iff.mp hx).2
    have hgd : row.getD j 0 = x := by rw [List.getD_eq_getElem?_getD, hx]; rfl
    have hget : (match getW (stoodT (row.take j)) (.inl (x : Int)) with | some w => swT w | none => Dt.int 0) = .int ((atN row j : Nat) : Int) := by
      rw [stood_get]
      unfold atN
      rw [hgd]
      by_cases hm : x ∈ row.take j
      · rw [if_pos hm, if_pos hm]; rfl
      · rw [if_neg hm, if_neg hm]; rfl
    have hsl := stood_len (row.take j)
    rw [List.length_take] at hsl
    have hins : insL row (j + 1) = .lst ((List.range j).map (insT row) ++ [insT row j]) := by
      unfold insL
      rw [List.range_succ, List.map_append]
      rfl
    show nxR (sSeq _ _ [some (rowD (numL row), 0), some (RR, 0), some (N, 1), some (insL row j, 9), some (.dct (stoodT (row.take j)), 1), some (.int (x : Int), 0), none, none, none, none, none, none]) _
    refine seq_nx fun bb hb => nxR_of (r := [some (rowD (numL row), 0), some (RR, 0), some (N, 1), some (insL row (j + 1), 9), some (.dct (stoodT (row.take j)), 1), some (.int (x : Int), 0), none, none, none, none, none, none]) ?_ ?_
    · have hev : eTup (aCons (eV 5) (aCons (eDGet (eV 4) (eV 5) (eC (.int 0))) aNil)) (full [some (rowD (numL row), 0), some (RR, 0), some (N, 1), some (insL row j, 9), some (.dct (stoodT (row.take j)), 1), some (.int (x : Int), 0), none, none, none, none, none, none]) = okR (insT row j) := by
        have h2 : eDGet (eV 4) (eV 5) (eC (.int 0)) (full [some (rowD (numL row), 0), some (RR, 0), some (N, 1), some (insL row j, 9), some (.dct (stoodT (row.take j)), 1), some (.int (x : Int), 0), none, none, none, none, none, none]) = okR (.int ((atN row j : Nat) : Int)) := by
          show (if (Dt.int 0).dep = 0 then okR (match getW (stoodT (row.take j)) (.inl (x : Int)) with | some w => swT w | none => Dt.int 0) else none) = _
          rw [hget]
          rfl
        generalize eDGet (eV 4) (eV 5) (eC (.int 0)) = ee at h2 ⊢
        generalize insL row j = I at h2 ⊢
        generalize rowD (numL row) = Z at h2 ⊢
        generalize Dt.dct (stoodT (row.take j)) = DD at h2 ⊢
        simp only [x_full_cons, x_full_nil, Option.map_some, Option.map_none] at h2 ⊢
        simp only [x_eTup, x_aCons, x_aNil, x_eV, List.getElem?_cons_succ, List.getElem?_cons_zero, h2, bindR_ok]
        unfold insT
        rw [hgd]
        simp
      show bindR (eTup (aCons (eV 5) (aCons (eDGet (eV 4) (eV 5) (eC (.int 0))) aNil)) (full [some (rowD (numL row), 0), some (RR, 0), some (N, 1), some (insL row j, 9), some (.dct (stoodT (row.take j)), 1), some (.int (x : Int), 0), none, none, none, none, none, none])) (fun d => @ite _ (((List.range j).map (insT row)).length ≤ 100000 ∧ d.dep ≤ 1 ∧ d.dep ≤ 8) (Classical.propDecidable _) (okR (Out.nx [some (rowD (numL row), 0), some (RR, 0), some (N, 1), some (.lst ((List.range j).map (insT row) ++ [d]), 9), some (.dct (stoodT (row.take j)), 1), some (.int (x : Int), 0), none, none, none, none, none, none])) none) = _
      rw [hev, bindR_ok]
      have hd : (insT row j).dep = 1 := rfl
      rw [if_pos ⟨by simp; omega, by omega, by omega⟩, hins]
    · subst hb
      refine nxR_of (r := [some (rowD (numL row), 0), some (RR, 0), some (N, 1), some (insL row (j + 1), 9), some (.dct (stoodT (row.take (j + 1))), 1), some (.int (x : Int), 0), none, none, none, none, none, none]) ?_ ⟨_, rfl⟩
      rw [List.take_succ_eq_append_getElem hjl, hxe, stood_snoc]
      show (@ite _ ((stoodT (row.take j)).length ≤ 100000) (Classical.propDecidable _) _ _ : R Out) = _
      rw [if_pos (by omega)]
      rfl
  · obtain ⟨o5, rfl⟩ := hr
    exact ⟨_, _, rfl⟩
def frzS (o : Option Sl) : Option Dt := match o with
  | some (d, n) => if n = 0 ∨ d.dep = 0 then some d else none
  | none => none
theorem frz_any (o : Option Sl) (r : Ro) : frz (o :: r) = frzS o :: frz r := rfl
theorem frzS_0 (d : Dt) : frzS (some (d, 0)) = some d := by simp [frzS]
theorem built_turn {R : List (List Nat)} {row : List Nat} {n k l3 : Nat} {ms : List Int} {o4 o5 o7 o8 o9 o10 o11 : Option Sl} (hS : Seats R n) (tw : Twice n row) (hz : n ≤ 50) (hk : k < 2 * n) (h : Tied R row n k ms) :
    nxR (sSeq (sUnp [5, 7] [3, 6] (eB ixD (eV 3) (eB subD (eV 6) (eC (.int 1)))))
  (sSeq (sUnp [8, 9] [3, 6] (eB ixD (eV 3) (eV 6)))
  (sSeq (sSet 10 1 [5, 1, 7] (eB addD (eB mulD (eC (.int 4)) (eV 5)) (eB ixD (eB ixD (eV 1) (eV 5)) (eB addD (eV 7) (eC (.int 1))))))
  (sSeq (sSet 11 1 [8, 9, 1] (eB addD (eB mulD (eC (.int 4)) (eV 8)) (eB ixD (eB ixD (eV 1) (eV 8)) (eV 9))))
  (sSeq (sItem 2 0 (eV 10) (eV 11))
  (sItem 2 0 (eV 11) (eV 10)))))) [some (rowD (numL row), 0), some (rowsD R, 0), some (rowD ms, 1), some (insL row (2 * n), l3), o4, o5, some (.int (k : Nat), 0), o7, o8, o9, o10, o11])
    (fun r => ∃ ms : List Int, ∃ l3 o4 o5 o6 o7 o8 o9 o10 o11, r = [some (rowD (numL row), 0), some (rowsD R, 0), some (rowD ms, 1), some (insL row (2 * n), l3), o4, o5, o6, o7, o8, o9, o10, o11] ∧ Tied R row n (k + 1) ms) := by
  have hpk := prv_lt hk
  have i1 := ins_prv (row := row) hk
  have i2 := ins_ix (row := row) hk
  have p1 := row_lt tw hpk
  have p2 := row_lt tw hk
  have hRl := hS.len
  have x1 := rows_ix (R := R) (p := row.getD (prv (2 * n) k) 0) (by omega)
  have x2 := rows_ix (R := R) (p := row.getD k 0) (by omega)
  have f1 := (seat_facts (seat_of hS p1)).1
  have f2 := (seat_facts (seat_of hS p2)).1
  have a1 := atN_lt row (prv (2 * n) k)
  have a2 := atN_lt row k
  have y1 := ixNum (R.getD (row.getD (prv (2 * n) k) 0) []) (atN row (prv (2 * n) k) + 1) (by omega)
  have y2 := ixNum (R.getD (row.getD k 0) []) (atN row k) (by omega)
  have l1 := ouE_lt hS tw hpk
  have l2 := inE_lt hS tw hk
  have hst := tied_step hS tw hk h
  have hml := h.1
  have s1 := item_ints (i := 2) (n := 0) (l := 0) (ls := ms) (e1 := eV 10) (e2 := eV 11) (z := (ouE R row (prv (2 * n) k) : Nat)) (v := ((inE R row k : Nat) : Int)) (r := [some (rowD (numL row), 0), some (rowsD R, 0), some (rowD ms, 1), some (insL row (2 * n), 0), o4, some (.int ((row.getD (prv (2 * n) k) 0 : Nat) : Int), 0), some (.int (k : Nat), 0), some (.int ((atN row (prv (2 * n) k) : Nat) : Int), 0), some (.int ((row.getD k 0 : Nat) : Int), 0), some (.int ((atN row k : Nat) : Int), 0), some (.int ((ouE R row (prv (2 * n) k) : Nat) : Int), 1), some (.int ((inE R row k : Nat) : Int), 1)]) rfl rfl rfl (by omega) (by omega)
  have s2 := item_ints (i := 2) (n := 0) (l := 0) (ls := ms.set (ouE R row (prv (2 * n) k)) ((inE R row k : Nat) : Int)) (e1 := eV 11) (e2 := eV 10) (z := (inE R row k : Nat)) (v := ((ouE R row (prv (2 * n) k) : Nat) : Int)) (r := [some (rowD (numL row), 0), some (rowsD R, 0), some (rowD (ms.set (ouE R row (prv (2 * n) k)) ((inE R row k : Nat) : Int)), 1), some (insL row (2 * n), 0), o4, some (.int ((row.getD (prv (2 * n) k) 0 : Nat) : Int), 0), some (.int (k : Nat), 0), some (.int ((atN row (prv (2 * n) k) : Nat) : Int), 0), some (.int ((row.getD k 0 : Nat) : Int), 0), some (.int ((atN row k : Nat) : Int), 0), some (.int ((ouE R row (prv (2 * n) k) : Nat) : Int), 1), some (.int ((inE R row k : Nat) : Int), 1)]) rfl rfl rfl (by omega) (by rw [List.length_set]; omega)
  rw [Int.toNat_natCast] at s1 s2
  have e1 : 4 * ((row.getD (prv (2 * n) k) 0 : Nat) : Int) + (((R.getD (row.getD (prv (2 * n) k) 0) []).getD (atN row (prv (2 * n) k) + 1) 0 : Nat) : Int) = ((ouE R row (prv (2 * n) k) : Nat) : Int) := by unfold ouE SE; omega
  have e2 : 4 * ((row.getD k 0 : Nat) : Int) + (((R.getD (row.getD k 0) []).getD (atN row k) 0 : Nat) : Int) = ((inE R row k : Nat) : Int) := by unfold inE SE; omega
  unfold insT at i1 i2
  have mm1 : mulD (.int 4) (.int ((row.getD (prv (2 * n) k) 0 : Nat) : Int)) = some (.int (4 * ((row.getD (prv (2 * n) k) 0 : Nat) : Int))) := mul_l (by omega) (by omega)
  have mm2 : mulD (.int 4) (.int ((row.getD k 0 : Nat) : Int)) = some (.int (4 * ((row.getD k 0 : Nat) : Int))) := mul_l (by omega) (by omega)
  rw [show ((atN row (prv (2 * n) k) + 1 : Nat) : Int) = ((atN row (prv (2 * n) k) : Nat) : Int) + 1 by omega] at y1
  generalize ((ouE R row (prv (2 * n) k) : Nat) : Int) = OU at *
  generalize ((inE R row k : Nat) : Int) = IN at *
  generalize (((R.getD (row.getD (prv (2 * n) k) 0) []).getD (atN row (prv (2 * n) k) + 1) 0 : Nat) : Int) = U1 at *
  generalize (((R.getD (row.getD k 0) []).getD (atN row k) 0 : Nat) : Int) = U2 at *
  generalize ((row.getD (prv (2 * n) k) 0 : Nat) : Int) = P1 at *
  generalize ((row.getD k 0 : Nat) : Int) = P2 at *
  generalize ((atN row (prv (2 * n) k) : Nat) : Int) = A1 at *
  generalize ((atN row k : Nat) : Int) = A2 at *
  generalize rowD (numL (R.getD (row.getD (prv (2 * n) k) 0) [])) = Y1 at *
  generalize rowD (numL (R.getD (row.getD k 0) [])) = Y2 at *
  refine seq_nx fun bb hb => nxR_of (r := [some (rowD (numL row), 0), some (rowsD R, 0), some (rowD ms, 1), some (insL row (2 * n), 0), o4, some (.int P1, 0), some (.int (k : Nat), 0), some (.int A1, 0), o8, o9, o10, o11]) (by
    generalize rowD (numL row) = Z1
    generalize rowsD R = Z2
    generalize rowD ms = Z3
    generalize insL row (2 * n) = Z4 at i1 ⊢
    unfold sUnp
    simp [i1, bindT, setsO, frz_any, frzS_0]) ?_
  subst hb
  refine seq_nx fun bb hb => nxR_of (r := [some (rowD (numL row), 0), some (rowsD R, 0), some (rowD ms, 1), some (insL row (2 * n), 0), o4, some (.int P1, 0), some (.int (k : Nat), 0), some (.int A1, 0), some (.int P2, 0), some (.int A2, 0), o10, o11]) (by
    generalize rowD (numL row) = Z1
    generalize rowsD R = Z2
    generalize rowD ms = Z3
    generalize insL row (2 * n) = Z4 at i2 ⊢
    unfold sUnp
    simp [i2, bindT, setsO, frz_any, frzS_0]) ?_
  subst hb
  refine seq_nx fun bb hb => nxR_of (r := [some (rowD (numL row), 0), some (rowsD R, 0), some (rowD ms, 1), some (insL row (2 * n), 0), o4, some (.int P1, 0), some (.int (k : Nat), 0), some (.int A1, 0), some (.int P2, 0), some (.int A2, 0), some (.int OU, 1), o11]) (by
    generalize rowD (numL row) = Z1
    generalize rowsD R = Z2 at x1 x2 ⊢
    generalize rowD ms = Z3
    generalize insL row (2 * n) = Z4
    simp [mm1, x1, y1, e1, -v_mul]) ?_
  subst hb
  refine seq_nx fun bb hb => nxR_of (r := [some (rowD (numL row), 0), some (rowsD R, 0), some (rowD ms, 1), some (insL row (2 * n), 0), o4, some (.int P1, 0), some (.int (k : Nat), 0), some (.int A1, 0), some (.int P2, 0), some (.int A2, 0), some (.int OU, 1), some (.int IN, 1)]) (by
    generalize rowD (numL row) = Z1
    generalize rowsD R = Z2 at x1 x2 ⊢
    generalize rowD ms = Z3
    generalize insL row (2 * n) = Z4
    simp [mm2, x2, y2, e2, -v_mul]) ?_
  subst hb
  refine seq_nx fun bb hb => nxR_of s1 ?_
  subst hb
  exact nxR_of s2 ⟨_, _, _, _, _, _, _, _, _, _, rfl, hst⟩
theorem built_tied {R : List (List Nat)} {row : List Nat} {n : Nat} (hS : Seats R n) (tw : Twice n row) (hz : n ≤ 50) : ∃ ms : List Int, Tied R row n (2 * n) ms ∧ m__law_built_v3 [rowD (numL row), rowsD R] = okR (rowD ms) := by
  have hrl := tw.len
  suffices h : eiR (b__law_built_v3 [some (rowD (numL row), 0), some (rowsD R, 0), none, none, none, none, none, none, none, none, none, none]) (fun _ => False) (fun d => ∃ ms, d = rowD ms ∧ Tied R row n (2 * n) ms) by
    rcases h with ⟨_, _, z⟩ | ⟨d, h1, ms, rfl, h2⟩
    · exact z.elim
    · exact ⟨ms, h2, run_rt rfl h1⟩
  have hlen : lenD [rowD (numL row)] = some (.int ((2 * n : Nat) : Int)) := by
    rw [lenR]
    simp [numL, hrl]
  have m2 : mulD (.int 2) (.int ((2 * n : Nat) : Int)) = some (.int ((4 * n : Nat) : Int)) := by
    rw [mul_l (by omega) (by omega)]
    congr 2
    omega
  have hrp := rep_zero (4 * n) (by omega)
  have hd := dep_row (List.replicate (4 * n) 0)
  have hrd : (rowsD R).dep ≤ 1000 := by have := rowsD_dep R; omega
  unfold b__law_built_v3
  refine seq_ei (P := fun r => r = [some (rowD (numL row), 0), some (rowsD R, 0), some (rowD (List.replicate (4 * n) 0), 1), none, none, none, none, none, none, none, none, none]) (ei_nx ?_) ?_
  · generalize rowD (numL row) = Z at hlen ⊢
    generalize rowsD R = X
    generalize rowD (List.replicate (4 * n) 0) = Y at hrp hd ⊢
    simp only [x_sSet, x_full_cons, x_full_nil, Option.map_some, Option.map_none, x_eLst, x_aCons, x_aNil, x_eB, x_eBi, x_eC, x_eV, List.getElem?_cons_succ, List.getElem?_cons_zero, bindR_ok, hlen, m2, optR_some]
    rw [if_pos (by simp), bindR_ok, hrp, optR_some, bindR_ok, if_pos (by omega)]
    exact nxR_of rfl rfl
  rintro r rfl
  refine seq_ei (P := fun r => r = [some (rowD (numL row), 0), some (rowsD R, 0), some (rowD (List.replicate (4 * n) 0), 1), some (.lst [], 9), none, none, none, none, none, none, none, none]) (ei_nx ?_) ?_
  · generalize rowD (numL row) = Z
    generalize rowsD R = X
    generalize rowD (List.replicate (4 * n) 0) = Y
    simp
  rintro r rfl
  refine seq_ei (P := fun r => r = [some (rowD (numL row), 0), some (rowsD R, 0), some (rowD (List.replicate (4 * n) 0), 1), some (.lst [], 9), some (.dct [], 1), none, none, none, none, none, none, none]) (ei_nx ?_) ?_
  · exact nxR_of rfl rfl
  rintro r rfl
  refine seq_ei (ei_nx (ins_loop (by omega) hrd)) ?_
  rintro r ⟨o4, o5, rfl⟩
  rw [hrl]
  refine seq_ei (P := fun r => ∃ ms : List Int, ∃ l3 o4 o5 o6 o7 o8 o9 o10 o11, r = [some (rowD (numL row), 0), some (rowsD R, 0), some (rowD ms, 1), some (insL row (2 * n), l3), o4, o5, o6, o7, o8, o9, o10, o11] ∧ Tied R row n (2 * n) ms) (ei_nx ?_) ?_
  · have hit : iR1 (aCons (eBi lenD (aCons (eV 0) aNil)) aNil) (full [some (rowD (numL row), 0), some (rowsD R, 0), some (rowD (List.replicate (4 * n) 0), 1), some (insL row (2 * n), 9), o4, o5, none, none, none, none, none, none]) = okR (nums 0 (2 * n)) := x_iR1 (n := 2 * n) (by
      generalize rowD (numL row) = Z at hlen ⊢
      simp only [x_full_cons, Option.map_some, x_eBi, x_aCons, x_aNil, x_eV, List.getElem?_cons_zero, bindR_ok, hlen, optR_some]) (by omega)
    rw [x_sForR, hit, bindR_ok]
    refine nx_up (fun k r => ∃ ms : List Int, ∃ l3 o4 o5 o6 o7 o8 o9 o10 o11, r = [some (rowD (numL row), 0), some (rowsD R, 0), some (rowD ms, 1), some (insL row (2 * n), l3), o4, o5, o6, o7, o8, o9, o10, o11] ∧ Tied R row n k ms) ⟨List.replicate (4 * n) 0, _, _, _, _, _, _, _, _, _, rfl, by simp, fun j hj => by omega⟩ (fun k hk r hr => ?_) fun r hr => hr
    obtain ⟨ms, l3, o4, o5, o6, o7, o8, o9, o10, o11, rfl, hT⟩ := hr
    exact built_turn hS tw hz hk hT
  rintro r ⟨ms, l3, o4, o5, o6, o7, o8, o9, o10, o11, rfl, hT⟩
  refine .inr ⟨rowD ms, ?_, ms, rfl, hT⟩
  generalize rowD (numL row) = Z
  generalize rowsD R = X
  generalize rowD ms = Y
  generalize insL row (2 * n) = W
  simp [sRetV]
theorem built_prog {R : List (List Nat)} {row : List Nat} {n : Nat} (hS : Seats R n) (tw : Twice n row) (hz : n ≤ 50) : ∃ ms : List Int, FW.NetL ms (4 * n) ∧ m__law_built_v3 [rowD (numL row), rowsD R] = okR (rowD ms) := by
  obtain ⟨ms, h1, h2⟩ := built_tied hS tw hz
  exact ⟨ms, tied_net hS tw h1, h2⟩
end Mp

namespace Mp
open Mi PySem
theorem xor_ne : ∀ s, s < 4 → ∀ w, w < 3 → (s ^^^ (w + 1)) ≠ s := by decide
theorem jn_ne {cs : List Nat} {n e : Nat} (hl : cs.length = n) (hw : ∀ c ∈ cs, c < 3) (he : e < 4 * n) : jn cs e ≠ e := fun h => by
  have hc : cs.getD (e / 4) 0 < 3 := getD_lt hw (by omega)
  have h1 := xor_ne (e % 4) (by omega) _ hc
  unfold jn at h
  omega
theorem itr_add (f : Nat → Nat) (x p : Nat) : ∀ k, itr f (k + p) x = itr f k (itr f p x)
  | 0 => by rw [Nat.zero_add]; rfl
  | k + 1 => by rw [show k + 1 + p = (k + p) + 1 by omega]; show f (itr f (k + p) x) = _; rw [itr_add f x p k]; rfl
section
variable {ts cs : List Nat} {n e : Nat} (hN : NetN ts (4 * n)) (hne : ∀ x, x < 4 * n → nt ts x ≠ x) (hl : cs.length = n) (hw : ∀ c ∈ cs, c < 3) (he : e < 4 * n)
include hN hne hl hw he
theorem no_meet : ∀ d j, itr (stp ts cs) (j + d) e ≠ jn cs (itr (stp ts cs) j e) := by
  obtain ⟨st1, _⟩ := stp_ok hN hl hw
  have hlt : ∀ k, itr (stp ts cs) k e < 4 * n := itr_lt st1 he
  intro d
  induction d using Nat.strongRecOn with
  | ind d ih =>
    intro j h
    match d, ih, h with
    | 0, _, h => exact jn_ne hl hw (hlt j) h.symm
    | 1, _, h =>
      have : itr (stp ts cs) (j + 1) e = nt ts (jn cs (itr (stp ts cs) j e)) := rfl
      rw [this] at h
      exact hne _ (jn_ok hl hw (hlt j)).1 h
    | d + 2, ih, h =>
      have h1 : itr (stp ts cs) (j + (d + 2)) e = nt ts (jn cs (itr (stp ts cs) (j + 1 + d) e)) := by
        rw [show j + (d + 2) = (j + 1 + d) + 1 by omega]; rfl
      rw [h1] at h
      have h2 := congrArg (nt ts) h
      rw [hN.inv _ (jn_ok hl hw (hlt _)).1] at h2
      have h3 := congrArg (jn cs) h2
      rw [(jn_ok hl hw (hlt _)).2] at h3
      exact ih d (by omega) (j + 1) h3
variable {p : Nat} (p3 : itr (stp ts cs) p e = e) (p4 : ∀ q, 1 ≤ q → q < p → itr (stp ts cs) q e ≠ e)
include p3 p4
theorem itr_dis {i j : Nat} (hi : i < j) (hj : j < p) : itr (stp ts cs) i e ≠ itr (stp ts cs) j e := fun h => by
  obtain ⟨st1, st2⟩ := stp_ok hN hl hw
  have := itr_back st1 st2 he i (j - i) (by rw [show i + (j - i) = j by omega]; exact h)
  exact p4 (j - i) (by omega) (by omega) this
theorem itr_jn {i j : Nat} (hi : i < p) (hj : j < p) : itr (stp ts cs) i e ≠ jn cs (itr (stp ts cs) j e) := fun h => by
  by_cases z : j ≤ i
  · exact no_meet hN hne hl hw he (i - j) j (by rw [show j + (i - j) = i by omega]; exact h)
  · have h1 : itr (stp ts cs) (i + p) e = itr (stp ts cs) i e := by rw [itr_add, p3]
    exact no_meet hN hne hl hw he (i + p - j) j (by rw [show j + (i + p - j) = i + p by omega, h1]; exact h)
theorem jn_dis {i j : Nat} (hi : i < j) (hj : j < p) : jn cs (itr (stp ts cs) i e) ≠ jn cs (itr (stp ts cs) j e) := fun h => by
  obtain ⟨st1, st2⟩ := stp_ok hN hl hw
  have hlt : ∀ k, itr (stp ts cs) k e < 4 * n := itr_lt st1 he
  have h3 := congrArg (jn cs) h
  rw [(jn_ok hl hw (hlt _)).2, (jn_ok hl hw (hlt _)).2] at h3
  exact itr_dis hN hne hl hw he p3 p4 hi hj h3
omit hN hne hl hw he p3 p4 in
theorem orb_mem {k x : Nat} : x ∈ orb ts cs e k ↔ ∃ i, i < k ∧ (x = itr (stp ts cs) i e ∨ x = jn cs (itr (stp ts cs) i e)) := by
  unfold orb
  simp [List.mem_flatMap]
theorem orb_nodup : ∀ k, k ≤ p → (orb ts cs e k).Nodup
  | 0, _ => List.nodup_nil
  | k + 1, hk => by
    rw [orb_succ]
    refine List.nodup_append.mpr ⟨orb_nodup k (by omega), ?_, fun x hx y hy hxy => ?_⟩
    · refine List.nodup_cons.mpr ⟨fun h => ?_, by simp⟩
      simp at h
      exact itr_jn hN hne hl hw he p3 p4 (by omega) (by omega) h
    · subst hxy
      obtain ⟨i, hi, e1 | e1⟩ := orb_mem.mp hx
      · simp at hy
        rcases hy with e2 | e2
        · exact itr_dis hN hne hl hw he p3 p4 hi (by omega) (e1.symm.trans e2)
        · exact itr_jn hN hne hl hw he p3 p4 (by omega) (by omega) (e1.symm.trans e2)
      · simp at hy
        rcases hy with e2 | e2
        · exact itr_jn hN hne hl hw he p3 p4 (by omega) (by omega) (e2.symm.trans e1)
        · exact jn_dis hN hne hl hw he p3 p4 hi (by omega) (e1.symm.trans e2)
end
theorem orb_get {ts cs : List Nat} {e : Nat} : ∀ {k i : Nat}, i < k → (orb ts cs e k).getD (2 * i) 0 = itr (stp ts cs) i e ∧ (orb ts cs e k).getD (2 * i + 1) 0 = jn cs (itr (stp ts cs) i e)
  | 0, i, h => by omega
  | k + 1, i, h => by
    have hl := orb_len ts cs e k
    rw [orb_succ]
    by_cases z : i = k
    · subst z
      rw [List.getD_eq_getElem?_getD, List.getElem?_append_right (by omega), List.getD_eq_getElem?_getD, List.getElem?_append_right (by omega), hl]
      simp
    · have := orb_get (ts := ts) (cs := cs) (e := e) (show i < k by omega)
      rw [List.getD_eq_getElem?_getD, List.getElem?_append_left (by omega), List.getD_eq_getElem?_getD, List.getElem?_append_left (by omega), ← List.getD_eq_getElem?_getD, ← List.getD_eq_getElem?_getD]
      exact this
theorem toNet2 {ns : List Int} {M : Nat} (h : FW.NetL ns M) : ∃ ts : List Nat, numL ts = ns ∧ NetN ts M ∧ ∀ x, x < M → nt ts x ≠ x := by
  obtain ⟨ts, e, hN⟩ := toNet h
  refine ⟨ts, e, hN, fun x hx => ?_⟩
  obtain ⟨j, h1, h2, h3, _⟩ := h.tie x hx
  rw [← e] at h3
  unfold numL at h3
  rw [List.getElem?_map] at h3
  unfold nt
  rw [List.getD_eq_getElem?_getD]
  cases hq : ts[x]? with
  | none => rw [hq] at h3; cases h3
  | some y =>
    rw [hq] at h3
    simp at h3
    simp
    omega
end Mp

namespace Mp
open Mi PySem
end Mp

namespace Mp
open Mi PySem
end Mp

namespace Mp
open Mi PySem
theorem mark_get (x : Nat) : ∀ (l : List Nat) (D : Kv), (getW (markN D l) (.inl (x : Int))).isSome = true ↔ (getW D (.inl (x : Int))).isSome = true ∨ x ∈ l
  | [], D => by simp [markN]
  | y :: l, D => by
    show (getW (markN (putW D (.inl (y : Int)) (.bl true)) l) (.inl (x : Int))).isSome = true ↔ _
    rw [mark_get x l, getW_put]
    by_cases h : x = y
    · subst h
      simp
    · have : ¬ (Sum.inl (x : Int) : Sum Int Str) = .inl (y : Int) := fun e => h (by injection e with e; omega)
      rw [if_neg this]
      simp [h]
theorem rdS_marks (f : Nat → List Nat) (x : Nat) : ∀ k, (getW (rdS f k).2 (.inl (x : Int))).isSome = true ↔ ∃ l ∈ (rdS f k).1, x ∈ l
  | 0 => by simp [rdS, getW]
  | k + 1 => by
    by_cases h : (getW (rdS f k).2 (.inl (k : Int))).isSome = true
    · have e : rdS f (k + 1) = rdS f k := by rw [rdS, if_pos h]
      rw [e]
      exact rdS_marks f x k
    · have e : rdS f (k + 1) = ((rdS f k).1 ++ [f k], markN (rdS f k).2 (f k)) := by rw [rdS, if_neg h]
      rw [e]
      show (getW (markN (rdS f k).2 (f k)) (.inl (x : Int))).isSome = true ↔ ∃ l ∈ (rdS f k).1 ++ [f k], x ∈ l
      rw [mark_get, rdS_marks f x k]
      constructor
      · rintro (⟨l, h1, h2⟩ | h1)
        · exact ⟨l, by simp [h1], h2⟩
        · exact ⟨f k, by simp, h1⟩
      · rintro ⟨l, h1, h2⟩
        rcases List.mem_append.mp h1 with h3 | h3
        · exact .inl ⟨l, h3, h2⟩
        · simp at h3; subst h3; exact .inr h2
theorem rdS_cover (f : Nat → List Nat) : ∀ k, (∀ e, e < k → e ∈ f e) → ∀ e, e < k → (getW (rdS f k).2 (.inl (e : Int))).isSome = true
  | 0, _, e, he => by omega
  | k + 1, hf, e, he => by
    by_cases h : (getW (rdS f k).2 (.inl (k : Int))).isSome = true
    · have e1 : rdS f (k + 1) = rdS f k := by rw [rdS, if_pos h]
      rw [e1]
      by_cases z : e = k
      · subst z; exact h
      · exact rdS_cover f k (fun e he => hf e (by omega)) e (by omega)
    · have e1 : rdS f (k + 1) = ((rdS f k).1 ++ [f k], markN (rdS f k).2 (f k)) := by rw [rdS, if_neg h]
      rw [e1]
      show (getW (markN (rdS f k).2 (f k)) (.inl (e : Int))).isSome = true
      rw [mark_get]
      by_cases z : e = k
      · subst z; exact .inr (hf e (by omega))
      · exact .inl (rdS_cover f k (fun e he => hf e (by omega)) e (by omega))
theorem rdS_head (f : Nat → List Nat) : ∀ k, ∃ t, (rdS f (k + 1)).1 = f 0 :: t
  | 0 => ⟨[], by simp [rdS, getW]⟩
  | k + 1 => by
    obtain ⟨t, ht⟩ := rdS_head f k
    by_cases h : (getW (rdS f (k + 1)).2 (.inl ((k + 1 : Nat) : Int))).isSome = true
    · have e : rdS f (k + 1 + 1) = rdS f (k + 1) := by rw [rdS, if_pos h]
      exact ⟨t, by rw [e]; exact ht⟩
    · have e : rdS f (k + 1 + 1) = ((rdS f (k + 1)).1 ++ [f (k + 1)], markN (rdS f (k + 1)).2 (f (k + 1))) := by rw [rdS, if_neg h]
      exact ⟨t ++ [f (k + 1)], by rw [e]; show (rdS f (k + 1)).1 ++ [f (k + 1)] = _; rw [ht]; rfl⟩
structure Rnds (ts cs : List Nat) (n : Nat) (RR : List (List Nat)) : Prop where
  prog : m_rounds_of [rowD (numL ts), rowD (numL cs)] = okR (rowsD RR)
  law : m__law_rounds [rowD (numL ts), rowD (numL cs)] = okR (rowsD RR)
  pos : 1 ≤ RR.length
  le : RR.length ≤ 4 * n
  one : RR.length = 1 → ∃ F : List Nat, m_round_of [rowD (numL ts), rowD (numL cs), .int 0] = okR (rowD (numL F)) ∧ F.length = 4 * n ∧ ∀ x ∈ F, x < 4 * n
end Mp

namespace Mp
open Mi PySem
theorem rows_len (R : List (List Nat)) (hz : R.length ≤ 1000) : lenD [rowsD R] = some (.int (R.length : Int)) := by
  show lenD [.lst (R.map fun l => rowD (numL l))] = _
  simp
section
variable {ts cs : List Nat} {n : Nat} {RR : List (List Nat)} (h : Rnds ts cs n RR) (hn : n ≤ 8)
include h hn
end
end Mp

namespace Mp
open Mi PySem
structure Clo (ts cs : List Nat) (n : Nat) (S : Nat → Prop) : Prop where
  jn : ∀ x, x < 4 * n → S x → S (jn cs x)
  nt : ∀ x, x < 4 * n → S x → S (nt ts x)
theorem Clo.neg {ts cs : List Nat} {n : Nat} {S : Nat → Prop} (hN : NetN ts (4 * n)) (hl : cs.length = n) (hw : ∀ c ∈ cs, c < 3) (h : Clo ts cs n S) : Clo ts cs n fun x => ¬ S x where
  jn := fun x hx hs z => hs (by
    have := h.jn _ (jn_ok hl hw hx).1 z
    rw [(jn_ok hl hw hx).2] at this
    exact this)
  nt := fun x hx hs z => hs (by
    have := h.nt _ (hN.lt x hx) z
    rw [hN.inv x hx] at this
    exact this)
theorem itr_in {ts cs : List Nat} {n : Nat} {S : Nat → Prop} (hN : NetN ts (4 * n)) (hl : cs.length = n) (hw : ∀ c ∈ cs, c < 3) (h : Clo ts cs n S) {a : Nat} (ha : a < 4 * n) (hs : S a) : ∀ k, S (itr (stp ts cs) k a)
  | 0 => hs
  | k + 1 => by
    have hlt := itr_lt (stp_ok hN hl hw).1 ha k
    exact h.nt _ (jn_ok hl hw hlt).1 (h.jn _ hlt (itr_in hN hl hw h ha hs k))
section
variable {ts cs : List Nat} {n a p : Nat} (hN : NetN ts (4 * n)) (hl : cs.length = n) (hw : ∀ c ∈ cs, c < 3) (ha : a < 4 * n) (p1 : 1 ≤ p) (p3 : itr (stp ts cs) p a = a)
include hN hl hw ha p1 p3
theorem orb_clo : Clo ts cs n fun x => x ∈ orb ts cs a p where
  jn := fun x hx h => by
    have hlt : ∀ k, itr (stp ts cs) k a < 4 * n := itr_lt (stp_ok hN hl hw).1 ha
    obtain ⟨i, hi, e | e⟩ := orb_mem.mp h
    · exact orb_mem.mpr ⟨i, hi, .inr (by rw [e])⟩
    · exact orb_mem.mpr ⟨i, hi, .inl (by rw [e, (jn_ok hl hw (hlt i)).2])⟩
  nt := fun x hx h => by
    have hlt : ∀ k, itr (stp ts cs) k a < 4 * n := itr_lt (stp_ok hN hl hw).1 ha
    obtain ⟨i, hi, e | e⟩ := orb_mem.mp h
    · obtain ⟨j, hj, ej⟩ : ∃ j, j < p ∧ itr (stp ts cs) (j + 1) a = itr (stp ts cs) i a := by
        by_cases z : i = 0
        · exact ⟨p - 1, by omega, by rw [show p - 1 + 1 = p by omega, p3, z]; rfl⟩
        · exact ⟨i - 1, by omega, by rw [show i - 1 + 1 = i by omega]⟩
      refine orb_mem.mpr ⟨j, hj, .inr ?_⟩
      rw [e, ← ej]
      exact hN.inv _ (jn_ok hl hw (hlt j)).1
    · by_cases z : i + 1 = p
      · refine orb_mem.mpr ⟨0, by omega, .inl ?_⟩
        rw [e]
        show itr (stp ts cs) (i + 1) a = a
        rw [z, p3]
      · exact orb_mem.mpr ⟨i + 1, by omega, .inl (by rw [e]; rfl)⟩
end
end Mp

namespace Mp
open Mi PySem
theorem pow60 : powD (.int 10) (.int 60) = some (.int 1000000000000000000000000000000000000000000000000000000000000) := by
  show (@ite _ (0 ≤ (60 : Int) ∧ (60 : Int) ≤ 1000000 ∧ (10 : Int).natAbs < 18446744073709551616) (Classical.propDecidable _) (some (Dt.int ((10 : Int) ^ (60 : Int).toNat))) none) = _
  rw [if_pos (by decide)]
  rfl
theorem cell4 (ns : List Int) (k : Int) (h0 : 0 ≤ k) (h1 : k < 1000) : ∃ c : Int, m__law_cell_v4 [.scr ns, .int k] = okR (.int c) := by
  unfold m__law_cell_v4 b__law_cell_v4
  have m1 : mulD (.int 7919) (.int (k + 1)) = some (.int (7919 * (k + 1))) := mul_l (by omega) (by omega)
  have hp := pow60
  suffices h : ∀ x : Int, ∃ c : Int, sSeq (sIf (tAn (tB (eB (cmpD fun i j => decide (j < i)) (eBi lenD (aCons (eV 0) aNil)) (eC (.int 0)))) (tB (eB eqD (eB modD (eB ixD (eV 0) (eC (.int 0))) (eC (.int 2))) (eC (.int 1))))) (sRet 1 1 [2, 1] (eB divD (eB modD (eV 2) (eB powD (eC (.int 10)) (eC (.int 60)))) (eB ixD (eLst (aCons (eC (.int 1)) (aCons (eC (.int 2)) aNil))) (eBi intD (aCons (eB eqD (eV 1) (eC (.int 0))) aNil))))) sNil)
      (sSeq (sSet 3 0 [2, 1] (eB modD (eB mulD (eB addD (eB modD (eV 2) (eC (.int 1000000000039))) (eB mulD (eC (.int 7919)) (eB addD (eV 1) (eC (.int 1))))) (eC (.int 48271))) (eC (.int 2147483647))))
      (sSeq (sSet 4 0 [3] (eB modD (eB mulD (eB modD (eB mulD (eV 3) (eC (.int 69621))) (eC (.int 2147483629))) (eC (.int 16807))) (eC (.int 2147483647))))
      (sRet 1 1 [4, 3] (eB addD (eB mulD (eB addD (eB mulD (eV 3) (eC (.int 2147483647))) (eV 4)) (eC (.int 2147483629))) (eB modD (eB mulD (eV 4) (eC (.int 40692))) (eC (.int 2147483399))))))) [some (.scr ns, 0), some (.int k, 0), some (.int x, 0), none, none] = okR (.rt (.int c)) by
    by_cases hk : k < ns.length
    · obtain ⟨c, hc⟩ := h (ns.getD k.toNat 0)
      refine ⟨c, run_rt rfl (seq_go fun bb hb => nxR_of (r := [some (.scr ns, 0), some (.int k, 0), some (.int 0, 0), none, none]) (by simp [startO]) ?_)⟩
      subst hb
      refine seq_go fun bb hb => nxR_of (r := [some (.scr ns, 0), some (.int k, 0), some (.int (ns.getD k.toNat 0), 0), none, none]) (by simp [hk, itA_int h0 hk]) ?_
      subst hb
      exact hc
    · obtain ⟨c, hc⟩ := h 0
      refine ⟨c, run_rt rfl (seq_go fun bb hb => nxR_of (r := [some (.scr ns, 0), some (.int k, 0), some (.int 0, 0), none, none]) (by simp [startO]) ?_)⟩
      subst hb
      refine seq_go fun bb hb => nxR_of (r := [some (.scr ns, 0), some (.int k, 0), some (.int 0, 0), none, none]) (by simp [hk]) ?_
      subst hb
      exact hc
  intro x
  have last : ∃ c : Int, (sSeq (sSet 3 0 [2, 1] (eB modD (eB mulD (eB addD (eB modD (eV 2) (eC (.int 1000000000039))) (eB mulD (eC (.int 7919)) (eB addD (eV 1) (eC (.int 1))))) (eC (.int 48271))) (eC (.int 2147483647))))
      (sSeq (sSet 4 0 [3] (eB modD (eB mulD (eB modD (eB mulD (eV 3) (eC (.int 69621))) (eC (.int 2147483629))) (eC (.int 16807))) (eC (.int 2147483647))))
      (sRet 1 1 [4, 3] (eB addD (eB mulD (eB addD (eB mulD (eV 3) (eC (.int 2147483647))) (eV 4)) (eC (.int 2147483629))) (eB modD (eB mulD (eV 4) (eC (.int 40692))) (eC (.int 2147483399))))))) [some (.scr ns, 0), some (.int k, 0), some (.int x, 0), none, none] = okR (.rt (.int c)) := by
    simp [m1, -v_mul, mul_r]
  by_cases hc : 0 < ns.length ∧ ns.getD 0 0 % 2 = 1
  · have hi : itA ns 0 = some (ns.getD 0 0) := itA_int (by omega) (by omega)
    by_cases k0 : k = 0
    · refine ⟨x % 1000000000000000000000000000000000000000000000000000000000000 / 2, ?_⟩
      subst k0
      have hl0 : (0 : Int) < (ns.length : Int) := by omega
      generalize hS : (sSeq (sSet 3 0 [2, 1] (eB modD (eB mulD (eB addD (eB modD (eV 2) (eC (.int 1000000000039))) (eB mulD (eC (.int 7919)) (eB addD (eV 1) (eC (.int 1))))) (eC (.int 48271))) (eC (.int 2147483647)))) _ : SM) = SS
      generalize ns.getD 0 0 = y at hc hi
      have hT : intD [.bl true] = some (.int 1) := rfl
      have hI : itA [Dt.int 1, .int 2] 1 = some (.int 2) := rfl
      simp [hi, hc.2, hc.1, hp, hT, hI, -v_pow]
    · refine ⟨x % 1000000000000000000000000000000000000000000000000000000000000 / 1, ?_⟩
      generalize hS : (sSeq (sSet 3 0 [2, 1] (eB modD (eB mulD (eB addD (eB modD (eV 2) (eC (.int 1000000000039))) (eB mulD (eC (.int 7919)) (eB addD (eV 1) (eC (.int 1))))) (eC (.int 48271))) (eC (.int 2147483647)))) _ : SM) = SS
      generalize ns.getD 0 0 = y at hc hi
      have hT : intD [.bl false] = some (.int 0) := rfl
      have hI : itA [Dt.int 1, .int 2] 0 = some (.int 1) := rfl
      simp [hi, hc.2, hc.1, hp, k0, hT, hI, -v_pow]
  · obtain ⟨c, hc2⟩ := last
    refine ⟨c, seq_go fun bb hb => nxR_of (r := [some (.scr ns, 0), some (.int k, 0), some (.int x, 0), none, none]) ?_ (by rw [hb]; exact hc2)⟩
    clear hc2 hb bb
    generalize (sRet 1 1 [2, 1] (eB divD (eB modD (eV 2) (eB powD (eC (.int 10)) (eC (.int 60)))) (eB ixD (eLst (aCons (eC (.int 1)) (aCons (eC (.int 2)) aNil))) (eBi intD (aCons (eB eqD (eV 1) (eC (.int 0))) aNil))))) = SS
    by_cases hl : 0 < ns.length
    · have hi : itA ns 0 = some (ns.getD 0 0) := itA_int (by omega) (by omega)
      have h2 : ¬ ns.getD 0 0 % 2 = 1 := fun z => hc ⟨hl, z⟩
      generalize ns.getD 0 0 = y at h2 hi
      have h3 : y % 2 = 0 := by omega
      simp [hi, hl, h2, h3]
    · have : ns = [] := List.eq_nil_of_length_eq_zero (by omega)
      subst this
      simp
theorem row3_prog (ns : List Int) (n : Nat) (h1 : 1 ≤ n) (hn : n ≤ 10) : ∃ row, Twice n row ∧ m__law_row_v3 [.scr ns, .int 2, .int (n : Int)] = okR (rowD (numL row)) := by
  suffices h : eiR (b__law_row_v3 [some (.scr ns, 0), some (.int 2, 0), some (.int (n : Int), 0), none, none, none, none]) (fun _ => False) (fun d => ∃ row, d = rowD (numL row) ∧ Twice n row) by
    rcases h with ⟨_, _, z⟩ | ⟨d, h1, row, rfl, h2⟩
    · exact z.elim
    · exact ⟨row, h2, run_rt rfl h1⟩
  have m0 : mulD (.int 2) (.int (n : Int)) = some (.int ((2 * n : Nat) : Int)) := by
    rw [mul_l (by omega) (by omega)]
    congr 2
  have hbl : (base2 n).length = 2 * n := by simp [base2]
  unfold b__law_row_v3
  refine seq_ei (P := fun r => r = [some (.scr ns, 0), some (.int 2, 0), some (.int (n : Int), 0), some (rowD (numL (base2 n)), 1), none, none, none]) (ei_nx ?_) ?_
  · have hc : eComp (iR1 (aCons (eB mulD (eC (.int 2)) (eV 2)) aNil)) 1 (.one 7) Mi.tYes (eB divD (eV 7) (eC (.int 2))) [some (.scr ns), some (.int 2), some (.int (n : Int)), none, none, none, none] = okR (rowD (numL (base2 n))) := by
      have := comp_row (ρ := [some (.scr ns), some (.int 2), some (.int (n : Int)), none, none, none, none]) (e := eB divD (eV 7) (eC (.int 2))) (it := iR1 (aCons (eB mulD (eC (.int 2)) (eV 2)) aNil)) (i := 7) (n := 2 * n) (fun k => ((k / 2 : Nat) : Int)) rfl (by omega) (x_iR1 (by simp [m0, -v_mul]) (by omega)) fun a h => by simp
      rw [this]
      unfold base2 numL
      rw [List.map_map]
      rfl
    simp [hc]
  rintro r rfl
  obtain ⟨c0, e0⟩ := cell4 ns 2 (by omega) (by omega)
  refine seq_ei (P := fun r => r = [some (.scr ns, 0), some (.int 2, 0), some (.int (n : Int), 0), some (rowD (numL (base2 n)), 1), some (.int c0, 1), none, none]) (ei_nx (by
    generalize rowD (numL (base2 n)) = Z
    simp [e0])) ?_
  rintro r rfl
  refine seq_ei (P := fun r => r = [some (.scr ns, 0), some (.int 2, 0), some (.int (n : Int), 0), some (rowD (numL (base2 n)), 1), some (.int c0, 1), some (rowD (numL []), 9), none]) (ei_nx (by
    generalize rowD (numL (base2 n)) = Z
    simp; rfl)) ?_
  rintro r rfl
  refine seq_ei (P := fun r => ∃ row : List Nat, ∃ o3 o4 o6, r = [some (.scr ns, 0), some (.int 2, 0), some (.int (n : Int), 0), o3, o4, some (rowD (numL row), 9), o6] ∧ row.Perm (base2 n)) (ei_nx ?_) ?_
  · refine nx_while (fun r => ∃ row left : List Nat, ∃ w : Int, ∃ l4 o6, r = [some (.scr ns, 0), some (.int 2, 0), some (.int (n : Int), 0), some (rowD (numL left), 1), some (.int w, l4), some (rowD (numL row), 9), o6] ∧ (row ++ left).Perm (base2 n)) (fun r => lenAt 3 r) (fun r => ∃ row : List Nat, ∃ o3 o4 o6, r = [some (.scr ns, 0), some (.int 2, 0), some (.int (n : Int), 0), o3, o4, some (rowD (numL row), 9), o6] ∧ row.Perm (base2 n)) ⟨[], base2 n, _, _, _, rfl, List.Perm.refl _⟩ ?_ ?_ fun r hr => hr
    · show ((numL (base2 n)).map Dt.int).length < 1000000
      simp [numL, hbl]
      omega
    · rintro r ⟨row, left, w, l4, o6, rfl, hp⟩
      have hlr : row.length + left.length = 2 * n := by
        have := hp.length_eq
        rw [List.length_append, hbl] at this
        exact this
      have hnl : (numL left).length = left.length := by simp [numL]
      have hq := eq_row (numL left) []
      replace hq : Dt.eq (rowD (numL left)) (.lst []) = decide (numL left = []) := hq
      have hd := dep_row (numL left)
      by_cases hle : left = []
      · subst hle
        refine .inl ⟨?_, row, _, _, _, rfl, by simpa using hp⟩
        show tB (eB neD (eV 3) (eLst aNil)) (full [some (.scr ns, 0), some (.int 2, 0), some (.int (n : Int), 0), some (.lst [], 1), some (.int w, l4), some (rowD (numL row), 9), o6]) = okR false
        generalize rowD (numL row) = Y
        simp
        rfl
      · have hlp : 0 < left.length := List.length_pos_iff.mpr hle
        have hne : (numL left = []) = False := eq_false fun z => hle (by
          have := congrArg List.length z
          rw [hnl] at this
          exact List.eq_nil_of_length_eq_zero this)
        refine .inr ⟨?_, ?_⟩
        · generalize rowD (numL row) = Y
          generalize rowD (numL left) = Z at hq hd ⊢
          simp [hq, hd, hne]
        · have z0 := Int.emod_nonneg w (show ((left.length : Nat) : Int) ≠ 0 by omega)
          have z1 := Int.emod_lt_of_pos w (show (0 : Int) < ((left.length : Nat) : Int) by omega)
          have hmod : modD (.int w) (.int (left.length : Int)) = some (.int (w % (left.length : Int))) := by simp [hlp]
          have hlp2 : (0 : Int) < (left.length : Int) := by omega
          have hlp3 : (left.length : Int) < 1000000000000000000000000 := by omega
          have hdiv : divD (.int w) (.int (left.length : Int)) = some (.int (w / (left.length : Int))) := by simp [hlp, hlp3]
          have hlen : lenD [rowD (numL left)] = some (.int (left.length : Int)) := by rw [lenR, hnl]
          refine seq_nx fun bb hb => nxR_of (r := [some (.scr ns, 0), some (.int 2, 0), some (.int (n : Int), 0), some (rowD (numL left), 1), some (.int w, l4), some (rowD (numL row), 9), some (.int (w / (left.length : Int)), 0)]) (by
            generalize rowD (numL row) = Y
            generalize rowD (numL left) = Z at hlen ⊢
            simp [hlen, hdiv, -v_div]) ?_
          subst hb
          generalize w / (left.length : Int) = w2
          have he : eB modD (eV 4) (eBi lenD (aCons (eV 3) aNil)) (full [some (.scr ns, 0), some (.int 2, 0), some (.int (n : Int), 0), some (rowD (numL left), 1), some (.int w, l4), some (rowD (numL row), 9), some (.int w2, 0)]) = okR (.int (w % (left.length : Int))) := by
            generalize rowD (numL row) = Y
            generalize rowD (numL left) = Z at hlen ⊢
            simp [hlen, hmod, -v_mod]
          generalize w % (left.length : Int) = z at *
          have hzt : z.toNat < left.length := by omega
          have e1 : Dt.lst (((numL left).map Dt.int).eraseIdx z.toNat) = rowD (numL (left.eraseIdx z.toNat)) := by
            unfold rowD numL
            rw [eraseB, eraseB]
          have e2 : Dt.lst ((numL row).map Dt.int ++ [.int (left.getD z.toNat 0 : Nat)]) = rowD (numL (row ++ [left.getD z.toNat 0])) := by
            unfold rowD numL
            simp [-List.getD_eq_getElem?_getD]
          have hap := appPop_go (r := [some (.scr ns, 0), some (.int 2, 0), some (.int (n : Int), 0), some (rowD (numL left), 1), some (.int w, l4), some (rowD (numL row), 9), some (.int w2, 0)]) (i := 3) (j := 5) (k := 0) (l := 8) (ds := (numL left).map Dt.int) (es := (numL row).map Dt.int) (c := .int (left.getD z.toNat 0 : Nat)) rfl rfl he z0 (by simp [numL]; omega) (by simp [numL, List.getElem?_eq_getElem hzt, List.getD_eq_getElem?_getD]) (by simp) (by omega) (by simp [numL]; omega) (by simp [numL]; omega) (by omega)
          rw [e1, e2] at hap
          refine seq_nx fun bb hb => nxR_of hap ?_
          subst hb
          refine nxR_of (r := [some (.scr ns, 0), some (.int 2, 0), some (.int (n : Int), 0), some (rowD (numL (left.eraseIdx z.toNat)), 1), some (.int w2, 0), some (rowD (numL (row ++ [left.getD z.toNat 0])), 9), some (.int w2, 0)]) ?_ ⟨⟨row ++ [left.getD z.toNat 0], left.eraseIdx z.toNat, _, _, _, rfl, ?_⟩, ?_⟩
          · show sSet 4 0 [6] (eV 6) [some (.scr ns, 0), some (.int 2, 0), some (.int (n : Int), 0), some (rowD (numL (left.eraseIdx z.toNat)), 1), some (.int w, l4), some (rowD (numL (row ++ [left.getD z.toNat 0])), 9), some (.int w2, 0)] = _
            generalize rowD (numL (left.eraseIdx z.toNat)) = Z
            generalize rowD (numL (row ++ [left.getD z.toNat 0])) = Y
            simp
          · refine List.Perm.trans ?_ hp
            rw [List.append_assoc]
            refine List.Perm.append_left row ?_
            rw [List.singleton_append]
            have hg : left.getD z.toNat 0 = left[z.toNat] := by rw [List.getD_eq_getElem?_getD, List.getElem?_eq_getElem hzt]; rfl
            rw [hg]
            exact (perm_pick left hzt).symm
          · show ((numL (left.eraseIdx z.toNat)).map Dt.int).length < ((numL left).map Dt.int).length
            simp only [numL, List.length_map]
            rw [List.length_eraseIdx, if_pos hzt]
            omega
  rintro r ⟨row, o3, o4, o6, rfl, hp⟩
  refine .inr ⟨rowD (numL row), ?_, row, rfl, twice_of hp⟩
  generalize rowD (numL row) = Y
  simp [sRetV]
theorem seat_turn2 {n k : Int} {R : List (List Nat)} {lv l0 : Nat} {h0 : Int} {o6 : Option Sl} :
    nxR (sFor [] (iSq (eTup (aCons (eC (.int 4)) (aCons (eC (.int 3)) (aCons (eC (.int 2)) (aCons (eC (.int 1)) aNil)))))) (.one 6) (sSeq (sAppPop 5 4 (eB modD (eV 0) (eV 6)))
      (sSet 0 0 [0, 6] (eB divD (eV 0) (eV 6)))) [some (.int h0, l0), some (.int n, 0), some (rowsD R, lv), some (.int k, 0), some (rowD (numL [0, 1, 2, 3]), 1), some (rowD (numL []), 9), o6])
      (fun r => ∃ so : List Nat, ∃ h l0 o4 o6, r = [some (.int h, l0), some (.int n, 0), some (rowsD R, lv), some (.int k, 0), o4, some (rowD (numL so), 9), o6] ∧ so.Perm [0, 1, 2, 3]) := by
  generalize rowsD R = RR
  have hi : ∀ ρ : Rh, iSq (eTup (aCons (eC (.int 4)) (aCons (eC (.int 3)) (aCons (eC (.int 2)) (aCons (eC (.int 1)) aNil))))) ρ = okR (([4, 3, 2, 1] : List Nat).map fun m : Nat => Dt.int (m : Int)) := fun ρ => by simp
  rw [x_sFor, hi]
  show nxR (bindR (okR (([4, 3, 2, 1] : List Nat).map fun m : Nat => Dt.int (m : Int))) fun ds => forGo (.one 6) _ ds [some (.int h0, l0), some (.int n, 0), some (RR, lv), some (.int k, 0), some (rowD (numL [0, 1, 2, 3]), 1), some (rowD (numL []), 9), o6]) _
  rw [bindR_ok]
  refine nx_each (fun m : Nat => Dt.int (m : Int)) [4, 3, 2, 1] (fun j r => ∃ so left : List Nat, ∃ h : Int, ∃ l0 o6, r = [some (.int h, l0), some (.int n, 0), some (RR, lv), some (.int k, 0), some (rowD (numL left), 1), some (rowD (numL so), 9), o6] ∧ (so ++ left).Perm [0, 1, 2, 3] ∧ so.length = j) ⟨[], [0, 1, 2, 3], _, _, _, rfl, List.Perm.refl _, rfl⟩ (fun j m hm r hr => ?_) fun r hr => ?_
  · obtain ⟨so, left, h, l0, o6, rfl, hp, hl⟩ := hr
    have hmj : m + j = 4 := by
      match j, hm with
      | 0, hm => cases hm; rfl
      | 1, hm => cases hm; rfl
      | 2, hm => cases hm; rfl
      | 3, hm => cases hm; rfl
      | j + 4, hm => simp at hm
    have hj4 : j < 4 := by
      have := (List.getElem?_eq_some_iff.mp hm).1
      simpa using this
    have hll : left.length = m := by
      have := hp.length_eq
      simp at this
      omega
    have z0 := Int.emod_nonneg h (show ((m : Nat) : Int) ≠ 0 by omega)
    have z1 := Int.emod_lt_of_pos h (show (0 : Int) < ((m : Nat) : Int) by omega)
    have hm0 : ¬ (m : Int) = 0 := by omega
    have hmp : 0 < m := by omega
    obtain ⟨z, hz⟩ : ∃ z, h % (m : Int) = z := ⟨_, rfl⟩
    rw [hz] at z0 z1
    have he : eB modD (eV 0) (eV 6) (full [some (.int h, l0), some (.int n, 0), some (RR, lv), some (.int k, 0), some (rowD (numL left), 1), some (rowD (numL so), 9), some (.int (m : Int), 0)]) = okR (.int z) := by
      generalize rowD (numL left) = Z
      generalize rowD (numL so) = Y
      simp [hmp, hz]
    have hzt : z.toNat < left.length := by omega
    show nxR (sSeq _ _ [some (.int h, l0), some (.int n, 0), some (RR, lv), some (.int k, 0), some (rowD (numL left), 1), some (rowD (numL so), 9), some (.int (m : Int), 0)]) _
    have e1 : Dt.lst (((numL left).map Dt.int).eraseIdx z.toNat) = rowD (numL (left.eraseIdx z.toNat)) := by
      unfold rowD numL
      rw [eraseB, eraseB]
    have e2 : Dt.lst ((numL so).map Dt.int ++ [.int (left.getD z.toNat 0 : Nat)]) = rowD (numL (so ++ [left.getD z.toNat 0])) := by
      unfold rowD numL
      simp [-List.getD_eq_getElem?_getD]
    have hap := appPop_go (r := [some (.int h, l0), some (.int n, 0), some (RR, lv), some (.int k, 0), some (rowD (numL left), 1), some (rowD (numL so), 9), some (.int (m : Int), 0)]) (i := 4) (j := 5) (k := 0) (l := 8) (ds := (numL left).map Dt.int) (es := (numL so).map Dt.int) (c := .int (left.getD z.toNat 0 : Nat)) rfl rfl he z0 (by simp [numL]; omega) (by simp [numL, List.getElem?_eq_getElem hzt, List.getD_eq_getElem?_getD]) (by simp) (by omega) (by simp [numL]; omega) (by simp [numL]; omega) (by omega)
    rw [e1, e2] at hap
    refine seq_nx fun bb hb => nxR_of hap ?_
    subst hb
    refine nxR_of (r := [some (.int (h / (m : Int)), 0), some (.int n, 0), some (RR, lv), some (.int k, 0), some (rowD (numL (left.eraseIdx z.toNat)), 1), some (rowD (numL (so ++ [left.getD z.toNat 0])), 9), some (.int (m : Int), 0)]) ?_ ⟨so ++ [left.getD z.toNat 0], left.eraseIdx z.toNat, _, _, _, rfl, ?_, by simp [hl]⟩
    · show sSet 0 0 [0, 6] (eB divD (eV 0) (eV 6)) [some (.int h, l0), some (.int n, 0), some (RR, lv), some (.int k, 0), some (rowD (numL (left.eraseIdx z.toNat)), 1), some (rowD (numL (so ++ [left.getD z.toNat 0])), 9), some (.int (m : Int), 0)] = _
      generalize rowD (numL (left.eraseIdx z.toNat)) = Z
      generalize rowD (numL (so ++ [left.getD z.toNat 0])) = Y
      have hm3 : (m : Int) < 1000000000000000000000000 := by omega
      simp [hmp, hm3]
    · refine List.Perm.trans ?_ hp
      rw [List.append_assoc]
      refine List.Perm.append_left so ?_
      rw [List.singleton_append]
      have hg : left.getD z.toNat 0 = left[z.toNat] := by rw [List.getD_eq_getElem?_getD, List.getElem?_eq_getElem hzt]; rfl
      rw [hg]
      exact (perm_pick left hzt).symm
  · obtain ⟨so, left, h, l0, o6, rfl, hp, hl⟩ := hr
    have hle : left = [] := by
      have := hp.length_eq
      simp at this
      exact List.eq_nil_of_length_eq_zero (by simp at hl; omega)
    subst hle
    rw [List.append_nil] at hp
    exact ⟨so, _, _, _, _, rfl, hp⟩
theorem seats2_prog (c : Int) (n : Nat) (n1 : 1 ≤ n) (n9 : n ≤ 100) : ∃ R, Seats R n ∧ m__law_seats_v2 [.int c, .int (n : Int)] = okR (rowsD R) := by
  suffices h : eiR (b__law_seats_v2 [some (.int c, 0), some (.int (n : Int), 0), none, none, none, none, none]) (fun _ => False) (fun d => ∃ R, d = rowsD R ∧ Seats R n) by
    rcases h with ⟨_, _, z⟩ | ⟨d, h1, R, rfl, h2⟩
    · exact z.elim
    · exact ⟨R, h2, run_rt rfl h1⟩
  unfold b__law_seats_v2
  refine seq_ei (P := fun r => r = [some (.int c, 0), some (.int (n : Int), 0), some (rowsD [], 9), none, none, none, none]) (ei_nx (by simp; rfl)) ?_
  rintro r rfl
  refine seq_ei (P := fun r => ∃ R, ∃ lv o0 o3 o4 o5 o6, r = [o0, some (.int (n : Int), 0), some (rowsD R, lv + 1), o3, o4, o5, o6] ∧ Seats R n ∧ (lv = 0 ∨ n = 0)) (ei_nx ?_) ?_
  · have hit : iR1 (aCons (eV 1) aNil) (full [some (.int c, 0), some (.int (n : Int), 0), some (rowsD [], 9), none, none, none, none]) = okR (nums 0 n) := x_iR1 (n := n) (by
      generalize rowsD [] = Z
      simp) (by omega)
    rw [x_sForR, hit, bindR_ok]
    refine nx_up (fun k r => ∃ R, ∃ lv h l0 o3 o4 o5 o6, r = [some (.int h, l0), some (.int (n : Int), 0), some (rowsD R, lv + 1), o3, o4, o5, o6] ∧ Seats R k ∧ (lv = 0 ∨ k = 0)) ⟨[], 8, c, 0, none, none, none, none, rfl, ⟨rfl, fun l h => by cases h⟩, .inr rfl⟩ (fun k hk r hr => ?_) fun r hr => ?_
    · obtain ⟨R, lv, h, l0, o3, o4, o5, o6, rfl, hS, hlv⟩ := hr
      show nxR (sSeq _ _ [some (.int h, l0), some (.int (n : Int), 0), some (rowsD R, lv + 1), some (.int (k : Nat), 0), o4, o5, o6]) _
      refine seq_nx fun bb hb => nxR_of (r := [some (.int h, l0), some (.int (n : Int), 0), some (rowsD R, lv + 1), some (.int (k : Nat), 0), some (rowD (numL [0, 1, 2, 3]), 1), o5, o6]) (by
        generalize rowsD R = Z
        simp
        rfl) ?_
      subst hb
      refine seq_nx fun bb hb => nxR_of (r := [some (.int h, l0), some (.int (n : Int), 0), some (rowsD R, lv + 1), some (.int (k : Nat), 0), some (rowD (numL [0, 1, 2, 3]), 1), some (rowD (numL []), 9), o6]) (by
        generalize rowsD R = Z
        generalize rowD (numL [0, 1, 2, 3]) = Y
        simp
        rfl) ?_
      subst hb
      obtain ⟨r', g1, so, h', l0', o4', o6', rfl, hp⟩ := nxR_iff (seat_turn2 (n := (n : Int)) (k := (k : Nat)) (R := R) (lv := lv + 1) (l0 := l0) (h0 := h) (o6 := o6))
      refine seq_nx fun bb hb => nxR_of g1 ?_
      subst hb
      have hRl := hS.len
      refine nxR_of (appF_rows (i := 2) (v := 5) (R := R) (l := so) (lv := lv) (lx := 9) rfl rfl (by decide) (fun ρ hρ => by show (match ρ[5]? with | some (some d) => okR d | _ => none) = _; rw [hρ]) (by omega)) ⟨R ++ [so], 0, h', l0', some (.int (k : Nat), 0), o4', some (rowD (numL so), 0), o6', rfl, ⟨by simp [hRl], fun l hl => ?_⟩, .inl rfl⟩
      rcases List.mem_append.mp hl with h | h
      · exact hS.per l h
      · simp at h; subst h; exact hp
    · obtain ⟨R, lv, h, l0, o3, o4, o5, o6, rfl, hS, hlv⟩ := hr
      exact ⟨R, lv, _, _, _, _, _, rfl, hS, hlv⟩
  rintro r ⟨R, lv, o0, o3, o4, o5, o6, rfl, hS, hlv⟩
  have : lv = 0 := by omega
  subst this
  refine .inr ⟨rowsD R, ?_, R, rfl, hS⟩
  generalize rowsD R = Z
  simp [sRetV]
end Mp

namespace Mp
open Mi PySem
end Mp

namespace Mp
open Mi PySem
def Sm (ts cs : List Nat) (n x y : Nat) : Prop := ∀ S : Nat → Prop, Clo ts cs n S → S x → S y
theorem Sm.rfl' {ts cs : List Nat} {n x : Nat} : Sm ts cs n x x := fun _ _ h => h
theorem Sm.trans {ts cs : List Nat} {n x y z : Nat} (h1 : Sm ts cs n x y) (h2 : Sm ts cs n y z) : Sm ts cs n x z := fun S hS h => h2 S hS (h1 S hS h)
section
variable {ts cs : List Nat} {n : Nat} (hN : NetN ts (4 * n)) (hl : cs.length = n) (hw : ∀ c ∈ cs, c < 3)
include hN hl hw
theorem Sm.symm {x y : Nat} (h : Sm ts cs n x y) : Sm ts cs n y x := fun S hS hy => Classical.byContradiction fun hx => h _ (hS.neg hN hl hw) hx hy
omit hN hl hw in
omit hN hl hw in
end
noncomputable def bP (P : Prop) : Bool := @decide P (Classical.propDecidable P)
theorem bP_t {P : Prop} : bP P = true ↔ P := by unfold bP; exact @decide_eq_true_iff P (Classical.propDecidable P)
theorem bP_f {P : Prop} : bP P = false ↔ ¬ P := by unfold bP; exact @decide_eq_false_iff_not P (Classical.propDecidable P)
noncomputable def cnt (M : Nat) (r : Nat → Nat → Prop) : Nat := (List.range M).countP fun x => bP (∀ y, y < x → ¬ r y x)
theorem rdS_from (f : Nat → List Nat) : ∀ k, ∀ l ∈ (rdS f k).1, ∃ y, y < k ∧ l = f y
  | 0, l, h => by simp [rdS] at h
  | k + 1, l, h => by
    by_cases hg : (getW (rdS f k).2 (.inl (k : Int))).isSome = true
    · rw [show rdS f (k + 1) = rdS f k by rw [rdS, if_pos hg]] at h
      obtain ⟨y, h1, h2⟩ := rdS_from f k l h
      exact ⟨y, by omega, h2⟩
    · rw [show rdS f (k + 1) = ((rdS f k).1 ++ [f k], markN (rdS f k).2 (f k)) by rw [rdS, if_neg hg]] at h
      rcases List.mem_append.mp h with h | h
      · obtain ⟨y, h1, h2⟩ := rdS_from f k l h
        exact ⟨y, by omega, h2⟩
      · simp at h
        exact ⟨k, by omega, h⟩
structure Named (ts : List Nat) (n : Nat) (g : Nat → Nat) : Prop where
  tie : ∀ e, e < 4 * n → g (e / 4) = g (nt ts e / 4)
  min : ∀ (P : Nat → Prop), (∀ e, e < 4 * n → (P (e / 4) ↔ P (nt ts e / 4))) → ∀ p p', p < n → p' < n → g p = g p' → P p → P p'
section
variable {ts : List Nat} {n : Nat} {g : Nat → Nat} (hN : NetN ts (4 * n)) (hne : ∀ x, x < 4 * n → nt ts x ≠ x) (hg : Named ts n g)
include hN hne hg
end
end Mp

namespace Mp
open Mi PySem
theorem mul4' {n : Nat} : mulD (.int 4) (.int (n : Int)) = some (.int ((4 * n : Nat) : Int)) := by
  rw [mul_l (by omega) (by omega)]
  congr 2
theorem any_net2 (ns : List Int) (a : Int) (ha : 0 ≤ a) (ha2 : a < 1000) (n : Nat) (h1 : 1 ≤ n) (hn : n ≤ 20) : ∃ ms, FW.NetL ms (4 * n) ∧ m__law_any_net_v2 [.scr ns, .int a, .int (n : Int)] = okR (rowD ms) := by
  suffices h : eiR (b__law_any_net_v2 [some (.scr ns, 0), some (.int a, 0), some (.int (n : Int), 0), none, none, none, none, none, none]) (fun _ => False) (fun d => ∃ ms, d = rowD ms ∧ FW.NetL ms (4 * n)) by
    rcases h with ⟨_, _, z⟩ | ⟨d, h1, ms, rfl, h2⟩
    · exact z.elim
    · exact ⟨ms, h2, run_rt rfl h1⟩
  have m0 := mul4' (n := n)
  have hra : rangeD [.int ((4 * n : Nat) : Int)] = some (rowD (numL (List.range (4 * n)))) := by
    rw [v_range (by omega) (by omega), show (((4 * n : Nat) : Int)).toNat = 4 * n by omega, nums_ints]
    rfl
  have hrp := rep_zero (4 * n) (by omega)
  unfold b__law_any_net_v2
  refine seq_ei (P := fun r => r = [some (.scr ns, 0), some (.int a, 0), some (.int (n : Int), 0), some (rowD (numL (List.range (4 * n))), 1), none, none, none, none, none]) (ei_nx ?_) ?_
  · have hd := dep_row (numL (List.range (4 * n)))
    generalize rowD (numL (List.range (4 * n))) = Z at hra hd ⊢
    simp only [x_sSet, x_full_cons, x_full_nil, Option.map_some, Option.map_none, x_eBi, x_aCons, x_aNil, x_eB, x_eC, x_eV, List.getElem?_cons_succ, List.getElem?_cons_zero, bindR_ok, m0, optR_some, hra]
    rw [if_pos (by omega)]
    exact nxR_of rfl rfl
  rintro r rfl
  refine seq_ei (P := fun r => r = [some (.scr ns, 0), some (.int a, 0), some (.int (n : Int), 0), some (rowD (numL (List.range (4 * n))), 1), some (rowD (List.replicate (4 * n) 0), 1), none, none, none, none]) (ei_nx ?_) ?_
  · generalize rowD (numL (List.range (4 * n))) = Z
    have hd := dep_row (List.replicate (4 * n) 0)
    generalize rowD (List.replicate (4 * n) 0) = Y at hrp hd ⊢
    simp only [x_sSet, x_full_cons, x_full_nil, Option.map_some, Option.map_none, x_eLst, x_aCons, x_aNil, x_eB, x_eC, x_eV, List.getElem?_cons_succ, List.getElem?_cons_zero, bindR_ok, m0, optR_some]
    rw [if_pos (by simp), bindR_ok, hrp, optR_some, bindR_ok, if_pos (by omega)]
    exact nxR_of rfl rfl
  rintro r rfl
  obtain ⟨c0, e0⟩ := cell4 ns a ha ha2
  refine seq_ei (P := fun r => r = [some (.scr ns, 0), some (.int a, 0), some (.int (n : Int), 0), some (rowD (numL (List.range (4 * n))), 1), some (rowD (List.replicate (4 * n) 0), 1), some (.int c0, 1), none, none, none]) (ei_nx ?_) ?_
  · generalize rowD (numL (List.range (4 * n))) = Z
    generalize rowD (List.replicate (4 * n) 0) = Y
    simp [e0]
  rintro r rfl
  refine seq_ei (P := fun r => ∃ ms : List Int, ∃ o3 o5 o6 o7 o8, r = [some (.scr ns, 0), some (.int a, 0), some (.int (n : Int), 0), o3, some (rowD ms, 1), o5, o6, o7, o8] ∧ FW.NetL ms (4 * n)) (ei_nx ?_) ?_
  · refine nx_while (fun r => ∃ left : List Nat, ∃ ms : List Int, ∃ w : Int, ∃ l5 o6 o7 o8, r = [some (.scr ns, 0), some (.int a, 0), some (.int (n : Int), 0), some (rowD (numL left), 1), some (rowD ms, 1), some (.int w, l5), o6, o7, o8] ∧ FW.Part left ms (4 * n) ∧ left.length ≤ 4 * n) (fun r => lenAt 3 r) (fun r => ∃ ms : List Int, ∃ o3 o5 o6 o7 o8, r = [some (.scr ns, 0), some (.int a, 0), some (.int (n : Int), 0), o3, some (rowD ms, 1), o5, o6, o7, o8] ∧ FW.NetL ms (4 * n)) ⟨_, _, _, _, _, _, _, rfl, FW.Part.start (4 * n) (by omega), by simp⟩ ?_ ?_ fun r hr => hr
    · show ((numL (List.range (4 * n))).map Dt.int).length < 1000000
      simp [numL]
      omega
    · rintro r ⟨left, ms, w, l5, o6, o7, o8, rfl, hP, hll⟩
      match left, hll, hP with
      | [], hll, hP =>
        refine .inl ⟨?_, ms, _, _, _, _, _, rfl, hP.done⟩
        show tB (eB neD (eV 3) (eLst aNil)) (full [some (.scr ns, 0), some (.int a, 0), some (.int (n : Int), 0), some (.lst [], 1), some (rowD ms, 1), some (.int w, l5), o6, o7, o8]) = okR false
        generalize rowD ms = Y
        simp
        rfl
      | [x], hll, hP => have := hP.ev; simp at this
      | x :: y :: l, hll, hP =>
        have hq := eq_row (numL (x :: y :: l)) []
        replace hq : Dt.eq (rowD (numL (x :: y :: l))) (.lst []) = decide (numL (x :: y :: l) = []) := hq
        have hd := dep_row (numL (x :: y :: l))
        have hne : (numL (x :: y :: l) = []) = False := eq_false fun z => by
          have := congrArg List.length z
          simp [numL] at this
        refine .inr ⟨?_, ?_⟩
        · generalize rowD ms = Y
          generalize rowD (numL (x :: y :: l)) = Z at hq hd ⊢
          simp [hq, hd, hne]
        simp only [List.length_cons] at hll
        have hx := hP.lt x (by simp)
        have hml := hP.len
        have g0 : (numL (x :: y :: l)).getD 0 0 = (x : Int) := rfl
        refine seq_nx fun bb hb => ?_
        refine nxR_of (r := [some (.scr ns, 0), some (.int a, 0), some (.int (n : Int), 0), some (rowD (numL (y :: l)), 1), some (rowD ms, 1), some (.int w, l5), some (.int (x : Int), 0), o7, o8]) (pop_ints (i := 3) (j := 6) (l := 0) (ls := numL (x :: y :: l)) (z := 0) rfl rfl (by omega) (by simp [numL]; omega) (by omega) (by simp [numL]; omega)) ?_
        subst hb
        have hnl : (numL (y :: l)).length = l.length + 1 := by simp [numL]
        have hlen : lenD [rowD (numL (y :: l))] = some (.int ((l.length + 1 : Nat) : Int)) := by rw [lenR, hnl]
        have hlp : (0 : Int) < ((l.length + 1 : Nat) : Int) := by omega
        have hlp0 : ((l.length + 1 : Nat) : Int) ≠ 0 := by omega
        have hlp3 : ((l.length + 1 : Nat) : Int) < 1000000000000000000000000 := by omega
        obtain ⟨z, hz⟩ : ∃ z, w % ((l.length + 1 : Nat) : Int) = z := ⟨_, rfl⟩
        have z0 : 0 ≤ z := by rw [← hz]; exact Int.emod_nonneg _ hlp0
        have z1 : z < ((l.length + 1 : Nat) : Int) := by rw [← hz]; exact Int.emod_lt_of_pos _ hlp
        have hmod : modD (.int w) (.int ((l.length + 1 : Nat) : Int)) = some (.int z) := by
          rw [← hz]
          simp only [v_mod]
          rw [if_pos hlp]
        generalize hLL : ((l.length + 1 : Nat) : Int) = LL at *
        have hdiv : divD (.int w) (.int LL) = some (.int (w / LL)) := by
          simp only [v_div]
          rw [if_pos]
          omega
        refine seq_nx fun bb hb => nxR_of (r := [some (.scr ns, 0), some (.int a, 0), some (.int (n : Int), 0), some (rowD (numL (y :: l)), 1), some (rowD ms, 1), some (.int w, l5), some (.int (x : Int), 0), some (.int (w / LL), 0), o8]) (by
          generalize rowD (numL (y :: l)) = Z at hlen ⊢
          generalize rowD ms = Y
          simp [hlen, hdiv, -v_div]) ?_
        subst hb
        generalize w / LL = w2
        have he : eB modD (eV 5) (eBi lenD (aCons (eV 3) aNil)) (full [some (.scr ns, 0), some (.int a, 0), some (.int (n : Int), 0), some (rowD (numL (y :: l)), 1), some (rowD ms, 1), some (.int w, l5), some (.int (x : Int), 0), some (.int w2, 0), o8]) = okR (.int z) := by
          generalize rowD (numL (y :: l)) = Z at hlen ⊢
          generalize rowD ms = Y
          simp [hlen, hmod, -v_mod]
        have hzt : z.toNat < (y :: l).length := by simp; omega
        obtain ⟨b', hb'⟩ : ∃ b', (y :: l)[z.toNat]? = some b' := ⟨_, List.getElem?_eq_getElem hzt⟩
        have gz : (numL (y :: l)).getD z.toNat 0 = (b' : Int) := by
          unfold numL
          rw [List.getD_eq_getElem?_getD, List.getElem?_map, hb']
          rfl
        have hbl := hP.lt b' (by have := List.mem_of_getElem? hb'; simp at this ⊢; exact .inr this)
        have her : (numL (y :: l)).eraseIdx z.toNat = numL ((y :: l).eraseIdx z.toNat) := eraseB _ _ _
        refine seq_nx fun bb hb => ?_
        have hpop := pop_ints (i := 3) (j := 8) (l := 0) (ls := numL (y :: l)) (z := z) (r := [some (.scr ns, 0), some (.int a, 0), some (.int (n : Int), 0), some (rowD (numL (y :: l)), 1), some (rowD ms, 1), some (.int w, l5), some (.int (x : Int), 0), some (.int w2, 0), o8]) rfl he z0 (by rw [hnl]; omega) (by omega) (by rw [hnl]; omega)
        rw [gz, her] at hpop
        refine nxR_of (r := [some (.scr ns, 0), some (.int a, 0), some (.int (n : Int), 0), some (rowD (numL ((y :: l).eraseIdx z.toNat)), 1), some (rowD ms, 1), some (.int w, l5), some (.int (x : Int), 0), some (.int w2, 0), some (.int (b' : Int), 0)]) hpop ?_
        subst hb
        have hT := FW.Part.turn (a := x) (b := b') (k := z.toNat) (l := y :: l) hP hb'
        have s4 := item_ints (i := 4) (n := 0) (l := 0) (ls := ms) (e1 := eV 6) (e2 := eV 8) (z := (x : Int)) (v := (b' : Int)) (r := [some (.scr ns, 0), some (.int a, 0), some (.int (n : Int), 0), some (rowD (numL ((y :: l).eraseIdx z.toNat)), 1), some (rowD ms, 1), some (.int w, l5), some (.int (x : Int), 0), some (.int w2, 0), some (.int (b' : Int), 0)]) rfl rfl rfl (by omega) (by omega)
        have s5 := item_ints (i := 4) (n := 0) (l := 0) (ls := ms.set x (b' : Int)) (e1 := eV 8) (e2 := eV 6) (z := (b' : Int)) (v := (x : Int)) (r := [some (.scr ns, 0), some (.int a, 0), some (.int (n : Int), 0), some (rowD (numL ((y :: l).eraseIdx z.toNat)), 1), some (rowD (ms.set x (b' : Int)), 1), some (.int w, l5), some (.int (x : Int), 0), some (.int w2, 0), some (.int (b' : Int), 0)]) rfl rfl rfl (by omega) (by rw [List.length_set]; omega)
        rw [Int.toNat_natCast] at s4 s5
        refine seq_nx fun bb hb => nxR_of s4 ?_
        subst hb
        refine seq_nx fun bb hb => nxR_of s5 ?_
        subst hb
        have hle := FW.len_erase hzt
        simp only [List.length_cons] at hle
        refine nxR_of (r := [some (.scr ns, 0), some (.int a, 0), some (.int (n : Int), 0), some (rowD (numL ((y :: l).eraseIdx z.toNat)), 1), some (rowD ((ms.set x (b' : Int)).set b' (x : Int)), 1), some (.int w2, 0), some (.int (x : Int), 0), some (.int w2, 0), some (.int (b' : Int), 0)]) ?_ ⟨⟨(y :: l).eraseIdx z.toNat, (ms.set x (b' : Int)).set b' (x : Int), w2, _, _, _, _, rfl, hT, by omega⟩, ?_⟩
        · show sSet 5 0 [7] (eV 7) [some (.scr ns, 0), some (.int a, 0), some (.int (n : Int), 0), some (rowD (numL ((y :: l).eraseIdx z.toNat)), 1), some (rowD ((ms.set x (b' : Int)).set b' (x : Int)), 1), some (.int w, l5), some (.int (x : Int), 0), some (.int w2, 0), some (.int (b' : Int), 0)] = _
          generalize rowD (numL ((y :: l).eraseIdx z.toNat)) = Z
          generalize rowD ((ms.set x (b' : Int)).set b' (x : Int)) = Y
          simp
        · show ((numL ((y :: l).eraseIdx z.toNat)).map Dt.int).length < ((numL (x :: y :: l)).map Dt.int).length
          simp only [numL, List.length_map, List.length_cons]
          omega
  rintro r ⟨ms, o3, o5, o6, o7, o8, rfl, hP⟩
  refine .inr ⟨rowD ms, ?_, ms, rfl, hP⟩
  generalize rowD ms = Y
  simp [sRetV]
end Mp

namespace Mp
open Mi PySem
def Fst (r : Nat → Nat → Prop) (x : Nat) : Prop := ∀ y, y < x → ¬ r y x
theorem rdS_lists {f : Nat → List Nat} {M : Nat} {r : Nat → Nat → Prop} (rf : ∀ x, r x x) (tr : ∀ x y z, r x y → r y z → r x z) (hf : ∀ e, e < M → ∀ x, x ∈ f e ↔ (x < M ∧ r e x)) : ∀ k, k ≤ M → (rdS f k).1 = ((List.range k).filter fun x => bP (Fst r x)).map f
  | 0, _ => by simp [rdS]
  | k + 1, hk => by
    have ih := rdS_lists rf tr hf k (by omega)
    have hm : (getW (rdS f k).2 (.inl (k : Int))).isSome = true ↔ ∃ y, y < k ∧ r y k := by
      rw [rdS_marks]
      constructor
      · rintro ⟨l, h1, h2⟩
        obtain ⟨y, hy, e⟩ := rdS_from f k l h1
        rw [e] at h2
        exact ⟨y, hy, ((hf y (by omega) k).mp h2).2⟩
      · rintro ⟨y, hy, hr⟩
        have hc := rdS_cover f k (fun e he => (hf e (by omega) e).mpr ⟨by omega, rf e⟩) y hy
        obtain ⟨l, h1, h2⟩ := (rdS_marks f y k).mp hc
        obtain ⟨z, hz, e⟩ := rdS_from f k l h1
        refine ⟨l, h1, ?_⟩
        rw [e] at h2 ⊢
        exact (hf z (by omega) k).mpr ⟨by omega, tr _ _ _ ((hf z (by omega) y).mp h2).2 hr⟩
    rw [List.range_succ, List.filter_append, List.map_append, ← ih]
    by_cases hg : (getW (rdS f k).2 (.inl (k : Int))).isSome = true
    · rw [show rdS f (k + 1) = rdS f k by rw [rdS, if_pos hg]]
      obtain ⟨y, hy, hr⟩ := hm.mp hg
      have : bP (Fst r k) = false := by rw [bP_f]; exact fun z => z y hy hr
      simp [this]
    · rw [show rdS f (k + 1) = ((rdS f k).1 ++ [f k], markN (rdS f k).2 (f k)) by rw [rdS, if_neg hg]]
      have : bP (Fst r k) = true := by rw [bP_t]; exact fun y hy z => hg (hm.mpr ⟨y, hy, z⟩)
      simp [this]
theorem flat_nodup {f : Nat → List Nat} : ∀ {L : List Nat}, (∀ y ∈ L, (f y).Nodup) → L.Pairwise (fun a b => ∀ x, x ∈ f a → x ∈ f b → False) → (L.map f).flatten.Nodup
  | [], _, _ => by simp
  | a :: L, h1, h2 => by
    obtain ⟨h3, h4⟩ := List.pairwise_cons.mp h2
    simp only [List.map_cons, List.flatten_cons]
    refine List.nodup_append.mpr ⟨h1 a (by simp), flat_nodup (fun y hy => h1 y (by simp [hy])) h4, fun x hx y hy e => ?_⟩
    subst e
    obtain ⟨l, hl, hxl⟩ := List.mem_flatten.mp hy
    obtain ⟨b, hb, rfl⟩ := List.mem_map.mp hl
    exact h3 b hb x hx hxl
theorem rnds4 {ts cs : List Nat} {n : Nat} (n1 : 1 ≤ n) (hn : n ≤ 30) (hN : NetN ts (4 * n)) (hne : ∀ x, x < 4 * n → nt ts x ≠ x) (hl : cs.length = n) (hw : ∀ c ∈ cs, c < 3) :
    ∃ f : Nat → List Nat, (∀ k, (f k).length ≤ 8 * n) ∧ (∀ e, e < 4 * n → m_round_of [rowD (numL ts), rowD (numL cs), .int (e : Int)] = okR (rowD (numL (f e)))) ∧ m__law_rounds [rowD (numL ts), rowD (numL cs)] = okR (rowsD (rdS f (4 * n)).1) ∧
      (∀ l ∈ (rdS f (4 * n)).1, ∃ y, y < 4 * n ∧ l = f y ∧ l.getD 0 0 = y ∧ l ≠ [] ∧ ∀ x ∈ l, y ≤ x) ∧ (rdS f (4 * n)).1.flatten.Perm (List.range (4 * n)) := by
  obtain ⟨st1, st2⟩ := stp_ok hN hl hw
  have hp : ∀ e, ∃ p, e < 4 * n → 1 ≤ p ∧ p ≤ 4 * n ∧ itr (stp ts cs) p e = e ∧ ∀ q, 1 ≤ q → q < p → itr (stp ts cs) q e ≠ e := fun e => by
    by_cases he : e < 4 * n
    · obtain ⟨p, h⟩ := comes_back st1 st2 he
      exact ⟨p, fun _ => h⟩
    · exact ⟨0, fun z => absurd z he⟩
  obtain ⟨P, hP⟩ : ∃ P : Nat → Nat, ∀ e, e < 4 * n → 1 ≤ P e ∧ P e ≤ 4 * n ∧ itr (stp ts cs) (P e) e = e ∧ ∀ q, 1 ≤ q → q < P e → itr (stp ts cs) q e ≠ e := ⟨fun e => Classical.choose (hp e), fun e => Classical.choose_spec (hp e)⟩
  obtain ⟨f, hf⟩ : ∃ f : Nat → List Nat, ∀ e, f e = if e < 4 * n then orb ts cs e (P e) else [] := ⟨_, fun _ => rfl⟩
  have hfo : ∀ e, e < 4 * n → f e = orb ts cs e (P e) := fun e he => by rw [hf e, if_pos he]
  have hfl : ∀ k, (f k).length ≤ 8 * n := fun k => by
    by_cases hk : k < 4 * n
    · rw [hfo k hk, orb_len]
      have := (hP k hk).2.1
      omega
    · rw [hf k, if_neg hk]; simp
  have hro : ∀ e, e < 4 * n → m_round_of [rowD (numL ts), rowD (numL cs), .int (e : Int)] = okR (rowD (numL (f e))) := fun e he => by
    rw [hfo e he]
    obtain ⟨h1, h2, h3, h4⟩ := hP e he
    exact round_prog hN hl (by omega) hw he h1 h2 h3 h4
  have r2 := lrounds_prog (cs := cs) hN hn hfl fun e he => by
    rw [hfo e he]
    obtain ⟨h1, h2, h3, h4⟩ := hP e he
    exact lround_prog hN hl (by omega) hw he h1 h2 h3 h4
  have hfr : ∀ e, e < 4 * n → ∀ x, x ∈ f e ↔ (x < 4 * n ∧ Sm ts cs n e x) := fun e he x => by
    obtain ⟨a1, a2, a3, a4⟩ := hP e he
    rw [hfo e he]
    constructor
    · intro hx
      obtain ⟨i, hi, z | z⟩ := orb_mem.mp hx
      · exact ⟨by rw [z]; exact itr_lt st1 he i, fun S hS hs => by rw [z]; exact itr_in hN hl hw hS he hs i⟩
      · exact ⟨by rw [z]; exact (jn_ok hl hw (itr_lt st1 he i)).1, fun S hS hs => by rw [z]; exact hS.jn _ (itr_lt st1 he i) (itr_in hN hl hw hS he hs i)⟩
    · rintro ⟨hx, hs⟩
      exact hs _ (orb_clo hN hl hw he a1 a3) (orb_mem.mpr ⟨0, a1, .inl rfl⟩)
  have hls := rdS_lists (r := Sm ts cs n) (fun x => Sm.rfl') (fun x y z a b => a.trans b) hfr (4 * n) (Nat.le_refl _)
  have hrep : ∀ y ∈ (List.range (4 * n)).filter fun x => bP (Fst (Sm ts cs n) x), y < 4 * n ∧ Fst (Sm ts cs n) y := fun y hy => by
    obtain ⟨h1, h2⟩ := List.mem_filter.mp hy
    exact ⟨List.mem_range.mp h1, bP_t.mp h2⟩
  refine ⟨f, hfl, hro, r2, fun l hl' => ?_, ?_⟩
  · rw [hls] at hl'
    obtain ⟨y, hy, rfl⟩ := List.mem_map.mp hl'
    obtain ⟨y1, y2⟩ := hrep y hy
    obtain ⟨a1, a2, a3, a4⟩ := hP y y1
    refine ⟨y, y1, rfl, ?_, ?_, fun x hx => ?_⟩
    · rw [hfo y y1]
      have := (orb_get (ts := ts) (cs := cs) (e := y) (show 0 < P y by omega)).1
      exact this
    · intro z
      have := congrArg List.length z
      rw [hfo y y1, orb_len] at this
      simp at this
      omega
    · obtain ⟨hx1, hx2⟩ := (hfr y y1 x).mp hx
      refine Classical.byContradiction fun z => y2 x (by omega) (hx2.symm hN hl hw)
  · have hnd : (rdS f (4 * n)).1.flatten.Nodup := by
      rw [hls]
      refine flat_nodup (fun y hy => ?_) ?_
      · obtain ⟨y1, _⟩ := hrep y hy
        obtain ⟨a1, a2, a3, a4⟩ := hP y y1
        rw [hfo y y1]
        exact orb_nodup hN hne hl hw y1 a3 a4 _ (Nat.le_refl _)
      · have hpw : ((List.range (4 * n)).filter fun x => bP (Fst (Sm ts cs n) x)).Pairwise (· < ·) := List.Pairwise.filter _ List.pairwise_lt_range
        have : ∀ L : List Nat, (∀ y ∈ L, y < 4 * n ∧ Fst (Sm ts cs n) y) → L.Pairwise (· < ·) → L.Pairwise (fun a b => ∀ x, x ∈ f a → x ∈ f b → False) := by
          intro L
          induction L with
          | nil => intro _ _; exact List.Pairwise.nil
          | cons a L ih =>
            intro h1 h2
            obtain ⟨h3, h4⟩ := List.pairwise_cons.mp h2
            refine List.pairwise_cons.mpr ⟨fun b hb x hxa hxb => ?_, ih (fun y hy => h1 y (by simp [hy])) h4⟩
            obtain ⟨a1, a2⟩ := h1 a (by simp)
            obtain ⟨b1, b2⟩ := h1 b (by simp [hb])
            have c1 := ((hfr a a1 x).mp hxa).2
            have c2 := ((hfr b b1 x).mp hxb).2
            exact b2 a (h3 b hb) (c1.trans (c2.symm hN hl hw))
        exact this _ hrep hpw
    refine (List.perm_ext_iff_of_nodup hnd List.nodup_range).mpr fun x => ?_
    rw [List.mem_range]
    constructor
    · intro hx
      obtain ⟨l, h1, h2⟩ := List.mem_flatten.mp hx
      rw [hls] at h1
      obtain ⟨y, hy, rfl⟩ := List.mem_map.mp h1
      exact ((hfr y (hrep y hy).1 x).mp h2).1
    · intro hx
      obtain ⟨y, y1, y2, y3⟩ := least_of (P := fun y => Sm ts cs n y x) x Sm.rfl'
      refine List.mem_flatten.mpr ⟨f y, ?_, (hfr y (by omega) x).mpr ⟨hx, y2⟩⟩
      rw [hls]
      refine List.mem_map.mpr ⟨y, List.mem_filter.mpr ⟨List.mem_range.mpr (by omega), ?_⟩, rfl⟩
      rw [bP_t]
      exact fun z hz hs => y3 z hz (hs.trans y2)
theorem rounds_prog2 {ts cs : List Nat} {n : Nat} (hN : NetN ts (4 * n)) (hn : n ≤ 30) {f : Nat → List Nat} (hf : ∀ k, (f k).length ≤ 8 * n)
    (hr : ∀ e, e < 4 * n → m_round_of [rowD (numL ts), rowD (numL cs), .int (e : Int)] = okR (rowD (numL (f e)))) :
    m_rounds_of_v2 [rowD (numL ts), rowD (numL cs)] = okR (rowsD (rdS f (4 * n)).1) := by
  have hlen : lenD [rowD (numL ts)] = some (.int ((4 * n : Nat) : Int)) := by
    rw [lenR]
    simp [numL, hN.len]
  have key : b_rounds_of_v2 [some (rowD (numL ts), 0), some (rowD (numL cs), 0), none, none, none, none] = okR (.rt (rowsD (rdS f (4 * n)).1)) := by
    unfold b_rounds_of_v2
    refine seq_go fun bb hb => nxR_of (r := [some (rowD (numL ts), 0), some (rowD (numL cs), 0), some (.lst [], 9), none, none, none]) (by
      generalize rowD (numL cs) = C
      generalize rowD (numL ts) = T
      simp) ?_
    subst hb
    refine seq_go fun bb hb => nxR_of (r := [some (rowD (numL ts), 0), some (rowD (numL cs), 0), some (.lst [], 9), some (.dct [], 1), none, none]) rfl ?_
    subst hb
    refine seq_go fun bb hb => ?_
    rw [x_sForR, show iR1 (aCons (eBi lenD (aCons (eV 0) aNil)) aNil) (full [some (rowD (numL ts), 0), some (rowD (numL cs), 0), some (.lst [], 9), some (.dct [], 1), none, none]) = okR (nums 0 (4 * n)) from x_iR1 (n := 4 * n) (by
      generalize rowD (numL cs) = C
      generalize rowD (numL ts) = T at hlen ⊢
      simp only [x_aCons, x_aNil, x_eBi, x_eV, x_full_cons, x_full_nil, Option.map_some, Option.map_none, List.getElem?_cons_zero, bindR_ok, hlen, optR_some]) (by omega), bindR_ok]
    refine nx_up (fun k r => ∃ o4 o5, r = [some (rowD (numL ts), 0), some (rowD (numL cs), 0), some (rowsD (rdS f k).1, 9), some (.dct (rdS f k).2, 1), o4, o5]) ⟨none, none, rfl⟩ (fun k hk r hr' => ?_) fun r hr' => ?_
    · obtain ⟨o4, o5, rfl⟩ := hr'
      obtain ⟨l1, l2⟩ := rdS_len hf k
      have hfk := hf k
      show nxR (sIf _ _ _ [some (rowD (numL ts), 0), some (rowD (numL cs), 0), some (rowsD (rdS f k).1, 9), some (.dct (rdS f k).2, 1), some (.int (k : Int), 0), o5]) _
      have hrk := hr k hk
      have hcond : (tB (eB (dinD true) (eV 4) (eV 3))) (full [some (rowD (numL ts), 0), some (rowD (numL cs), 0), some (rowsD (rdS f k).1, 9), some (.dct (rdS f k).2, 1), some (.int (k : Int), 0), o5]) = okR (!(getW (rdS f k).2 (.inl (k : Int))).isSome) := rfl
      unfold sIf
      rw [hcond, bindR_ok]
      by_cases hg : (getW (rdS f k).2 (.inl (k : Int))).isSome = true
      · rw [hg]
        have e1 : rdS f (k + 1) = rdS f k := by rw [rdS, if_pos hg]
        exact nxR_of (r := [some (rowD (numL ts), 0), some (rowD (numL cs), 0), some (rowsD (rdS f k).1, 9), some (.dct (rdS f k).2, 1), some (.int (k : Int), 0), o5]) rfl ⟨_, _, by rw [e1]⟩
      · have hg' : (getW (rdS f k).2 (.inl (k : Int))).isSome = false := by simpa using hg
        have e1 : rdS f (k + 1) = ((rdS f k).1 ++ [f k], markN (rdS f k).2 (f k)) := by rw [rdS, if_neg hg]
        rw [hg']
        rw [if_pos (by rfl)]
        have hdl := dep_row (numL (f k))
        refine seq_nx fun bb hb => nxR_of (r := [some (rowD (numL ts), 0), some (rowD (numL cs), 0), some (rowsD (rdS f k).1, 9), some (.dct (rdS f k).2, 1), some (.int (k : Int), 0), some (rowD (numL (f k)), 1)]) (by
          generalize rowD (numL (f k)) = Z at hrk hdl ⊢
          generalize rowD (numL cs) = C at hrk ⊢
          generalize rowD (numL ts) = T at hrk ⊢
          generalize rowsD (rdS f k).1 = RR
          generalize Dt.dct (rdS f k).2 = DD
          simp [hrk, hdl]) ?_
        subst hb
        have hc : eComp (iSq (eV 5)) 1 (.one 6) Mi.tYes (eTup (aCons (eV 6) (aCons (eC (.bl true)) aNil))) [some (rowD (numL ts)), some (rowD (numL cs)), some (rowsD ((rdS f k).1 ++ [f k])), some (.dct (rdS f k).2), some (.int (k : Int)), some (rowD (numL (f k)))] = okR (.lst ((f k).map fun x : Nat => Dt.tup [.int (x : Int), .bl true])) := by
          refine comp_items (ρ := [some (rowD (numL ts)), some (rowD (numL cs)), some (rowsD ((rdS f k).1 ++ [f k])), some (.dct (rdS f k).2), some (.int (k : Int)), some (rowD (numL (f k)))]) (c := tYes) (i := 6) (fun x : Nat => Dt.int (x : Int)) (fun x : Nat => Dt.tup [.int (x : Int), .bl true]) (f k) rfl rfl (fun x _ => ?_) _ ?_ (by omega)
          · generalize rowD (numL (f k)) = Z
            generalize rowD (numL cs) = C
            generalize rowD (numL ts) = T
            generalize rowsD ((rdS f k).1 ++ [f k]) = RR
            generalize Dt.dct (rdS f k).2 = DD
            simp
          · show okR ((numL (f k)).map Dt.int) = _
            unfold numL
            rw [List.map_map]
            rfl
        have hrd : Dt.lst ((rdS f k).1.map (fun l => rowD (numL l)) ++ [rowD (numL (f k))]) = rowsD ((rdS f k).1 ++ [f k]) := by
          unfold rowsD
          rw [List.map_append]
          rfl
        refine nxR_of (r := [some (rowD (numL ts), 0), some (rowD (numL cs), 0), some (rowsD ((rdS f k).1 ++ [f k]), 9), some (.dct (markN (rdS f k).2 (f k)), 1), some (.int (k : Int), 0), none]) ?_ ⟨_, _, by rw [e1]⟩
        show (@ite _ ((2 : Nat) ≠ 5 ∧ ((rdS f k).1.map fun l => rowD (numL l)).length ≤ 100000 ∧ (rowD (numL (f k))).dep ≤ 1 ∧ (rowD (numL (f k))).dep ≤ 8 ∧ 1 < 1000) (Classical.propDecidable _) (sDupd 3 (fun ρ' => (eComp (iSq (eV 5)) 1 (.one 6) Mi.tYes (eTup (aCons (eV 6) (aCons (eC (.bl true)) aNil)))) (ρ'.set 5 (some (rowD (numL (f k)))))) [some (rowD (numL ts), 0), some (rowD (numL cs), 0), some (.lst ((rdS f k).1.map (fun l => rowD (numL l)) ++ [rowD (numL (f k))]), 9), some (.dct (rdS f k).2, 1), some (.int (k : Int), 0), none]) none : R Out) = _
        rw [if_pos ⟨by decide, by simp; omega, by omega, by omega, by omega⟩, hrd]
        show bindR (eComp (iSq (eV 5)) 1 (.one 6) Mi.tYes (eTup (aCons (eV 6) (aCons (eC (.bl true)) aNil))) [some (rowD (numL ts)), some (rowD (numL cs)), some (rowsD ((rdS f k).1 ++ [f k])), some (.dct (rdS f k).2), some (.int (k : Int)), some (rowD (numL (f k)))]) _ = _
        rw [hc, bindR_ok]
        dsimp only
        rw [pairs_marks]
        dsimp only
        have h8 : (rdS f k).2.length ≤ 120 * 240 := Nat.le_trans l2 (Nat.mul_le_mul (by omega) (by omega))
        rw [if_pos (by rw [List.length_map]; omega), fold_marks]
        rfl
    · obtain ⟨o4, o5, rfl⟩ := hr'
      subst hb
      have hd := rowsD_dep (rdS f (4 * n)).1
      generalize rowsD (rdS f (4 * n)).1 = RR at hd ⊢
      generalize rowD (numL cs) = C
      generalize rowD (numL ts) = T
      simp [sRetV, hd]
      omega
  exact run_rt rfl key
theorem rowsL_eqB : ∀ R : List (List Nat), Dt.eqL (R.map fun l => rowD (numL l)) (R.map fun l => rowD (numL l)) = true
  | [] => rfl
  | l :: R => by
    show (Dt.eq (rowD (numL l)) (rowD (numL l)) && Dt.eqL _ _) = true
    rw [eq_row, rowsL_eqB R]
    simp
theorem alike_prog (R : List (List Nat)) (hz : R.length ≤ 1000) (hz2 : ∀ l ∈ R, l.length ≤ 1000) : m__law_alike [rowsD R, rowsD R] = okR (.bl true) := by
  have he : Dt.eq (rowsD R) (rowsD R) = true := rowsL_eqB R
  have hd := rowsD_dep R
  have hl : isiD "list" (rowsD R) = some (.bl true) := rfl
  have hi : ∀ k, isiD "int" (.int k) = some (.bl true) := fun _ => rfl
  have hbo : ∀ k, isiD "bool" (.int k) = some (.bl false) := fun _ => rfl
  have key : b__law_alike [some (rowsD R, 0), some (rowsD R, 0), none] = okR (.rt (.bl true)) := by
    unfold b__law_alike
    refine seq_go fun bb hb => nxR_of (r := [some (rowsD R, 0), some (rowsD R, 0), none]) (by
      generalize rowsD R = Z at he hd hl ⊢
      simp [he, hl, show Z.dep ≤ 40 by omega]) ?_
    subst hb
    refine seq_go fun bb hb => ?_
    have hit : ∀ (body : SM), sFor [0] (iSq (eV 0)) (.one 2) body [some (rowsD R, 0), some (rowsD R, 0), none] = forGo (.one 2) body (R.map fun l => rowD (numL l)) [some (rowsD R, 0), some (rowsD R, 0), none] := fun body => by
      rw [x_sFor]
      rfl
    rw [hit]
    refine nx_each (fun l : List Nat => rowD (numL l)) R (fun j r => ∃ o2, r = [some (rowsD R, 0), some (rowsD R, 0), o2]) ⟨_, rfl⟩ (fun j l hj r hr => ?_) fun r hr => ?_
    · obtain ⟨o2, rfl⟩ := hr
      have hll := hz2 l (List.mem_of_getElem? hj)
      have h1 : isiD "list" (rowD (numL l)) = some (.bl true) := rfl
      have hc : eComp (iSq (eV 2)) 1 (.one 3) Mi.tYes (eAnd (eIsi "int" (eV 3)) (eNot (eIsi "bool" (eV 3)))) [some (rowsD R), some (rowsD R), some (rowD (numL l))] = okR (.lst ((numL l).map fun _ => Dt.bl true)) :=
        comp_items (ρ := [some (rowsD R), some (rowsD R), some (rowD (numL l))]) (i := 3) Dt.int (fun _ => Dt.bl true) (numL l) rfl rfl (fun k _ => by
          generalize rowsD R = Z
          generalize rowD (numL l) = Y
          simp [hi, hbo]) _ (by
          generalize rowsD R = Z
          simp [rowD]) (by simp [numL]; omega)
      have hb := bools_true (numL l)
      show nxR (sSeq _ _ [some (rowsD R, 0), some (rowsD R, 0), some (rowD (numL l), 0)]) _
      generalize Dt.lst ((numL l).map fun _ => Dt.bl true) = LB at hc hb
      generalize rowsD R = Z at hc ⊢
      generalize rowD (numL l) = Y at hc h1 ⊢
      refine seq_nx fun bb hb => nxR_of (r := [some (Z, 0), some (Z, 0), some (Y, 0)]) (by simp [h1]) ?_
      subst hb
      generalize eComp (iSq (eV 2)) 1 (.one 3) Mi.tYes (eAnd (eIsi "int" (eV 3)) (eNot (eIsi "bool" (eV 3)))) = CC at hc ⊢
      exact nxR_of (r := [some (Z, 0), some (Z, 0), some (Y, 0)]) (by simp [hc, hb]) ⟨_, rfl⟩
    · obtain ⟨o2, rfl⟩ := hr
      subst hb
      generalize rowsD R = Z
      simp
  exact run_rt rfl key
end Mp

namespace Mp
open Mi PySem
theorem uniqI : ∀ {a b : List Int}, a.Perm b → a.Pairwise (· ≤ ·) → b.Pairwise (· ≤ ·) → a = b
  | [], b, h, _, _ => (List.Perm.nil_eq h)
  | x :: a, [], h, _, _ => absurd h.length_eq (by simp)
  | x :: a, y :: b, h, ha, hb => by
    have hx : x = y := by
      have h1 : x ∈ y :: b := h.mem_iff.mp (by simp)
      have h2 : y ∈ x :: a := h.mem_iff.mpr (by simp)
      have l1 : y ≤ x := by
        rcases List.mem_cons.mp h1 with z | z
        · omega
        · exact (List.pairwise_cons.mp hb).1 x z
      have l2 : x ≤ y := by
        rcases List.mem_cons.mp h2 with z | z
        · omega
        · exact (List.pairwise_cons.mp ha).1 y z
      omega
    subst hx
    rw [uniqI (List.Perm.cons_inv h) (List.pairwise_cons.mp ha).2 (List.pairwise_cons.mp hb).2]
theorem sort_row {l : List Nat} {N : Nat} (h : l.Perm (List.range N)) (hz : N < 64) : sortD [rowD (numL l)] = some (rowD (numL (List.range N))) := by
  have hl : (numL l).length = N := by rw [show (numL l).length = l.length by simp [numL], h.length_eq]; simp
  show (match intsD ((numL l).map Dt.int) with | some ns => @ite _ (ns.length < 64) (Classical.propDecidable _) (some (Dt.lst ((sortI ns).map .int))) none | none => none) = _
  rw [ints_of_map]
  dsimp only
  rw [if_pos (by omega)]
  have e : sortI (numL l) = numL (List.range N) := by
    refine uniqI ((List.mergeSort_perm _ _).trans (h.map _)) ?_ ?_
    · have := List.pairwise_mergeSort (le := fun a b : Int => decide (a ≤ b)) (fun a b c h1 h2 => by simp at h1 h2 ⊢; omega) (fun a b => by simp; omega) (numL l)
      exact this.imp fun h => by simpa using h
    · unfold numL
      rw [List.pairwise_map]
      exact List.pairwise_lt_range.imp fun h => by omega
  rw [e]
  rfl
theorem bot_minB : ∀ (l : List Int) {M : Int}, M ∈ l → (∀ x ∈ l, M ≤ x) → botI l = M
  | [x], M, h, _ => by simp at h; rw [h]; rfl
  | x :: y :: r, M, h, hb => by
    show min x (botI (y :: r)) = M
    by_cases hy : M ∈ y :: r
    · rw [bot_minB (y :: r) hy fun z hz => hb z (List.mem_cons_of_mem _ hz)]
      have := hb x (by simp)
      omega
    · have hx : M = x := by
        rcases List.mem_cons.mp h with z | z
        · exact z
        · exact absurd z hy
      have key : ∀ (l : List Int), l ≠ [] → (∀ a ∈ l, M ≤ a) → M ≤ botI l := by
        intro l
        induction l with
        | nil => intro h; exact absurd rfl h
        | cons a q ih =>
          intro _ hb
          cases q with
          | nil => exact hb a (by simp)
          | cons b q =>
            have h1 := ih (by simp) fun c hc => hb c (List.mem_cons_of_mem _ hc)
            have h2 := hb a (by simp)
            show M ≤ min a (botI (b :: q))
            omega
      have := key (y :: r) (by simp) fun a ha => hb a (List.mem_cons_of_mem _ ha)
      omega
theorem min_row {l : List Nat} {y : Nat} (h0 : l ≠ []) (h1 : l.getD 0 0 = y) (h2 : ∀ x ∈ l, y ≤ x) : minL [rowD (numL l)] = some (.int (y : Int)) := by
  match l, h0, h1, h2 with
  | a :: r, _, h1, h2 =>
    have ha : a = y := h1
    have hb := bot_minB (numL (a :: r)) (M := (y : Int)) (by rw [ha]; simp [numL]) fun x hx => by
      obtain ⟨z, hz, rfl⟩ := List.mem_map.mp hx
      have := h2 z hz
      omega
    show (match intsD ((numL (a :: r)).map Dt.int) with | some (n :: ns) => some (Dt.int (botI (n :: ns))) | _ => none) = _
    rw [ints_of_map]
    show some (Dt.int (botI (numL (a :: r)))) = _
    rw [hb]
theorem rowsD_dep2 {l : List Nat} {R : List (List Nat)} : (rowsD (l :: R)).dep = 2 := by
  have h1 := rows_dep (l :: R)
  have h2 := dep_row (numL l)
  unfold rowsD
  rw [Dt.dep]
  have : Dt.depL ((l :: R).map fun l => rowD (numL l)) = 1 := by
    simp only [List.map_cons] at h1 ⊢
    rw [Dt.depL] at h1 ⊢
    omega
  omega
noncomputable abbrev accC : TM := (Mi.tOr (tB (eB neD (eB ixD (eV 8) (eC (.int 0))) (eBi minL (aCons (eV 8) aNil)))) (tB (eB neD (eCall m_round_of (aCons (eBi listD (aCons (eV 2) aNil)) (aCons (eBi listD (aCons (eV 3) aNil)) (aCons (eB ixD (eV 8) (eC (.int 0))) aNil)))) (eV 8))))
theorem acc_all {s0 s1 s2 s3 s4 s5 s6 s9 : Option Sl} {ts cs : List Nat} {N : Nat} (h2 : s2.map Prod.fst = some (rowD (numL ts))) (h3 : s3.map Prod.fst = some (rowD (numL cs))) :
    ∀ (R : List (List Nat)) (acc : List Nat) (lv : Nat) (o8 : Option Sl), (∀ l ∈ R, l ≠ [] ∧ ∃ y, l.getD 0 0 = y ∧ (∀ x ∈ l, y ≤ x) ∧ m_round_of [rowD (numL ts), rowD (numL cs), .int (y : Int)] = okR (rowD (numL l))) → acc.length + R.flatten.length ≤ 1000 →
      ∃ lv' o8', accGo 8 7 accC (eC (.bl false)) (eB addD (eV 7) (eV 8)) (R.map fun l => rowD (numL l)) [s0, s1, s2, s3, s4, s5, s6, some (rowD (numL acc), lv), o8, s9] = okR (.nx [s0, s1, s2, s3, s4, s5, s6, some (rowD (numL (acc ++ R.flatten)), lv'), o8', s9])
  | [], acc, lv, o8, _, _ => ⟨lv, o8, by rw [List.flatten_nil, List.append_nil]; rfl⟩
  | l :: R, acc, lv, o8, hR, hz => by
    obtain ⟨hl0, y, hy, hym, hyr⟩ := hR l (by simp)
    have hlen : 0 < l.length := List.length_pos_iff.mpr hl0
    have x0 := ixNum l 0 hlen
    replace x0 : ixD (rowD (numL l)) (.int 0) = some (.int (y : Int)) := by rw [← hy]; exact x0
    have hm := min_row hl0 hy hym
    have q1 := listR (numL ts)
    have q2 := listR (numL cs)
    have hee : Dt.eq (rowD (numL l)) (rowD (numL l)) = true := by rw [eq_row]; simp
    have hd := dep_row (numL l)
    simp only [List.flatten_cons, List.length_append] at hz
    have hadd : addD (rowD (numL acc)) (rowD (numL l)) = some (rowD (numL (acc ++ l))) := by
      show addD (.lst ((numL acc).map Dt.int)) (.lst ((numL l).map Dt.int)) = _
      simp only [addD]
      rw [if_pos (by simp [numL]; omega)]
      simp [rowD, numL]
    have hd2 := dep_row (numL (acc ++ l))
    obtain ⟨lv', o8', ih⟩ := acc_all (s0 := s0) (s1 := s1) (s4 := s4) (s5 := s5) (s6 := s6) (s9 := s9) (N := N) h2 h3 R (acc ++ l) 1 none (fun l' h => hR l' (by simp [h])) (by rw [List.length_append]; omega)
    refine ⟨lv', o8', ?_⟩
    rw [List.map_cons, accGo]
    have hfull : (full [s0, s1, s2, s3, s4, s5, s6, some (rowD (numL acc), lv), o8, s9]).set 8 (some (rowD (numL l))) = [s0.map Prod.fst, s1.map Prod.fst, some (rowD (numL ts)), some (rowD (numL cs)), s4.map Prod.fst, s5.map Prod.fst, s6.map Prod.fst, some (rowD (numL acc)), some (rowD (numL l)), s9.map Prod.fst] := by
      rw [← h2, ← h3]
      rfl
    rw [hfull]
    have hc : accC [s0.map Prod.fst, s1.map Prod.fst, some (rowD (numL ts)), some (rowD (numL cs)), s4.map Prod.fst, s5.map Prod.fst, s6.map Prod.fst, some (rowD (numL acc)), some (rowD (numL l)), s9.map Prod.fst] = okR false := by
      generalize rowD (numL l) = Y at x0 hm hyr hee hd ⊢
      generalize rowD (numL ts) = T at q1 hyr ⊢
      generalize rowD (numL cs) = C at q2 hyr ⊢
      generalize rowD (numL acc) = A
      simp [accC, x0, hm, q1, q2, hyr, hee, hd]
    have ha : (eB addD (eV 7) (eV 8)) [s0.map Prod.fst, s1.map Prod.fst, some (rowD (numL ts)), some (rowD (numL cs)), s4.map Prod.fst, s5.map Prod.fst, s6.map Prod.fst, some (rowD (numL acc)), some (rowD (numL l)), s9.map Prod.fst] = okR (rowD (numL (acc ++ l))) := by
      generalize rowD (numL (acc ++ l)) = AL at hadd ⊢
      generalize rowD (numL l) = Y at hadd ⊢
      generalize rowD (numL ts) = T
      generalize rowD (numL cs) = C
      generalize rowD (numL acc) = A at hadd ⊢
      simp [hadd]
    rw [hc, bindR_ok, if_neg Bool.false_ne_true, ha, bindR_ok, if_pos (by omega)]
    show accGo 8 7 accC (eC (.bl false)) (eB addD (eV 7) (eV 8)) (R.map fun l => rowD (numL l)) [s0, s1, s2, s3, s4, s5, s6, some (rowD (numL (acc ++ l)), 1), none, s9] = _
    rw [ih]
    simp
theorem net_law14 {ns : List Int} {ts : List Nat} {n : Nat} (n1 : 1 ≤ n) (hn : n ≤ 8) (hN : NetN ts (4 * n)) (hne : ∀ x, x < 4 * n → nt ts x ≠ x) :
    (sSeq (sSet 3 1 [0, 1] (eComp (iR1 (aCons (eV 1) aNil)) 1 (.one 10) Mi.tYes (eB modD (eCall m__law_cell_v4 (aCons (eV 0) (aCons (eB addD (eC (.int 20)) (eV 10)) aNil))) (eC (.int 3)))))  (sSeq (sSet 4 1 [2, 3] (eCall m__law_rounds (aCons (eV 2) (aCons (eV 3) aNil))))  (sSeq (sSet 5 2 [2, 3] (eLst (aCons (eBi listD (aCons (eV 2) aNil)) (aCons (eBi listD (aCons (eV 3) aNil)) aNil))))  (sSeq (sSet 6 2 [5] (eCall m_rounds_of_v2 (aCons (eB ixD (eV 5) (eC (.int 0))) (aCons (eB ixD (eV 5) (eC (.int 1))) aNil))))  (sSeq (sIf (Mi.tOr (tNo (tM (eCall m__law_alike (aCons (eV 6) (aCons (eV 4) aNil))))) (tB (eB neD (eV 5) (eLst (aCons (eV 2) (aCons (eV 3) aNil)))))) (sRet 0 0 [] (eC (.bl false))) sNil)  (sSeq (sSet 7 9 [] (eLst aNil))  (sSeq (sForAcc 6 8 7 (Mi.tOr (tB (eB neD (eB ixD (eV 8) (eC (.int 0))) (eBi minL (aCons (eV 8) aNil)))) (tB (eB neD (eCall m_round_of (aCons (eBi listD (aCons (eV 2) aNil)) (aCons (eBi listD (aCons (eV 3) aNil)) (aCons (eB ixD (eV 8) (eC (.int 0))) aNil)))) (eV 8)))) (eC (.bl false)) (eB addD (eV 7) (eV 8)))  (sSeq (sIf (tB (eB neD (eBi sortD (aCons (eV 7) aNil)) (eBi rangeD (aCons (eB mulD (eC (.int 4)) (eV 1)) aNil)))) (sRet 0 0 [] (eC (.bl false))) sNil)  (sSeq (sSet 9 0 [5] (eCall m_many_rounds_v2 (aCons (eB ixD (eV 5) (eC (.int 0))) (aCons (eB ixD (eV 5) (eC (.int 1))) aNil))))  (sSeq (sIf (Mi.tOr (tNo (tM (eCall m__law_whole (aCons (eV 9) aNil)))) (tB (eB neD (eV 9) (eBi lenD (aCons (eV 4) aNil))))) (sRet 0 0 [] (eC (.bl false))) sNil)  (sSeq (sApp2 6 0 (eC (.int 0)) (eC (.int 0)))  (sSeq (sPop0 6)  (sRet 0 0 [4, 5, 2, 3] (eAnd (eCall m__law_alike (aCons (eCall m_rounds_of_v2 (aCons (eB ixD (eV 5) (eC (.int 0))) (aCons (eB ixD (eV 5) (eC (.int 1))) aNil))) (aCons (eV 4) aNil))) (eB eqD (eV 5) (eLst (aCons (eV 2) (aCons (eV 3) aNil))))))))))))))))))
      [some (.scr ns, 0), some (.int (n : Int), 1), some (rowD (numL ts), 1), none, none, none, none, none, none, none] = okR (.rt (.bl true)) := by
  obtain ⟨g, hg⟩ : ∃ g : Nat → Nat, ∀ i, i < 100 → g i < 3 ∧ ∃ c, m__law_cell_v4 [.scr ns, .int (20 + (i : Int))] = okR (.int c) ∧ c % 3 = ((g i : Nat) : Int) := by
    have h : ∀ i : Nat, ∃ k : Nat, i < 100 → k < 3 ∧ ∃ c, m__law_cell_v4 [.scr ns, .int (20 + (i : Int))] = okR (.int c) ∧ c % 3 = (k : Int) := fun i => by
      by_cases hi : i < 100
      · obtain ⟨c, e⟩ := cell4 ns (20 + (i : Int)) (by omega) (by omega)
        exact ⟨(c % 3).toNat, fun _ => ⟨by omega, c, e, by omega⟩⟩
      · exact ⟨0, fun h => absurd h hi⟩
    exact ⟨fun i => Classical.choose (h i), fun i => Classical.choose_spec (h i)⟩
  obtain ⟨cs, hcs⟩ : ∃ cs, (List.range n).map g = cs := ⟨_, rfl⟩
  have hcl : cs.length = n := by rw [← hcs]; simp
  have hc3 : ∀ c ∈ cs, c < 3 := fun c hc => by
    rw [← hcs] at hc
    obtain ⟨i, hi, rfl⟩ := List.mem_map.mp hc
    exact (hg i (by have := List.mem_range.mp hi; omega)).1
  have hcomp1 : ∀ T : Dt, eComp (iR1 (aCons (eV 1) aNil)) 1 (.one 10) Mi.tYes (eB modD (eCall m__law_cell_v4 (aCons (eV 0) (aCons (eB addD (eC (.int 20)) (eV 10)) aNil))) (eC (.int 3))) [some (.scr ns), some (.int (n : Int)), some T, none, none, none, none, none, none, none] = okR (rowD (numL cs)) := fun T => by
    have := comp_row (ρ := [some (.scr ns), some (.int (n : Int)), some T, none, none, none, none, none, none, none]) (e := eB modD (eCall m__law_cell_v4 (aCons (eV 0) (aCons (eB addD (eC (.int 20)) (eV 10)) aNil))) (eC (.int 3))) (it := iR1 (aCons (eV 1) aNil)) (i := 10) (n := n) (fun k => ((g k : Nat) : Int)) rfl (by omega) (x_iR1 (by simp) (by omega)) fun a h => by
      obtain ⟨_, c, h1, h2⟩ := hg a (by omega)
      simp [h1, h2]
    rw [this, ← hcs]
    unfold numL
    rw [List.map_map]
    rfl
  obtain ⟨f, hfl, hro, hlr, hall, hperm⟩ := rnds4 n1 (by omega) hN hne hcl hc3
  have hpr := rounds_prog2 hN (by omega) hfl hro
  have hRl := (rdS_len hfl (4 * n)).1
  obtain ⟨t, ht⟩ := rdS_head f (4 * n - 1)
  rw [show 4 * n - 1 + 1 = 4 * n by omega] at ht
  have hlong : ∀ l ∈ (rdS f (4 * n)).1, l.length ≤ 1000 := fun l hl => by
    obtain ⟨y, _, e, _⟩ := hall l hl
    rw [e]
    have := hfl y
    omega
  have hlist : ∀ l ∈ (rdS f (4 * n)).1, l ≠ [] ∧ ∃ y, l.getD 0 0 = y ∧ (∀ x ∈ l, y ≤ x) ∧ m_round_of [rowD (numL ts), rowD (numL cs), .int (y : Int)] = okR (rowD (numL l)) := fun l hl => by
    obtain ⟨y, y1, e, e2, e3, e4⟩ := hall l hl
    exact ⟨e3, y, e2, e4, by rw [hro y y1, e]⟩
  obtain ⟨RR, hRR⟩ : ∃ RR, (rdS f (4 * n)).1 = RR := ⟨_, rfl⟩
  rw [hRR] at hlr hperm hpr hRl ht hlong hlist
  have hak := alike_prog RR (by omega) hlong
  have hsort := sort_row hperm (by omega)
  have hrng : rangeD [.int ((4 * n : Nat) : Int)] = some (rowD (numL (List.range (4 * n)))) := by
    rw [v_range (by omega) (by omega), show (((4 * n : Nat) : Int)).toNat = 4 * n by omega, nums_ints]
    rfl
  have m4 := mul4' (n := n)
  have hflen : RR.flatten.length = 4 * n := by rw [hperm.length_eq]; simp
  have hlenR : lenD [rowsD RR] = some (.int (RR.length : Int)) := rows_len RR (by omega)
  have hmany : m_many_rounds_v2 [rowD (numL ts), rowD (numL cs)] = okR (.int (RR.length : Int)) := by
    unfold m_many_rounds_v2 b_many_rounds_v2
    generalize rowD (numL ts) = T at hpr ⊢
    generalize rowD (numL cs) = C at hpr ⊢
    generalize rowsD RR = Z at hpr hlenR
    simp [startO, hpr, hlenR]
  have hwh : m__law_whole [.int (RR.length : Int)] = okR (.bl true) := by
    have h1 : isiD "int" (.int (RR.length : Int)) = some (.bl true) := rfl
    have h2 : isiD "bool" (.int (RR.length : Int)) = some (.bl false) := rfl
    unfold m__law_whole b__law_whole
    generalize (RR.length : Int) = LL at h1 h2 ⊢
    simp [startO, h1, h2]
  have hdR : (rowsD RR).dep = 2 := by rw [ht]; exact rowsD_dep2
  have q1 := listR (numL ts)
  have q2 := listR (numL cs)
  have dT := dep_row (numL ts)
  have dC := dep_row (numL cs)
  have hd2 : (rowsD [ts, cs]).dep = 2 := rowsD_dep2
  have g0 : ixD (rowsD [ts, cs]) (.int 0) = some (rowD (numL ts)) := rfl
  have g1 : ixD (rowsD [ts, cs]) (.int 1) = some (rowD (numL cs)) := rfl
  have heq : Dt.eq (rowsD [ts, cs]) (.lst [rowD (numL ts), rowD (numL cs)]) = true := by
    have h1 : Dt.eq (rowD (numL ts)) (rowD (numL ts)) = true := by rw [eq_row]; simp
    have h2 : Dt.eq (rowD (numL cs)) (rowD (numL cs)) = true := by rw [eq_row]; simp
    show (Dt.eq (rowD (numL ts)) (rowD (numL ts)) && (Dt.eq (rowD (numL cs)) (rowD (numL cs)) && Dt.eqL [] [])) = true
    rw [h1, h2]; rfl
  refine seq_go fun bb hb => nxR_of (r := [some (.scr ns, 0), some (.int (n : Int), 1), some (rowD (numL ts), 1), some (rowD (numL cs), 1), none, none, none, none, none, none]) (by
    have hc := hcomp1 (rowD (numL ts))
    generalize eComp (iR1 (aCons (eV 1) aNil)) 1 (.one 10) Mi.tYes (eB modD (eCall m__law_cell_v4 (aCons (eV 0) (aCons (eB addD (eC (.int 20)) (eV 10)) aNil))) (eC (.int 3))) = CC at hc ⊢
    generalize rowD (numL ts) = T at hc ⊢
    generalize rowD (numL cs) = C at hc dC ⊢
    simp [hc, dC]) ?_
  subst hb
  refine seq_go fun bb hb => nxR_of (r := [some (.scr ns, 0), some (.int (n : Int), 1), some (rowD (numL ts), 0), some (rowD (numL cs), 0), some (rowsD RR, 1), none, none, none, none, none]) (by
    generalize rowD (numL ts) = T at hlr dT ⊢
    generalize rowD (numL cs) = C at hlr dC ⊢
    generalize rowsD RR = Z at hlr hdR ⊢
    simp [hlr, hdR, dT, dC]) ?_
  subst hb
  refine seq_go fun bb hb => nxR_of (r := [some (.scr ns, 0), some (.int (n : Int), 1), some (rowD (numL ts), 0), some (rowD (numL cs), 0), some (rowsD RR, 1), some (rowsD [ts, cs], 2), none, none, none, none]) (by
    show _ = okR (Out.nx [some (.scr ns, 0), some (.int (n : Int), 1), some (rowD (numL ts), 0), some (rowD (numL cs), 0), some (rowsD RR, 1), some (.lst [rowD (numL ts), rowD (numL cs)], 2), none, none, none, none])
    replace hd2 : Dt.dep (.lst [rowD (numL ts), rowD (numL cs)]) = 2 := hd2
    generalize rowD (numL ts) = T at q1 hd2 ⊢
    generalize rowD (numL cs) = C at q2 hd2 ⊢
    generalize rowsD RR = Z
    simp only [x_sSet, x_full_cons, x_full_nil, Option.map_some, Option.map_none, x_eLst, x_aCons, x_aNil, x_eBi, x_eV, List.getElem?_cons_succ, List.getElem?_cons_zero, bindR_ok, q1, q2, optR_some]
    rw [if_pos (by simp), bindR_ok, if_pos (by omega)]
    rfl) ?_
  subst hb
  refine seq_go fun bb hb => nxR_of (r := [some (.scr ns, 0), some (.int (n : Int), 1), some (rowD (numL ts), 0), some (rowD (numL cs), 0), some (rowsD RR, 1), some (rowsD [ts, cs], 2), some (rowsD RR, 2), none, none, none]) (by
    generalize rowsD [ts, cs] = HH at g0 g1 ⊢
    generalize rowD (numL ts) = T at g0 hpr ⊢
    generalize rowD (numL cs) = C at g1 hpr ⊢
    generalize rowsD RR = Z at hpr hdR ⊢
    simp [g0, g1, hpr, hdR]) ?_
  subst hb
  refine seq_go fun bb hb => nxR_of (r := [some (.scr ns, 0), some (.int (n : Int), 1), some (rowD (numL ts), 0), some (rowD (numL cs), 0), some (rowsD RR, 1), some (rowsD [ts, cs], 2), some (rowsD RR, 2), none, none, none]) (by
    generalize rowsD [ts, cs] = HH at heq hd2 ⊢
    generalize rowD (numL ts) = T at heq dT ⊢
    generalize rowD (numL cs) = C at heq dC ⊢
    generalize rowsD RR = Z at hak ⊢
    simp [hak, heq, hd2, dT, dC]) ?_
  subst hb
  refine seq_go fun bb hb => nxR_of (r := [some (.scr ns, 0), some (.int (n : Int), 1), some (rowD (numL ts), 0), some (rowD (numL cs), 0), some (rowsD RR, 1), some (rowsD [ts, cs], 2), some (rowsD RR, 2), some (rowD (numL []), 9), none, none]) (by
    generalize rowsD [ts, cs] = HH
    generalize rowD (numL ts) = T
    generalize rowD (numL cs) = C
    generalize rowsD RR = Z
    simp
    rfl) ?_
  subst hb
  obtain ⟨lv', o8', hacc⟩ := acc_all (s0 := some (.scr ns, 0)) (s1 := some (.int (n : Int), 1)) (s2 := some (rowD (numL ts), 0)) (s3 := some (rowD (numL cs), 0)) (s4 := some (rowsD RR, 1)) (s5 := some (rowsD [ts, cs], 2)) (s6 := some (rowsD RR, 2)) (s9 := none) (ts := ts) (cs := cs) (N := n) rfl rfl RR [] 9 none hlist (by rw [hflen]; simp; omega)
  rw [List.nil_append] at hacc
  refine seq_go fun bb hb => nxR_of hacc ?_
  subst hb
  refine seq_go fun bb hb => nxR_of (r := [some (.scr ns, 0), some (.int (n : Int), 1), some (rowD (numL ts), 0), some (rowD (numL cs), 0), some (rowsD RR, 1), some (rowsD [ts, cs], 2), some (rowsD RR, 2), some (rowD (numL RR.flatten), lv'), o8', none]) (by
    have he : Dt.eq (rowD (numL (List.range (4 * n)))) (rowD (numL (List.range (4 * n)))) = true := by rw [eq_row]; simp
    have hd := dep_row (numL (List.range (4 * n)))
    generalize rowD (numL (List.range (4 * n))) = RG at hsort hrng he hd
    generalize ((4 * n : Nat) : Int) = N4 at m4 hrng
    generalize rowD (numL RR.flatten) = FL at hsort ⊢
    generalize rowsD [ts, cs] = HH
    generalize rowD (numL ts) = T
    generalize rowD (numL cs) = C
    generalize rowsD RR = Z
    simp [hsort, hrng, m4, he, hd, -v_mul]) ?_
  subst hb
  refine seq_go fun bb hb => nxR_of (r := [some (.scr ns, 0), some (.int (n : Int), 1), some (rowD (numL ts), 0), some (rowD (numL cs), 0), some (rowsD RR, 1), some (rowsD [ts, cs], 2), some (rowsD RR, 2), some (rowD (numL RR.flatten), lv'), o8', some (.int (RR.length : Int), 0)]) (by
    generalize (RR.length : Int) = LL at hmany ⊢
    generalize rowD (numL RR.flatten) = FL
    generalize rowsD [ts, cs] = HH at g0 g1 ⊢
    generalize rowD (numL ts) = T at g0 hmany ⊢
    generalize rowD (numL cs) = C at g1 hmany ⊢
    generalize rowsD RR = Z
    simp [g0, g1, hmany]) ?_
  subst hb
  refine seq_go fun bb hb => nxR_of (r := [some (.scr ns, 0), some (.int (n : Int), 1), some (rowD (numL ts), 0), some (rowD (numL cs), 0), some (rowsD RR, 1), some (rowsD [ts, cs], 2), some (rowsD RR, 2), some (rowD (numL RR.flatten), lv'), o8', some (.int (RR.length : Int), 0)]) (by
    generalize (RR.length : Int) = LL at hwh hlenR ⊢
    generalize rowD (numL RR.flatten) = FL
    generalize rowsD [ts, cs] = HH
    generalize rowD (numL ts) = T
    generalize rowD (numL cs) = C
    generalize rowsD RR = Z at hlenR ⊢
    simp [hwh, hlenR]) ?_
  subst hb
  have happ : ∀ Z : Dt, sApp2 6 0 (eC (.int 0)) (eC (.int 0)) [some (.scr ns, 0), some (.int (n : Int), 1), some (rowD (numL ts), 0), some (rowD (numL cs), 0), some (Z, 1), some (rowsD [ts, cs], 2), some (rowsD RR, 2), some (rowD (numL RR.flatten), lv'), o8', some (.int (RR.length : Int), 0)] = okR (.nx [some (.scr ns, 0), some (.int (n : Int), 1), some (rowD (numL ts), 0), some (rowD (numL cs), 0), some (Z, 1), some (rowsD [ts, cs], 2), some (.lst (.lst ((numL (f 0)).map Dt.int ++ [.int 0]) :: t.map fun l => rowD (numL l)), 2), some (rowD (numL RR.flatten), lv'), o8', some (.int (RR.length : Int), 0)]) := fun Z => by
    have hr : rowsD RR = .lst (.lst ((numL (f 0)).map Dt.int) :: t.map fun l => rowD (numL l)) := by rw [ht]; rfl
    rw [hr]
    have h0 := hfl 0
    unfold sApp2
    simp only [List.getElem?_cons_succ, List.getElem?_cons_zero, x_eC, bindR_ok]
    rw [ixA_of (by omega) (by simp)]
    simp only [Int.toNat_zero, List.getElem?_cons_zero]
    rw [if_pos ⟨by simp [numL]; omega, Nat.zero_le _, Nat.zero_le _⟩]
    rfl
  refine seq_go fun bb hb => nxR_of (happ (rowsD RR)) ?_
  subst hb
  obtain ⟨Z6, hZ6⟩ : ∃ Z6, Dt.lst ((Dt.lst ((numL (f 0)).map Dt.int ++ [.int 0]) :: t.map fun l => rowD (numL l)).eraseIdx ((Dt.lst ((numL (f 0)).map Dt.int ++ [.int 0]) :: t.map fun l => rowD (numL l)).length - 1)) = Z6 := ⟨_, rfl⟩
  refine seq_go fun bb hb => nxR_of (r := [some (.scr ns, 0), some (.int (n : Int), 1), some (rowD (numL ts), 0), some (rowD (numL cs), 0), some (rowsD RR, 1), some (rowsD [ts, cs], 2), some (Z6, 2), some (rowD (numL RR.flatten), lv'), o8', some (.int (RR.length : Int), 0)]) (by
    rw [← hZ6]
    show (if (Dt.lst ((numL (f 0)).map Dt.int ++ [.int 0]) :: t.map fun l => rowD (numL l)) = [] then none else okR (Out.nx _)) = _
    rw [if_neg (by simp)]
    rfl) ?_
  subst hb
  generalize (RR.length : Int) = LL
  generalize rowD (numL RR.flatten) = FL
  generalize rowsD [ts, cs] = HH at g0 g1 heq hd2 ⊢
  generalize rowD (numL ts) = T at g0 hpr heq dT ⊢
  generalize rowD (numL cs) = C at g1 hpr heq dC ⊢
  generalize rowsD RR = Z at hpr hak ⊢
  simp [g0, g1, hpr, hak, heq, hd2, dT, dC]
set_option maxHeartbeats 4000000 in
theorem law_true (ns : List Int) (hl : ns.length ≤ 63) (hw : ∀ i ∈ ns, i.natAbs.log2 < 2 ^ 20) : m_law_Q14 [.scr ns] = okR (.bl true) := by
  obtain ⟨c0, e0⟩ := cell4 ns 0 (by omega) (by omega)
  obtain ⟨n, hn⟩ : ∃ n : Nat, 1 + c0 % 8 = (n : Int) := ⟨(1 + c0 % 8).toNat, by omega⟩
  have n1 : 1 ≤ n := by omega
  have n8 : n ≤ 8 := by omega
  obtain ⟨ms, hN1, hp1⟩ := any_net2 ns 2 (by omega) (by omega) n n1 (by omega)
  obtain ⟨row, tw, hrow⟩ := row3_prog ns n n1 (by omega)
  obtain ⟨c1, hc1⟩ := cell4 ns 1 (by omega) (by omega)
  obtain ⟨R, hS, hseats⟩ := seats2_prog c1 n n1 (by omega)
  obtain ⟨ks, hN2, hbuilt⟩ := built_prog hS tw (by omega)
  obtain ⟨ts1, e1, hT1, hne1⟩ := toNet2 hN1
  obtain ⟨ts2, e2, hT2, hne2⟩ := toNet2 hN2
  subst e1
  subst e2
  have d1 := dep_row (numL ts1)
  have d2 := dep_row (numL ts2)
  suffices h : b_law_Q14 [some (.scr ns, 0), none, none, none, none, none, none, none, none, none] = okR (.rt (.bl true)) from run_rt rfl h
  unfold b_law_Q14
  refine seq_go fun bb hb => nxR_of (r := [some (.scr ns, 0), some (.int (n : Int), 1), none, none, none, none, none, none, none, none]) (by simp [e0, hn]) ?_
  subst hb
  refine seq_go fun bb hb => nxR_of (r := [some (.scr ns, 0), some (.int (n : Int), 1), some (rowD (numL ts1), 1), none, none, none, none, none, none, none]) (by
    generalize rowD (numL ts1) = T at hp1 d1 ⊢
    simp [hp1, d1]) ?_
  subst hb
  by_cases hc : c0 / 8 % 2 = 1
  · refine seq_go fun bb hb => nxR_of (r := [some (.scr ns, 0), some (.int (n : Int), 1), some (rowD (numL ts2), 1), none, none, none, none, none, none, none]) (by
      generalize rowD (numL ts1) = T
      generalize rowD (numL row) = RW at hrow hbuilt
      generalize rowsD R = SS at hseats hbuilt
      generalize rowD (numL ts2) = T2 at hbuilt d2 ⊢
      simp [e0, hc, hrow, hc1, hseats, hbuilt, d2]) ?_
    subst hb
    exact net_law14 n1 n8 hT2 hne2
  · refine seq_go fun bb hb => nxR_of (r := [some (.scr ns, 0), some (.int (n : Int), 1), some (rowD (numL ts1), 1), none, none, none, none, none, none, none]) (by
      generalize rowD (numL ts1) = T
      have hc2 : c0 / 8 % 2 = 0 := by omega
      simp [e0, hc2]) ?_
    subst hb
    exact net_law14 n1 n8 hT1 hne1
end Mp

set_option maxHeartbeats 4000000
namespace Q14
open PySem PyProof.Rows
open L2 hiding Rep RepL
open L3
open Mp
def top (i : Nat) : Stmt := PySem.Challenge.pw_fourway_k14_whole_each_end_once.main.body.getD i (.Pass ⟨0, 0, 0, 0⟩)
abbrev s__law_alike : Stmt := top 18
theorem S__law_alike : FnScope ["_law_found", "_law_due", "_law_one"] ["_law_found", "_law_due"] (defScope s__law_alike) := ⟨rfl, rfl, rfl, by decide +kernel, rfl, by decide +kernel, by decide +kernel⟩
abbrev s__law_cell : Stmt := top 9
theorem S__law_cell : FnScope ["_law_script", "_law_k", "_law_cell_here", "_law_near", "_law_far"] ["_law_script", "_law_k"] (defScope s__law_cell) := ⟨rfl, rfl, rfl, by decide +kernel, rfl, by decide +kernel, by decide +kernel⟩
abbrev s__law_any_net : Stmt := top 14
theorem S__law_any_net : FnScope ["_law_script", "_law_at", "_law_n", "_law_left", "_law_net", "_law_cell_here", "_law_one", "_law_rest", "_law_other"] ["_law_script", "_law_at", "_law_n"] (defScope s__law_any_net) := ⟨rfl, rfl, rfl, by decide +kernel, rfl, by decide +kernel, by decide +kernel⟩
abbrev s__law_built : Stmt := top 13
theorem S__law_built : FnScope ["_law_row_here", "_law_seats_here", "_law_net", "_law_ins", "_law_stood", "_law_place", "_law_k", "_law_at", "_law_there", "_law_to", "_law_out", "_law_into"] ["_law_row_here", "_law_seats_here"] (defScope s__law_built) := ⟨rfl, rfl, rfl, by decide +kernel, rfl, by decide +kernel, by decide +kernel⟩
abbrev s__law_joined : Stmt := top 15
theorem S__law_joined : FnScope ["_law_choice", "_law_end", "_law_seats_here"] ["_law_choice", "_law_end"] (defScope s__law_joined) := ⟨rfl, rfl, rfl, by decide +kernel, rfl, by decide +kernel, by decide +kernel⟩
abbrev s__law_round : Stmt := top 16
theorem S__law_round : FnScope ["_law_net", "_law_choice", "_law_end", "_law_found", "_law_here"] ["_law_net", "_law_choice", "_law_end"] (defScope s__law_round) := ⟨rfl, rfl, rfl, by decide +kernel, rfl, by decide +kernel, by decide +kernel⟩
abbrev s__law_rounds : Stmt := top 17
theorem S__law_rounds : FnScope ["_law_net", "_law_choice", "_law_met", "_law_found", "_law_end", "_law_ends", "_law_one"] ["_law_net", "_law_choice"] (defScope s__law_rounds) := ⟨rfl, rfl, rfl, by decide +kernel, rfl, by decide +kernel, by decide +kernel⟩
abbrev s__law_row : Stmt := top 11
theorem S__law_row : FnScope ["_law_script", "_law_at", "_law_n", "_law_left", "_law_cell_here", "_law_row_here", "_law_rest"] ["_law_script", "_law_at", "_law_n"] (defScope s__law_row) := ⟨rfl, rfl, rfl, by decide +kernel, rfl, by decide +kernel, by decide +kernel⟩
abbrev s__law_seats : Stmt := top 12
theorem S__law_seats : FnScope ["_law_cell_here", "_law_n", "_law_seats_here", "_law_place", "_law_left", "_law_some", "_law_many"] ["_law_cell_here", "_law_n"] (defScope s__law_seats) := ⟨rfl, rfl, rfl, by decide +kernel, rfl, by decide +kernel, by decide +kernel⟩
abbrev s__law_whole : Stmt := top 10
theorem S__law_whole : FnScope ["_law_found"] ["_law_found"] (defScope s__law_whole) := ⟨rfl, rfl, rfl, by decide +kernel, rfl, by decide +kernel, by decide +kernel⟩
abbrev s_joined : Stmt := top 1
theorem S_joined : FnScope ["way", "seat"] ["way", "seat"] (defScope s_joined) := ⟨rfl, rfl, rfl, by decide +kernel, rfl, by decide +kernel, by decide +kernel⟩
abbrev s_joined_end : Stmt := top 7
theorem S_joined_end : FnScope ["choice", "end", "place"] ["choice", "end"] (defScope s_joined_end) := ⟨rfl, rfl, rfl, by decide +kernel, rfl, by decide +kernel, by decide +kernel⟩
abbrev s_round_of : Stmt := top 4
theorem S_round_of : FnScope ["net", "choice", "end", "ends", "come"] ["net", "choice", "end"] (defScope s_round_of) := ⟨rfl, rfl, rfl, by decide +kernel, rfl, by decide +kernel, by decide +kernel⟩
abbrev s_rounds_of : Stmt := top 5
theorem S_rounds_of : FnScope ["net", "choice", "rounds", "passed", "end", "ends"] ["net", "choice"] (defScope s_rounds_of) := ⟨rfl, rfl, rfl, by decide +kernel, rfl, by decide +kernel, by decide +kernel⟩
abbrev s_many_rounds : Stmt := top 6
theorem S_many_rounds : FnScope ["net", "choice"] ["net", "choice"] (defScope s_many_rounds) := ⟨rfl, rfl, rfl, by decide +kernel, rfl, by decide +kernel, by decide +kernel⟩
abbrev s_law : Stmt := top 19
theorem S_law : FnScope ["_law_script", "_law_n", "_law_net", "_law_choice", "_law_due", "_law_handed", "_law_found", "_law_met", "_law_ends", "_law_many"] ["_law_script"] (defScope s_law) := ⟨rfl, rfl, rfl, by decide +kernel, rfl, by decide +kernel, by decide +kernel⟩
section
variable {P : Program} {w : World} {K : PySem.W.Frag} {mg : Str → Option Value} {base : Heap}
theorem ok__law_alike (D : Def K mg "_law_alike" s__law_alike) (b_all : mg "all" = none) (b_bool : mg "bool" = none) (b_int : mg "int" = none) (b_isinstance : mg "isinstance" = none) (b_list : mg "list" = none) : Has P w K mg base "_law_alike" 1 ["_law_found", "_law_due"] (sp0 K mg 0 m__law_alike) := by
  letI : Kc := ⟨K⟩
  refine D.ok S__law_alike (fun _ _ _ _ _ _ us hl => match us, hl with | [_, _], _ => rfl) (fun vs H Q E h => spM_len h) (fun f cdv A outer s H vs Q E hr h => ?_)
  have hu := hr.units
  exact ⟨_, (pss_cons (ps_if (pt_w (pw_or (pt_not (pt_m (pe_callB k_isinstance rfl b_isinstance boot_isinstance (pa_cons (pn 0) (pa_cons (pe_bltn (v := .ty "list") rfl b_list boot_list rfl) pa_nil))))) (pw_or1 (pt_cm (u_ne hu) (pn 0) (pn 1) (nomark _))))) (pss_one (ps_ret pe_bl)) pss_nil)
      (pss_cons (ps_forK PassesOwn.never rfl (pi_all (K := K) (pn 0)) (pg_name (i := 2) S__law_alike.nd rfl (by first | exact Or.inl rfl | exact Or.inr rfl)) (pss_cons (ps_if (pt_not (pt_m (pe_callB k_isinstance rfl b_isinstance boot_isinstance (pa_cons (pn 2) (pa_cons (pe_bltn (v := .ty "list") rfl b_list boot_list rfl) pa_nil))))) (pss_one (ps_ret pe_bl)) pss_nil)
      (pss_one (ps_if (pt_not (pt_m (pe_callB (k_all rfl) rfl b_all boot_all (pa_cons (pe_comp rfl (cn ["0", "1", "2", "_law_part"] 1 (by kernel_rfl)) (pi_all (K := K) (pn 2)) (fun _ _ _ _ => (pg_name (i := 3) (by show List.Nodup (["0", "1", "2", "_law_part"] : List Str); decide +kernel) rfl (by first | exact Or.inl rfl | exact Or.inr rfl))) (fun _ _ _ _ => pts_nil) (fun _ _ _ _ => (pe_am (pe_callB k_isinstance rfl b_isinstance boot_isinstance (pa_cons (pn 3) (pa_cons (pe_bltn (v := .ty "int") rfl b_int boot_int rfl) pa_nil))) (pe_one (pe_nm (pe_callB k_isinstance rfl b_isinstance boot_isinstance (pa_cons (pn 3) (pa_cons (pe_bltn (v := .ty "bool") rfl b_bool boot_bool rfl) pa_nil)))))))) pa_nil)))) (pss_one (ps_ret pe_bl)) pss_nil))))
      (pss_one (ps_ret pe_bl)))),
    (run_ok (N := ["_law_found", "_law_due", "_law_one"]) (ds_seq (ds_if (dt_or (dt_not (dt_m (dz (de_isi (by decide) (de_v 0))))) (dt_b (dz (de_op ro_ne (de_v 0) (de_v 1))))) (ds_ret (n := 0) [] de_bl) ds_nil)
      (ds_seq (ds_for [0] (di_all (de_v 0)) (tg_name 2) (ds_seq (ds_if (dt_not (dt_m (dz (de_isi (by decide) (de_v 2))))) (ds_ret (n := 0) [] de_bl) ds_nil)
      (ds_if (dt_not (dt_m (dz (de_bi cb_all (da_cons (de_frz (de_comp (n := 0) (di_all (de_v 2)) (tg_name 3) dt_yes (de_and (dz (de_isi (by decide) (de_v 3))) (de_not (dz (de_isi (by decide) (de_v 3))))))) da_nil))))) (ds_ret (n := 0) [] de_bl) ds_nil)))
      (ds_ret (n := 0) [] de_bl))) h)⟩
theorem ok__law_cell (D : Def K mg "_law_cell" s__law_cell) (b_int : mg "int" = none) (b_len : mg "len" = none) : Has P w K mg base "_law_cell" 1 ["_law_script", "_law_k"] (sp0 K mg 1 m__law_cell_v4) := by
  letI : Kc := ⟨K⟩
  refine D.ok S__law_cell (fun _ _ _ _ _ _ us hl => match us, hl with | [_, _], _ => rfl) (fun vs H Q E h => spM_len h) (fun f cdv A outer s H vs Q E hr h => ?_)
  have hu := hr.units
  exact ⟨_, (pss_cons (ps_set (i := 2) S__law_cell.nd rfl (by first | exact Or.inl rfl | exact Or.inr rfl) pe_int)
      (pss_cons (ps_if (pt_cm u_lt (pn 1) (pe_callB (k_lenK (K := K)) rfl b_len boot_len (pa_cons (pn 0) pa_nil)) (nomark _)) (pss_one (ps_set (i := 2) S__law_cell.nd rfl (by first | exact Or.inl rfl | exact Or.inr rfl) (pe_ix (u_ixK (K := K)) (pn 0) (pn 1) (fun _ _ => rfl)))) pss_nil)
      (pss_cons (ps_if (pt_w (pw_and (pt_cm u_gt (pe_callB (k_lenK (K := K)) rfl b_len boot_len (pa_cons (pn 0) pa_nil)) pe_int (nomark _)) (pw_and1 (pt_cm (u_eq hu) (pe_op u_mod (pe_ix (u_ixK (K := K)) (pn 0) pe_int (fun _ _ => rfl)) pe_int) pe_int (nomark _))))) (pss_one (ps_ret (pe_op u_divW (pe_op u_mod (pn 2) (pe_op u_pow pe_int pe_int)) (pe_ix (u_ixK (K := K)) (pe_lst (pa_cons pe_int (pa_cons pe_int pa_nil))) (pe_callTy call_int1 rfl b_int boot_int (pa_cons (pe_cmpR (u_eq hu) (pn 1) pe_int (nomark _)) pa_nil)) (fun _ _ => rfl))))) pss_nil)
      (pss_cons (ps_set (i := 3) S__law_cell.nd rfl (by first | exact Or.inl rfl | exact Or.inr rfl) (pe_op u_mod (pe_op u_mulW (pe_op u_add (pe_op u_mod (pn 2) pe_int) (pe_op u_mulW pe_int (pe_op u_add (pn 1) pe_int))) pe_int) pe_int))
      (pss_cons (ps_set (i := 4) S__law_cell.nd rfl (by first | exact Or.inl rfl | exact Or.inr rfl) (pe_op u_mod (pe_op u_mulW (pe_op u_mod (pe_op u_mulW (pn 3) pe_int) pe_int) pe_int) pe_int))
      (pss_one (ps_ret (pe_op u_add (pe_op u_mulW (pe_op u_add (pe_op u_mulW (pn 3) pe_int) (pn 4)) pe_int) (pe_op u_mod (pe_op u_mulW (pn 4) pe_int) pe_int))))))))),
    (run_ok (N := ["_law_script", "_law_k", "_law_cell_here", "_law_near", "_law_far"]) (ds_seq (ds_set (n := 0) [] de_int)
      (ds_seq (ds_if (dt_b (dz (de_op ro_cmp (de_v 1) (dz (de_bi cb_len (da_cons (de_v 0) da_nil)))))) (ds_set (n := 0) [0, 1] (de_op ro_ix (de_v 0) (de_v 1))) ds_nil)
      (ds_seq (ds_if (dt_and (dt_b (dz (de_op ro_cmp (dz (de_bi cb_len (da_cons (de_v 0) da_nil))) (dz de_int)))) (dt_b (dz (de_op ro_eq (dz (de_op ro_mod (de_op ro_ix (de_v 0) (dz de_int)) (dz de_int))) (dz de_int))))) (ds_ret (n := 1) [2, 1] (de_op ro_div (dz (de_op ro_mod (de_v 2) (dz (de_op ro_pow (dz de_int) (dz de_int))))) (de_op ro_ix (de_lst (n := 0) (da_cons de_int (da_cons de_int da_nil))) (dz (de_bi cb_int (da_cons (de_op ro_eq (de_v 1) (dz de_int)) da_nil)))))) ds_nil)
      (ds_seq (ds_set (n := 0) [2, 1] (de_op ro_mod (dz (de_op ro_mul (de_op ro_add (dz (de_op ro_mod (de_v 2) (dz de_int))) (dz (de_op ro_mul (dz de_int) (de_op ro_add (de_v 1) (dz de_int))))) (dz de_int))) (dz de_int)))
      (ds_seq (ds_set (n := 0) [3] (de_op ro_mod (dz (de_op ro_mul (dz (de_op ro_mod (dz (de_op ro_mul (de_v 3) (dz de_int))) (dz de_int))) (dz de_int))) (dz de_int)))
      (ds_ret (n := 1) [4, 3] (de_op ro_add (dz (de_op ro_mul (de_op ro_add (dz (de_op ro_mul (de_v 3) (dz de_int))) (de_v 4)) (dz de_int))) (dz (de_op ro_mod (dz (de_op ro_mul (de_v 4) (dz de_int))) (dz de_int)))))))))) h)⟩
theorem ok__law_any_net (D : Def K mg "_law_any_net" s__law_any_net) (h__law_cell : Has P w K mg base "_law_cell" 1 ["_law_script", "_law_k"] (sp0 K mg 1 m__law_cell_v4)) (b_len : mg "len" = none) (b_list : mg "list" = none) (b_range : mg "range" = none) : Has P w K mg base "_law_any_net" 2 ["_law_script", "_law_at", "_law_n"] (sp0 K mg 1 m__law_any_net_v2) := by
  letI : Kc := ⟨K⟩
  refine D.ok S__law_any_net (fun _ _ _ _ _ _ us hl => match us, hl with | [_, _, _], _ => rfl) (fun vs H Q E h => spM_len h) (fun f cdv A outer s H vs Q E hr h => ?_)
  have hu := hr.units
  exact ⟨_, (pss_cons (ps_set (i := 3) S__law_any_net.nd rfl (by first | exact Or.inl rfl | exact Or.inr rfl) (pe_callTy (k_listK (K := K) rfl) rfl b_list boot_list (pa_cons (pe_callTy k_range rfl b_range boot_range (pa_cons (pe_op u_mulW pe_int (pn 2)) pa_nil)) pa_nil)))
      (pss_cons (ps_set (i := 4) S__law_any_net.nd rfl (by first | exact Or.inl rfl | exact Or.inr rfl) (pe_op u_rep (pe_lst (pa_cons pe_int pa_nil)) (pe_op u_mulW pe_int (pn 2))))
      (pss_cons (ps_set (i := 5) S__law_any_net.nd rfl (by first | exact Or.inl rfl | exact Or.inr rfl) (pe_fn h__law_cell (by decide) hr rfl (pa_cons (pn 0) (pa_cons (pn 1) pa_nil))))
      (pss_cons (ps_while PassesOwn.never (pt_cm (u_ne hu) (pn 3) (pe_lst pa_nil) (nomark _)) (pss_cons (ps_set (i := 6) S__law_any_net.nd rfl (by first | exact Or.inl rfl | exact Or.inr rfl) (pe_ml PySem.F.plainAttrs_list PySem.F.slot_list_pop PySem.F.type_list_pop mt_popM (pn 3) (pa_cons pe_int pa_nil)))
      (pss_cons (ps_set (i := 7) S__law_any_net.nd rfl (by first | exact Or.inl rfl | exact Or.inr rfl) (pe_op u_divW (pn 5) (pe_callB (k_lenK (K := K)) rfl b_len boot_len (pa_cons (pn 3) pa_nil))))
      (pss_cons (ps_set (i := 8) S__law_any_net.nd rfl (by first | exact Or.inl rfl | exact Or.inr rfl) (pe_ml PySem.F.plainAttrs_list PySem.F.slot_list_pop PySem.F.type_list_pop mt_popM (pn 3) (pa_cons (pe_op u_mod (pn 5) (pe_callB (k_lenK (K := K)) rfl b_len boot_len (pa_cons (pn 3) pa_nil))) pa_nil)))
      (pss_cons (ps_asg (pn 8) (pg_sub (pn 4) (pn 6) u_set))
      (pss_cons (ps_asg (pn 6) (pg_sub (pn 4) (pn 8) u_set))
      (pss_one (ps_set (i := 5) S__law_any_net.nd rfl (by first | exact Or.inl rfl | exact Or.inr rfl) (pn 7)))))))))
      (pss_one (ps_ret (pn 4))))))),
    (run_ok (N := ["_law_script", "_law_at", "_law_n", "_law_left", "_law_net", "_law_cell_here", "_law_one", "_law_rest", "_law_other"]) (ds_seq (ds_set (n := 1) [2] (de_listRange (da_cons (de_op ro_mul (dz de_int) (de_v 2)) da_nil)))
      (ds_seq (ds_set (n := 1) [2] (de_op ro_rep (de_lst (n := 0) (da_cons de_int da_nil)) (dz (de_op ro_mul (dz de_int) (de_v 2)))))
      (ds_seq (ds_set (n := 1) [0, 1] (de_call (da_cons (de_v 0) (da_cons (de_v 1) da_nil))))
      (ds_seq (ds_while (dt_b (dz (de_op ro_ne (de_v 3) (de_lst (n := 8) da_nil)))) (ds_seq (ds_pop 6 3 (dz de_int))
      (ds_seq (ds_set (n := 0) [5, 3] (de_op ro_div (de_v 5) (dz (de_bi cb_len (da_cons (de_v 3) da_nil)))))
      (ds_seq (ds_pop 8 3 (dz (de_op ro_mod (de_v 5) (dz (de_bi cb_len (da_cons (de_v 3) da_nil))))))
      (ds_seq (ds_item 4 (n := 0) (de_v 6) (de_v 8))
      (ds_seq (ds_item 4 (n := 0) (de_v 8) (de_v 6))
      (ds_set (n := 0) [7] (de_v 7))))))))
      (ds_retV 4))))) h)⟩
theorem ok__law_built (D : Def K mg "_law_built" s__law_built) (b_len : mg "len" = none) (b_range : mg "range" = none) : Has P w K mg base "_law_built" 1 ["_law_row_here", "_law_seats_here"] (sp0 K mg 1 m__law_built_v3) := by
  letI : Kc := ⟨K⟩
  refine D.ok S__law_built (fun _ _ _ _ _ _ us hl => match us, hl with | [_, _], _ => rfl) (fun vs H Q E h => spM_len h) (fun f cdv A outer s H vs Q E hr h => ?_)
  have hu := hr.units
  exact ⟨_, (pss_cons (ps_set (i := 2) S__law_built.nd rfl (by first | exact Or.inl rfl | exact Or.inr rfl) (pe_op u_rep (pe_lst (pa_cons pe_int pa_nil)) (pe_op u_mulW pe_int (pe_callB (k_lenK (K := K)) rfl b_len boot_len (pa_cons (pn 0) pa_nil)))))
      (pss_cons (ps_set (i := 3) S__law_built.nd rfl (by first | exact Or.inl rfl | exact Or.inr rfl) (pe_lst pa_nil))
      (pss_cons (ps_set (i := 4) S__law_built.nd rfl (by first | exact Or.inl rfl | exact Or.inr rfl) pe_dnewK)
      (pss_cons (ps_forK PassesOwn.never rfl (pi_all (K := K) (pn 0)) (pg_name (i := 5) S__law_built.nd rfl (by first | exact Or.inl rfl | exact Or.inr rfl)) (pss_cons (ps_expr (pe_ml PySem.F.plainAttrs_list PySem.F.slot_list_append PySem.F.type_list_append mt_appM (pn 3) (pa_cons (pe_tup (pa_cons (pn 5) (pa_cons (pe_dget2 (hu_of hr) (pn 4) (pn 5) pe_int ⟨rfl, rfl, rfl, rfl⟩) pa_nil))) pa_nil)))
      (pss_one (ps_dput (hu_of hr) (pn 4) (pn 5) pe_int rfl))))
      (pss_cons (ps_forK PassesOwn.never rfl (pi_range1 rfl b_range (pa_cons (pe_callB (k_lenK (K := K)) rfl b_len boot_len (pa_cons (pn 0) pa_nil)) pa_nil)) (pg_name (i := 6) S__law_built.nd rfl (by first | exact Or.inl rfl | exact Or.inr rfl)) (pss_cons (ps_asg (pe_ix (u_ixK (K := K)) (pn 3) (pe_op u_sub (pn 6) pe_int) (fun _ _ => rfl)) (pg_tupK (K := K) rfl (pgs_cons (pg_name (i := 5) S__law_built.nd rfl (by first | exact Or.inl rfl | exact Or.inr rfl)) (pgs_cons (pg_name (i := 7) S__law_built.nd rfl (by first | exact Or.inl rfl | exact Or.inr rfl)) pgs_nil))))
      (pss_cons (ps_asg (pe_ix (u_ixK (K := K)) (pn 3) (pn 6) (fun _ _ => rfl)) (pg_tupK (K := K) rfl (pgs_cons (pg_name (i := 8) S__law_built.nd rfl (by first | exact Or.inl rfl | exact Or.inr rfl)) (pgs_cons (pg_name (i := 9) S__law_built.nd rfl (by first | exact Or.inl rfl | exact Or.inr rfl)) pgs_nil))))
      (pss_cons (ps_set (i := 10) S__law_built.nd rfl (by first | exact Or.inl rfl | exact Or.inr rfl) (pe_op u_add (pe_op u_mulW pe_int (pn 5)) (pe_ix (u_ixK (K := K)) (pe_ix (u_ixK (K := K)) (pn 1) (pn 5) (fun _ _ => rfl)) (pe_op u_add (pn 7) pe_int) (fun _ _ => rfl))))
      (pss_cons (ps_set (i := 11) S__law_built.nd rfl (by first | exact Or.inl rfl | exact Or.inr rfl) (pe_op u_add (pe_op u_mulW pe_int (pn 8)) (pe_ix (u_ixK (K := K)) (pe_ix (u_ixK (K := K)) (pn 1) (pn 8) (fun _ _ => rfl)) (pn 9) (fun _ _ => rfl))))
      (pss_cons (ps_asg (pn 11) (pg_sub (pn 2) (pn 10) u_set))
      (pss_one (ps_asg (pn 10) (pg_sub (pn 2) (pn 11) u_set)))))))))
      (pss_one (ps_ret (pn 2)))))))),
    (run_ok (N := ["_law_row_here", "_law_seats_here", "_law_net", "_law_ins", "_law_stood", "_law_place", "_law_k", "_law_at", "_law_there", "_law_to", "_law_out", "_law_into"]) (ds_seq (ds_set (n := 1) [0] (de_op ro_rep (de_lst (n := 0) (da_cons de_int da_nil)) (dz (de_op ro_mul (dz de_int) (dz (de_bi cb_len (da_cons (de_v 0) da_nil)))))))
      (ds_seq (ds_set (n := 9) [] (de_lst (n := 8) da_nil))
      (ds_seq (ds_set (n := 1) [] de_dct0)
      (ds_seq (ds_for [0] (di_all (de_v 0)) (tg_name 5) (ds_seq (ds_app 3 (n := 1) (de_tup (n := 0) (da_cons (de_v 5) (da_cons (de_dget (de_v 4) (de_v 5) (dz de_int)) da_nil))))
      (ds_dput 4 (de_v 5) (dz de_int))))
      (ds_seq (ds_forR (di_r1 (da_cons (de_bi cb_len (da_cons (de_v 0) da_nil)) da_nil)) (ds_seq (ds_unp [3, 6] (tg_tup (tgs_cons 5 (tgs_cons 7 tgs_nil)) rfl) (de_op ro_ix (de_v 3) (dz (de_op ro_sub (de_v 6) (dz de_int)))))
      (ds_seq (ds_unp [3, 6] (tg_tup (tgs_cons 8 (tgs_cons 9 tgs_nil)) rfl) (de_op ro_ix (de_v 3) (de_v 6)))
      (ds_seq (ds_set (n := 1) [5, 1, 7] (de_op ro_add (dz (de_op ro_mul (dz de_int) (de_v 5))) (de_op ro_ix (de_op ro_ix (de_v 1) (de_v 5)) (de_op ro_add (de_v 7) (dz de_int)))))
      (ds_seq (ds_set (n := 1) [8, 9, 1] (de_op ro_add (dz (de_op ro_mul (dz de_int) (de_v 8))) (de_op ro_ix (de_op ro_ix (de_v 1) (de_v 8)) (de_v 9))))
      (ds_seq (ds_item 2 (n := 0) (de_v 10) (de_v 11))
      (ds_item 2 (n := 0) (de_v 11) (de_v 10))))))))
      (ds_retV 2)))))) h)⟩
theorem ok__law_joined (D : Def K mg "_law_joined" s__law_joined) : Has P w K mg base "_law_joined" 1 ["_law_choice", "_law_end"] (sp0 K mg 1 m__law_joined) := by
  letI : Kc := ⟨K⟩
  refine D.ok S__law_joined (fun _ _ _ _ _ _ us hl => match us, hl with | [_, _], _ => rfl) (fun vs H Q E h => spM_len h) (fun f cdv A outer s H vs Q E hr h => ?_)
  have hu := hr.units
  exact ex_door (dss_cons (ds_setD (i := 2) S__law_joined.nd rfl (by first | exact Or.inl rfl | exact Or.inr rfl) (de_ixD (u_ixK (K := K)) (de_lstD (da_consT (de_tupD (da_consD de_intD (da_consD de_intD (da_consD de_intD (da_consD de_intD da_nilD))))) (da_consT (de_tupD (da_consD de_intD (da_consD de_intD (da_consD de_intD (da_consD de_intD da_nilD))))) (da_consT (de_tupD (da_consD de_intD (da_consD de_intD (da_consD de_intD (da_consD de_intD da_nilD))))) da_nilD)))) ⟨(pe_ix (u_ixK (K := K)) (pn 0) (pe_op u_divW (pn 1) pe_int) (fun _ _ => rfl))⟩ (fun _ _ => rfl)))
      (dss_one ⟨(ps_ret (pe_op u_add (pe_op u_sub (pn 1) (pe_op u_mod (pn 1) pe_int)) (pe_ix (u_ixK (K := K)) (pn 2) (pe_op u_mod (pn 1) pe_int) (fun _ _ => rfl))))⟩))
    (run_ok (N := ["_law_choice", "_law_end", "_law_seats_here"]) (ds_seq (ds_set (n := 0) [0, 1] (de_op ro_ix (de_lst (n := 1) (da_cons (de_tup (n := 0) (da_cons de_int (da_cons de_int (da_cons de_int (da_cons de_int da_nil))))) (da_cons (de_tup (n := 0) (da_cons de_int (da_cons de_int (da_cons de_int (da_cons de_int da_nil))))) (da_cons (de_tup (n := 0) (da_cons de_int (da_cons de_int (da_cons de_int (da_cons de_int da_nil))))) da_nil)))) (de_op ro_ix (de_v 0) (dz (de_op ro_div (de_v 1) (dz de_int))))))
      (ds_ret (n := 1) [1, 2] (de_op ro_add (dz (de_op ro_sub (de_v 1) (dz (de_op ro_mod (de_v 1) (dz de_int))))) (de_op ro_ix (de_v 2) (dz (de_op ro_mod (de_v 1) (dz de_int))))))) h)
theorem ok__law_round (D : Def K mg "_law_round" s__law_round) (h__law_joined : Has P w K mg base "_law_joined" 1 ["_law_choice", "_law_end"] (sp0 K mg 1 m__law_joined)) : Has P w K mg base "_law_round" 2 ["_law_net", "_law_choice", "_law_end"] (sp0 K mg 9 m__law_round) := by
  letI : Kc := ⟨K⟩
  refine D.ok S__law_round (fun _ _ _ _ _ _ us hl => match us, hl with | [_, _, _], _ => rfl) (fun vs H Q E h => spM_len h) (fun f cdv A outer s H vs Q E hr h => ?_)
  have hu := hr.units
  exact ⟨_, (pss_cons (ps_set (i := 3) S__law_round.nd rfl (by first | exact Or.inl rfl | exact Or.inr rfl) (pe_lst pa_nil))
      (pss_cons (ps_set (i := 4) S__law_round.nd rfl (by first | exact Or.inl rfl | exact Or.inr rfl) (pn 2))
      (pss_cons (ps_while PassesOwn.never (pt_w (pw_or (pt_cm (u_eq hu) (pn 3) (pe_lst pa_nil) (nomark _)) (pw_or1 (pt_cm (u_ne hu) (pn 4) (pn 2) (nomark _))))) (pss_cons (ps_expr (pe_ml PySem.F.plainAttrs_list PySem.F.slot_list_append PySem.F.type_list_append mt_appM (pn 3) (pa_cons (pn 4) pa_nil)))
      (pss_cons (ps_expr (pe_ml PySem.F.plainAttrs_list PySem.F.slot_list_append PySem.F.type_list_append mt_appM (pn 3) (pa_cons (pe_fn h__law_joined (by decide) hr rfl (pa_cons (pn 1) (pa_cons (pn 4) pa_nil))) pa_nil)))
      (pss_one (ps_set (i := 4) S__law_round.nd rfl (by first | exact Or.inl rfl | exact Or.inr rfl) (pe_ix (u_ixK (K := K)) (pn 0) (pe_ix (u_ixK (K := K)) (pn 3) (pe_un u_neg pe_int) (fun _ _ => rfl)) (fun _ _ => rfl)))))))
      (pss_one (ps_ret (pn 3)))))),
    (run_ok (N := ["_law_net", "_law_choice", "_law_end", "_law_found", "_law_here"]) (ds_seq (ds_set (n := 9) [] (de_lst (n := 8) da_nil))
      (ds_seq (ds_set (n := 0) [2] (de_v 2))
      (ds_seq (ds_while (dt_or (dt_b (dz (de_op ro_eq (de_v 3) (de_lst (n := 8) da_nil)))) (dt_b (dz (de_op ro_ne (de_v 4) (de_v 2))))) (ds_seq (ds_app 3 (n := 0) (de_v 4))
      (ds_seq (ds_app 3 (n := 1) (de_call (da_cons (de_v 1) (da_cons (de_v 4) da_nil))))
      (ds_set (n := 0) [0, 3] (de_op ro_ix (de_v 0) (de_op ro_ix (de_v 3) (dz (de_un ro_neg (dz de_int)))))))))
      (ds_retV 3)))) h)⟩
theorem ok__law_rounds (D : Def K mg "_law_rounds" s__law_rounds) (h__law_round : Has P w K mg base "_law_round" 2 ["_law_net", "_law_choice", "_law_end"] (sp0 K mg 9 m__law_round)) (b_len : mg "len" = none) (b_range : mg "range" = none) : Has P w K mg base "_law_rounds" 3 ["_law_net", "_law_choice"] (sp0 K mg 1 m__law_rounds) := by
  letI : Kc := ⟨K⟩
  refine D.ok S__law_rounds (fun _ _ _ _ _ _ us hl => match us, hl with | [_, _], _ => rfl) (fun vs H Q E h => spM_len h) (fun f cdv A outer s H vs Q E hr h => ?_)
  have hu := hr.units
  exact ⟨_, (pss_cons (ps_set (i := 2) S__law_rounds.nd rfl (by first | exact Or.inl rfl | exact Or.inr rfl) pe_dnewK)
      (pss_cons (ps_set (i := 3) S__law_rounds.nd rfl (by first | exact Or.inl rfl | exact Or.inr rfl) (pe_lst pa_nil))
      (pss_cons (ps_forK PassesOwn.never rfl (pi_range1 rfl b_range (pa_cons (pe_callB (k_lenK (K := K)) rfl b_len boot_len (pa_cons (pn 0) pa_nil)) pa_nil)) (pg_name (i := 4) S__law_rounds.nd rfl (by first | exact Or.inl rfl | exact Or.inr rfl)) (pss_one (ps_if (pt_cmp (pc_dnotin (hu_of hr) (pn 4) (pn 2))) (pss_cons (ps_set (i := 5) S__law_rounds.nd rfl (by first | exact Or.inl rfl | exact Or.inr rfl) (pe_fn h__law_round (by decide) hr rfl (pa_cons (pn 0) (pa_cons (pn 1) (pa_cons (pn 4) pa_nil)))))
      (pss_cons (ps_forK PassesOwn.never rfl (pi_all (K := K) (pn 5)) (pg_name (i := 6) S__law_rounds.nd rfl (by first | exact Or.inl rfl | exact Or.inr rfl)) (pss_one (ps_dput (hu_of hr) (pn 2) (pn 6) pe_bl rfl)))
      (pss_one (ps_expr (pe_ml PySem.F.plainAttrs_list PySem.F.slot_list_append PySem.F.type_list_append mt_appM (pn 3) (pa_cons (pn 5) pa_nil)))))) pss_nil)))
      (pss_one (ps_ret (pn 3)))))),
    (run_ok (N := ["_law_net", "_law_choice", "_law_met", "_law_found", "_law_end", "_law_ends", "_law_one"]) (ds_seq (ds_set (n := 1) [] de_dct0)
      (ds_seq (ds_set (n := 9) [] (de_lst (n := 8) da_nil))
      (ds_seq (ds_forR (di_r1 (da_cons (de_bi cb_len (da_cons (de_v 0) da_nil)) da_nil)) (ds_if (dt_B (dz (de_dnin (de_v 4) (de_v 2)))) (ds_seq (ds_set (n := 9) [0, 1, 4] (de_call (da_cons (de_v 0) (da_cons (de_v 1) (da_cons (de_v 4) da_nil)))))
      (ds_seq (ds_for [5] (di_all (de_v 5)) (tg_name 6) (ds_dput 2 (de_v 6) (dz de_bl)))
      (ds_appF 3 [5] (de_v 5)))) ds_nil))
      (ds_retV 3)))) h)⟩
theorem ok__law_row (D : Def K mg "_law_row" s__law_row) (h__law_cell : Has P w K mg base "_law_cell" 1 ["_law_script", "_law_k"] (sp0 K mg 1 m__law_cell_v4)) (b_len : mg "len" = none) (b_range : mg "range" = none) : Has P w K mg base "_law_row" 2 ["_law_script", "_law_at", "_law_n"] (sp0 K mg 9 m__law_row_v3) := by
  letI : Kc := ⟨K⟩
  refine D.ok S__law_row (fun _ _ _ _ _ _ us hl => match us, hl with | [_, _, _], _ => rfl) (fun vs H Q E h => spM_len h) (fun f cdv A outer s H vs Q E hr h => ?_)
  have hu := hr.units
  exact ⟨_, (pss_cons (ps_setComp (i := 3) S__law_row.nd rfl (by first | exact Or.inl rfl | exact Or.inr rfl) rfl (cn ["0", "1", "2", "3", "4", "5", "6", "_law_k"] 1 (by kernel_rfl)) (pi_range1 rfl b_range (pa_cons (pe_op u_mulW pe_int (pn 2)) pa_nil)) (fun _ _ _ _ => (pg_name (i := 7) (by show List.Nodup (["0", "1", "2", "3", "4", "5", "6", "_law_k"] : List Str); decide +kernel) rfl (by first | exact Or.inl rfl | exact Or.inr rfl))) (fun _ _ _ _ => pts_nil) (fun _ _ _ _ => (pe_op u_divW (pn 7) pe_int)))
      (pss_cons (ps_set (i := 4) S__law_row.nd rfl (by first | exact Or.inl rfl | exact Or.inr rfl) (pe_fn h__law_cell (by decide) hr rfl (pa_cons (pn 0) (pa_cons (pn 1) pa_nil))))
      (pss_cons (ps_set (i := 5) S__law_row.nd rfl (by first | exact Or.inl rfl | exact Or.inr rfl) (pe_lst pa_nil))
      (pss_cons (ps_while PassesOwn.never (pt_cm (u_ne hu) (pn 3) (pe_lst pa_nil) (nomark _)) (pss_cons (ps_set (i := 6) S__law_row.nd rfl (by first | exact Or.inl rfl | exact Or.inr rfl) (pe_op u_divW (pn 4) (pe_callB (k_lenK (K := K)) rfl b_len boot_len (pa_cons (pn 3) pa_nil))))
      (pss_cons (ps_expr (pe_ml PySem.F.plainAttrs_list PySem.F.slot_list_append PySem.F.type_list_append mt_appM (pn 5) (pa_cons (pe_ml PySem.F.plainAttrs_list PySem.F.slot_list_pop PySem.F.type_list_pop mt_popM (pn 3) (pa_cons (pe_op u_mod (pn 4) (pe_callB (k_lenK (K := K)) rfl b_len boot_len (pa_cons (pn 3) pa_nil))) pa_nil)) pa_nil)))
      (pss_one (ps_set (i := 4) S__law_row.nd rfl (by first | exact Or.inl rfl | exact Or.inr rfl) (pn 6))))))
      (pss_one (ps_ret (pn 5))))))),
    (run_ok (N := ["_law_script", "_law_at", "_law_n", "_law_left", "_law_cell_here", "_law_row_here", "_law_rest"]) (ds_seq (ds_set (n := 1) [2] (de_comp (n := 0) (di_r1 (da_cons (de_op ro_mul (dz de_int) (de_v 2)) da_nil)) (tg_name 7) dt_yes (de_op ro_div (de_v 7) (dz de_int))))
      (ds_seq (ds_set (n := 1) [0, 1] (de_call (da_cons (de_v 0) (da_cons (de_v 1) da_nil))))
      (ds_seq (ds_set (n := 9) [] (de_lst (n := 8) da_nil))
      (ds_seq (ds_while (dt_b (dz (de_op ro_ne (de_v 3) (de_lst (n := 8) da_nil)))) (ds_seq (ds_set (n := 0) [4, 3] (de_op ro_div (de_v 4) (dz (de_bi cb_len (da_cons (de_v 3) da_nil)))))
      (ds_seq (ds_appPop 5 3 (dz (de_op ro_mod (de_v 4) (dz (de_bi cb_len (da_cons (de_v 3) da_nil))))))
      (ds_set (n := 0) [6] (de_v 6)))))
      (ds_retV 5))))) h)⟩
theorem ok__law_seats (D : Def K mg "_law_seats" s__law_seats) (b_range : mg "range" = none) : Has P w K mg base "_law_seats" 1 ["_law_cell_here", "_law_n"] (sp0 K mg 1 m__law_seats_v2) := by
  letI : Kc := ⟨K⟩
  refine D.ok S__law_seats (fun _ _ _ _ _ _ us hl => match us, hl with | [_, _], _ => rfl) (fun vs H Q E h => spM_len h) (fun f cdv A outer s H vs Q E hr h => ?_)
  have hu := hr.units
  exact ⟨_, (pss_cons (ps_set (i := 2) S__law_seats.nd rfl (by first | exact Or.inl rfl | exact Or.inr rfl) (pe_lst pa_nil))
      (pss_cons (ps_forK PassesOwn.never rfl (pi_range1 rfl b_range (pa_cons (pn 1) pa_nil)) (pg_name (i := 3) S__law_seats.nd rfl (by first | exact Or.inl rfl | exact Or.inr rfl)) (pss_cons (ps_set (i := 4) S__law_seats.nd rfl (by first | exact Or.inl rfl | exact Or.inr rfl) (pe_lst (pa_cons pe_int (pa_cons pe_int (pa_cons pe_int (pa_cons pe_int pa_nil))))))
      (pss_cons (ps_set (i := 5) S__law_seats.nd rfl (by first | exact Or.inl rfl | exact Or.inr rfl) (pe_lst pa_nil))
      (pss_cons (ps_forK PassesOwn.never rfl (pi_all (K := K) (pe_tup (pa_cons pe_int (pa_cons pe_int (pa_cons pe_int (pa_cons pe_int pa_nil)))))) (pg_name (i := 6) S__law_seats.nd rfl (by first | exact Or.inl rfl | exact Or.inr rfl)) (pss_cons (ps_expr (pe_ml PySem.F.plainAttrs_list PySem.F.slot_list_append PySem.F.type_list_append mt_appM (pn 5) (pa_cons (pe_ml PySem.F.plainAttrs_list PySem.F.slot_list_pop PySem.F.type_list_pop mt_popM (pn 4) (pa_cons (pe_op u_mod (pn 0) (pn 6)) pa_nil)) pa_nil)))
      (pss_one (ps_set (i := 0) S__law_seats.nd rfl (by first | exact Or.inl rfl | exact Or.inr rfl) (pe_op u_divW (pn 0) (pn 6))))))
      (pss_one (ps_expr (pe_ml PySem.F.plainAttrs_list PySem.F.slot_list_append PySem.F.type_list_append mt_appM (pn 2) (pa_cons (pn 5) pa_nil))))))))
      (pss_one (ps_ret (pn 2))))),
    (run_ok (N := ["_law_cell_here", "_law_n", "_law_seats_here", "_law_place", "_law_left", "_law_some", "_law_many"]) (ds_seq (ds_set (n := 9) [] (de_lst (n := 8) da_nil))
      (ds_seq (ds_forR (di_r1 (da_cons (de_v 1) da_nil)) (ds_seq (ds_set (n := 1) [] (de_lst (n := 0) (da_cons de_int (da_cons de_int (da_cons de_int (da_cons de_int da_nil))))))
      (ds_seq (ds_set (n := 9) [] (de_lst (n := 8) da_nil))
      (ds_seq (ds_for [] (di_all (de_tup (n := 0) (da_cons de_int (da_cons de_int (da_cons de_int (da_cons de_int da_nil)))))) (tg_name 6) (ds_seq (ds_appPop 5 4 (dz (de_op ro_mod (de_v 0) (de_v 6))))
      (ds_set (n := 0) [0, 6] (de_op ro_div (de_v 0) (de_v 6)))))
      (ds_appF 2 [5] (de_v 5))))))
      (ds_retV 2))) h)⟩
theorem ok__law_whole (D : Def K mg "_law_whole" s__law_whole) (b_bool : mg "bool" = none) (b_int : mg "int" = none) (b_isinstance : mg "isinstance" = none) : Has P w K mg base "_law_whole" 1 ["_law_found"] (sp0 K mg 0 m__law_whole) := by
  letI : Kc := ⟨K⟩
  refine D.ok S__law_whole (fun _ _ _ _ _ _ us hl => match us, hl with | [_], _ => rfl) (fun vs H Q E h => spM_len h) (fun f cdv A outer s H vs Q E hr h => ?_)
  have hu := hr.units
  exact ⟨_, (pss_one (ps_ret (pe_am (pe_callB k_isinstance rfl b_isinstance boot_isinstance (pa_cons (pn 0) (pa_cons (pe_bltn (v := .ty "int") rfl b_int boot_int rfl) pa_nil))) (pe_one (pe_nm (pe_callB k_isinstance rfl b_isinstance boot_isinstance (pa_cons (pn 0) (pa_cons (pe_bltn (v := .ty "bool") rfl b_bool boot_bool rfl) pa_nil)))))))),
    (run_ok (N := ["_law_found"]) (ds_ret (n := 0) [0] (de_and (dz (de_isi (by decide) (de_v 0))) (de_not (dz (de_isi (by decide) (de_v 0)))))) h)⟩
theorem ok_joined (D : Def K mg "joined" s_joined) : Has P w K mg base "joined" 1 ["way", "seat"] (sp0 K mg 0 m_joined) := by
  letI : Kc := ⟨K⟩
  refine D.ok S_joined (fun _ _ _ _ _ _ us hl => match us, hl with | [_, _], _ => rfl) (fun vs H Q E h => spM_len h) (fun f cdv A outer s H vs Q E hr h => ?_)
  have hu := hr.units
  exact ⟨_, (pss_one (ps_ret (pe_op u_xor (pn 1) (pe_op u_add (pn 0) pe_int)))),
    (run_ok (N := ["way", "seat"]) (ds_ret (n := 0) [1, 0] (de_op ro_xor (de_v 1) (de_op ro_add (de_v 0) (dz de_int)))) h)⟩
theorem ok_joined_end (D : Def K mg "joined_end" s_joined_end) (h_joined : Has P w K mg base "joined" 1 ["way", "seat"] (sp0 K mg 0 m_joined)) {u_SEATS : Value} (c_SEATS : RelV (V.int 4) u_SEATS ∧ mg "SEATS" = some u_SEATS) : Has P w K mg base "joined_end" 2 ["choice", "end"] (sp0 K mg 1 m_joined_end) := by
  letI : Kc := ⟨K⟩
  refine D.ok S_joined_end (fun _ _ _ _ _ _ us hl => match us, hl with | [_, _], _ => rfl) (fun vs H Q E h => spM_len h) (fun f cdv A outer s H vs Q E hr h => ?_)
  have hu := hr.units
  exact ⟨_, (pss_cons (ps_set (i := 2) S_joined_end.nd rfl (by first | exact Or.inl rfl | exact Or.inr rfl) (pe_op u_divW (pn 1) (pe_glob rfl c_SEATS.2 c_SEATS.1)))
      (pss_one (ps_ret (pe_op u_add (pe_op u_mulW (pn 2) (pe_glob rfl c_SEATS.2 c_SEATS.1)) (pe_fn h_joined (by decide) hr rfl (pa_cons (pe_ix (u_ixK (K := K)) (pn 0) (pn 2) (fun _ _ => rfl)) (pa_cons (pe_op u_mod (pn 1) (pe_glob rfl c_SEATS.2 c_SEATS.1)) pa_nil))))))),
    (run_ok (N := ["choice", "end", "place"]) (ds_seq (ds_set (n := 0) [1] (de_op ro_div (de_v 1) (dz de_int)))
      (ds_ret (n := 1) [2, 0, 1] (de_op ro_add (dz (de_op ro_mul (de_v 2) (dz de_int))) (de_call (da_cons (de_op ro_ix (de_v 0) (de_v 2)) (da_cons (de_op ro_mod (de_v 1) (dz de_int)) da_nil)))))) h)⟩
theorem ok_round_of (D : Def K mg "round_of" s_round_of) (h_joined_end : Has P w K mg base "joined_end" 2 ["choice", "end"] (sp0 K mg 1 m_joined_end)) : Has P w K mg base "round_of" 3 ["net", "choice", "end"] (sp0 K mg 1 m_round_of) := by
  letI : Kc := ⟨K⟩
  refine D.ok S_round_of (fun _ _ _ _ _ _ us hl => match us, hl with | [_, _, _], _ => rfl) (fun vs H Q E h => spM_len h) (fun f cdv A outer s H vs Q E hr h => ?_)
  have hu := hr.units
  exact ⟨_, (pss_cons (ps_set (i := 3) S_round_of.nd rfl (by first | exact Or.inl rfl | exact Or.inr rfl) (pe_lst (pa_cons (pn 2) (pa_cons (pe_fn h_joined_end (by decide) hr rfl (pa_cons (pn 1) (pa_cons (pn 2) pa_nil))) pa_nil))))
      (pss_cons (ps_while PassesOwn.never (pt_cm (u_ne hu) (pe_ix (u_ixK (K := K)) (pn 0) (pe_ix (u_ixK (K := K)) (pn 3) (pe_un u_neg pe_int) (fun _ _ => rfl)) (fun _ _ => rfl)) (pn 2) (nomark _)) (pss_cons (ps_set (i := 4) S_round_of.nd rfl (by first | exact Or.inl rfl | exact Or.inr rfl) (pe_ix (u_ixK (K := K)) (pn 0) (pe_ix (u_ixK (K := K)) (pn 3) (pe_un u_neg pe_int) (fun _ _ => rfl)) (fun _ _ => rfl)))
      (pss_one (ps_expr (pe_ml PySem.F.plainAttrs_list PySem.F.slot_list_extend PySem.F.type_list_extend mt_extM (pn 3) (pa_cons (pe_lst (pa_cons (pn 4) (pa_cons (pe_fn h_joined_end (by decide) hr rfl (pa_cons (pn 1) (pa_cons (pn 4) pa_nil))) pa_nil))) pa_nil))))))
      (pss_one (ps_ret (pn 3))))),
    (run_ok (N := ["net", "choice", "end", "ends", "come"]) (ds_seq (ds_set (n := 1) [2, 1] (de_lst (n := 0) (da_cons (de_v 2) (da_cons (de_frz (de_call (da_cons (de_v 1) (da_cons (de_v 2) da_nil)))) da_nil))))
      (ds_seq (ds_while (dt_b (dz (de_op ro_ne (de_op ro_ix (de_v 0) (de_op ro_ix (de_v 3) (dz (de_un ro_neg (dz de_int))))) (de_v 2)))) (ds_seq (ds_set (n := 0) [0, 3] (de_op ro_ix (de_v 0) (de_op ro_ix (de_v 3) (dz (de_un ro_neg (dz de_int))))))
      (ds_ext 3 (n := 0) (de_lst (n := 0) (da_cons (de_v 4) (da_cons (de_frz (de_call (da_cons (de_v 1) (da_cons (de_v 4) da_nil)))) da_nil))))))
      (ds_retV 3))) h)⟩
theorem ok_rounds_of (D : Def K mg "rounds_of" s_rounds_of) (h_round_of : Has P w K mg base "round_of" 3 ["net", "choice", "end"] (sp0 K mg 1 m_round_of)) (b_len : mg "len" = none) (b_range : mg "range" = none) : Has P w K mg base "rounds_of" 4 ["net", "choice"] (sp0 K mg 2 m_rounds_of_v2) := by
  letI : Kc := ⟨K⟩
  refine D.ok S_rounds_of (fun _ _ _ _ _ _ us hl => match us, hl with | [_, _], _ => rfl) (fun vs H Q E h => spM_len h) (fun f cdv A outer s H vs Q E hr h => ?_)
  have hu := hr.units
  exact ⟨_, (pss_cons (ps_set (i := 2) S_rounds_of.nd rfl (by first | exact Or.inl rfl | exact Or.inr rfl) (pe_lst pa_nil))
      (pss_cons (ps_set (i := 3) S_rounds_of.nd rfl (by first | exact Or.inl rfl | exact Or.inr rfl) pe_dnewK)
      (pss_cons (ps_forK PassesOwn.never rfl (pi_range1 rfl b_range (pa_cons (pe_callB (k_lenK (K := K)) rfl b_len boot_len (pa_cons (pn 0) pa_nil)) pa_nil)) (pg_name (i := 4) S_rounds_of.nd rfl (by first | exact Or.inl rfl | exact Or.inr rfl)) (pss_one (ps_if (pt_cmp (pc_dnotin (hu_of hr) (pn 4) (pn 3))) (pss_cons (ps_set (i := 5) S_rounds_of.nd rfl (by first | exact Or.inl rfl | exact Or.inr rfl) (pe_fn h_round_of (by decide) hr rfl (pa_cons (pn 0) (pa_cons (pn 1) (pa_cons (pn 4) pa_nil)))))
      (pss_cons (ps_expr (pe_ml PySem.F.plainAttrs_list PySem.F.slot_list_append PySem.F.type_list_append mt_appM (pn 2) (pa_cons (pn 5) pa_nil)))
      (pss_one (ps_expr (pe_md PySem.F.plainAttrs_dict PySem.F.slot_dict_update PySem.F.type_dict_update (mt_updM rfl) (pn 3) (pa_cons (pe_comp rfl (cn ["0", "1", "2", "3", "4", "5", "met"] 1 (by kernel_rfl)) (pi_all (K := K) (pn 5)) (fun _ _ _ _ => (pg_name (i := 6) (by show List.Nodup (["0", "1", "2", "3", "4", "5", "met"] : List Str); decide +kernel) rfl (by first | exact Or.inl rfl | exact Or.inr rfl))) (fun _ _ _ _ => pts_nil) (fun _ _ _ _ => (pe_tup (pa_cons (pn 6) (pa_cons pe_bl pa_nil))))) pa_nil)))))) pss_nil)))
      (pss_one (ps_ret (pn 2)))))),
    (run_ok (N := ["net", "choice", "rounds", "passed", "end", "ends"]) (ds_seq (ds_set (n := 9) [] (de_lst (n := 8) da_nil))
      (ds_seq (ds_set (n := 1) [] de_dct0)
      (ds_seq (ds_forR (di_r1 (da_cons (de_bi cb_len (da_cons (de_v 0) da_nil)) da_nil)) (ds_if (dt_B (dz (de_dnin (de_v 4) (de_v 3)))) (ds_seq (ds_set (n := 1) [0, 1, 4] (de_call (da_cons (de_v 0) (da_cons (de_v 1) (da_cons (de_v 4) da_nil)))))
      (ds_appUpd 2 5 3 (de_comp (n := 1) (di_all (de_v 5)) (tg_name 6) dt_yes (de_tup (n := 0) (da_cons (de_v 6) (da_cons de_bl da_nil)))))) ds_nil))
      (ds_retV 2)))) h)⟩
theorem ok_many_rounds (D : Def K mg "many_rounds" s_many_rounds) (h_rounds_of : Has P w K mg base "rounds_of" 4 ["net", "choice"] (sp0 K mg 2 m_rounds_of_v2)) (b_len : mg "len" = none) : Has P w K mg base "many_rounds" 5 ["net", "choice"] (sp0 K mg 0 m_many_rounds_v2) := by
  letI : Kc := ⟨K⟩
  refine D.ok S_many_rounds (fun _ _ _ _ _ _ us hl => match us, hl with | [_, _], _ => rfl) (fun vs H Q E h => spM_len h) (fun f cdv A outer s H vs Q E hr h => ?_)
  have hu := hr.units
  exact ⟨_, (pss_one (ps_ret (pe_callB (k_lenK (K := K)) rfl b_len boot_len (pa_cons (pe_fn h_rounds_of (by decide) hr rfl (pa_cons (pn 0) (pa_cons (pn 1) pa_nil))) pa_nil)))),
    (run_ok (N := ["net", "choice"]) (ds_ret (n := 0) [0, 1] (de_bi cb_len (da_cons (de_frz (de_call (da_cons (de_v 0) (da_cons (de_v 1) da_nil)))) da_nil))) h)⟩
theorem ok_law {f : Addr} {fd : FuncData} (F : Fun K "law" "law" s_law f fd) (h__law_alike : Has P w K mg base "_law_alike" 1 ["_law_found", "_law_due"] (sp0 K mg 0 m__law_alike)) (h__law_any_net : Has P w K mg base "_law_any_net" 2 ["_law_script", "_law_at", "_law_n"] (sp0 K mg 1 m__law_any_net_v2)) (h__law_built : Has P w K mg base "_law_built" 1 ["_law_row_here", "_law_seats_here"] (sp0 K mg 1 m__law_built_v3)) (h__law_cell : Has P w K mg base "_law_cell" 1 ["_law_script", "_law_k"] (sp0 K mg 1 m__law_cell_v4)) (h__law_rounds : Has P w K mg base "_law_rounds" 3 ["_law_net", "_law_choice"] (sp0 K mg 1 m__law_rounds)) (h__law_row : Has P w K mg base "_law_row" 2 ["_law_script", "_law_at", "_law_n"] (sp0 K mg 9 m__law_row_v3)) (h__law_seats : Has P w K mg base "_law_seats" 1 ["_law_cell_here", "_law_n"] (sp0 K mg 1 m__law_seats_v2)) (h__law_whole : Has P w K mg base "_law_whole" 1 ["_law_found"] (sp0 K mg 0 m__law_whole)) (h_many_rounds : Has P w K mg base "many_rounds" 5 ["net", "choice"] (sp0 K mg 0 m_many_rounds_v2)) (h_round_of : Has P w K mg base "round_of" 3 ["net", "choice", "end"] (sp0 K mg 1 m_round_of)) (h_rounds_of : Has P w K mg base "rounds_of" 4 ["net", "choice"] (sp0 K mg 2 m_rounds_of_v2)) (b_len : mg "len" = none) (b_list : mg "list" = none) (b_min : mg "min" = none) (b_range : mg "range" = none) (b_sorted : mg "sorted" = none) : FnOk P w K mg base CX0 6 f fd ["_law_script"] (spLawW K) := by
  letI : Kc := ⟨K⟩
  refine (F.ok S_law (sp := sp0 K mg 0 m_law_Q14) (fun vs H Q E h => spM_len h) (fun cdv A outer s H vs Q E hr h => ?_)).imp (law_impW law_true)
  have hu := hr.units
  exact ⟨_, (pss_cons (ps_set (i := 1) S_law.nd rfl (by first | exact Or.inl rfl | exact Or.inr rfl) (pe_op u_add pe_int (pe_op u_mod (pe_fn h__law_cell (by decide) hr rfl (pa_cons (pn 0) (pa_cons pe_int pa_nil))) pe_int)))
      (pss_cons (ps_set (i := 2) S_law.nd rfl (by first | exact Or.inl rfl | exact Or.inr rfl) (pe_fn h__law_any_net (by decide) hr rfl (pa_cons (pn 0) (pa_cons pe_int (pa_cons (pn 1) pa_nil)))))
      (pss_cons (ps_if (pt_cm (u_eq hu) (pe_op u_mod (pe_op u_divW (pe_fn h__law_cell (by decide) hr rfl (pa_cons (pn 0) (pa_cons pe_int pa_nil))) pe_int) pe_int) pe_int (nomark _)) (pss_one (ps_set (i := 2) S_law.nd rfl (by first | exact Or.inl rfl | exact Or.inr rfl) (pe_fn h__law_built (by decide) hr rfl (pa_cons (pe_fn h__law_row (by decide) hr rfl (pa_cons (pn 0) (pa_cons pe_int (pa_cons (pn 1) pa_nil)))) (pa_cons (pe_fn h__law_seats (by decide) hr rfl (pa_cons (pe_fn h__law_cell (by decide) hr rfl (pa_cons (pn 0) (pa_cons pe_int pa_nil))) (pa_cons (pn 1) pa_nil))) pa_nil))))) pss_nil)
      (pss_cons (ps_setComp (i := 3) S_law.nd rfl (by first | exact Or.inl rfl | exact Or.inr rfl) rfl (cn ["_law_script", "1", "2", "3", "4", "5", "6", "7", "8", "9", "_law_k"] 1 (by kernel_rfl)) (pi_range1 rfl b_range (pa_cons (pn 1) pa_nil)) (fun _ _ _ _ => (pg_name (i := 10) (by show List.Nodup (["_law_script", "1", "2", "3", "4", "5", "6", "7", "8", "9", "_law_k"] : List Str); decide +kernel) rfl (by first | exact Or.inl rfl | exact Or.inr rfl))) (fun _ _ _ _ => pts_nil) (fun _ _ _ _ => (pe_op u_mod (pe_fn h__law_cell (by decide) hr rfl (pa_cons (pn 0) (pa_cons (pe_op u_add pe_int (pn 10)) pa_nil))) pe_int)))
      (pss_cons (ps_set (i := 4) S_law.nd rfl (by first | exact Or.inl rfl | exact Or.inr rfl) (pe_fn h__law_rounds (by decide) hr rfl (pa_cons (pn 2) (pa_cons (pn 3) pa_nil))))
      (pss_cons (ps_set (i := 5) S_law.nd rfl (by first | exact Or.inl rfl | exact Or.inr rfl) (pe_lst (pa_cons (pe_callTy (k_listK (K := K) rfl) rfl b_list boot_list (pa_cons (pn 2) pa_nil)) (pa_cons (pe_callTy (k_listK (K := K) rfl) rfl b_list boot_list (pa_cons (pn 3) pa_nil)) pa_nil))))
      (pss_cons (ps_set (i := 6) S_law.nd rfl (by first | exact Or.inl rfl | exact Or.inr rfl) (pe_fn h_rounds_of (by decide) hr rfl (pa_cons (pe_ix (u_ixK (K := K)) (pn 5) pe_int (fun _ _ => rfl)) (pa_cons (pe_ix (u_ixK (K := K)) (pn 5) pe_int (fun _ _ => rfl)) pa_nil))))
      (pss_cons (ps_if (pt_w (pw_or (pt_not (pt_m (pe_fn h__law_alike (by decide) hr rfl (pa_cons (pn 6) (pa_cons (pn 4) pa_nil))))) (pw_or1 (pt_cm (u_ne hu) (pn 5) (pe_lst (pa_cons (pn 2) (pa_cons (pn 3) pa_nil))) (nomark _))))) (pss_one (ps_ret pe_bl)) pss_nil)
      (pss_cons (ps_set (i := 7) S_law.nd rfl (by first | exact Or.inl rfl | exact Or.inr rfl) (pe_lst pa_nil))
      (pss_cons (ps_forK PassesOwn.never rfl (pi_all (K := K) (pn 6)) (pg_name (i := 8) S_law.nd rfl (by first | exact Or.inl rfl | exact Or.inr rfl)) (pss_cons (ps_if (pt_w (pw_or (pt_cm (u_ne hu) (pe_ix (u_ixK (K := K)) (pn 8) pe_int (fun _ _ => rfl)) (pe_callB (k_minL rfl) rfl b_min boot_min (pa_cons (pn 8) pa_nil)) (nomark _)) (pw_or1 (pt_cm (u_ne hu) (pe_fn h_round_of (by decide) hr rfl (pa_cons (pe_callTy (k_listK (K := K) rfl) rfl b_list boot_list (pa_cons (pn 2) pa_nil)) (pa_cons (pe_callTy (k_listK (K := K) rfl) rfl b_list boot_list (pa_cons (pn 3) pa_nil)) (pa_cons (pe_ix (u_ixK (K := K)) (pn 8) pe_int (fun _ _ => rfl)) pa_nil)))) (pn 8) (nomark _))))) (pss_one (ps_ret pe_bl)) pss_nil)
      (pss_one (ps_set (i := 7) S_law.nd rfl (by first | exact Or.inl rfl | exact Or.inr rfl) (pe_op u_add (pn 7) (pn 8))))))
      (pss_cons (ps_if (pt_cm (u_ne hu) (pe_callB k_sorted rfl b_sorted boot_sorted (pa_cons (pn 7) pa_nil)) (pe_callTy (k_listK (K := K) rfl) rfl b_list boot_list (pa_cons (pe_callTy k_range rfl b_range boot_range (pa_cons (pe_op u_mulW pe_int (pn 1)) pa_nil)) pa_nil)) (nomark _)) (pss_one (ps_ret pe_bl)) pss_nil)
      (pss_cons (ps_set (i := 9) S_law.nd rfl (by first | exact Or.inl rfl | exact Or.inr rfl) (pe_fn h_many_rounds (by decide) hr rfl (pa_cons (pe_ix (u_ixK (K := K)) (pn 5) pe_int (fun _ _ => rfl)) (pa_cons (pe_ix (u_ixK (K := K)) (pn 5) pe_int (fun _ _ => rfl)) pa_nil))))
      (pss_cons (ps_if (pt_w (pw_or (pt_not (pt_m (pe_fn h__law_whole (by decide) hr rfl (pa_cons (pn 9) pa_nil)))) (pw_or1 (pt_cm (u_ne hu) (pn 9) (pe_callB (k_lenK (K := K)) rfl b_len boot_len (pa_cons (pn 4) pa_nil)) (nomark _))))) (pss_one (ps_ret pe_bl)) pss_nil)
      (pss_cons (ps_expr (pe_ml PySem.F.plainAttrs_list PySem.F.slot_list_append PySem.F.type_list_append mt_appM (pe_ix (u_ixK (K := K)) (pn 6) pe_int (fun _ _ => rfl)) (pa_cons pe_int pa_nil)))
      (pss_cons (ps_expr (pe_ml0 PySem.F.plainAttrs_list PySem.F.slot_list_pop PySem.F.type_list_pop mt_popM (pn 6)))
      (pss_one (ps_ret (pe_am (pe_fn h__law_alike (by decide) hr rfl (pa_cons (pe_fn h_rounds_of (by decide) hr rfl (pa_cons (pe_ix (u_ixK (K := K)) (pn 5) pe_int (fun _ _ => rfl)) (pa_cons (pe_ix (u_ixK (K := K)) (pn 5) pe_int (fun _ _ => rfl)) pa_nil))) (pa_cons (pn 4) pa_nil))) (pe_one (pe_cmpR (u_eq hu) (pn 5) (pe_lst (pa_cons (pn 2) (pa_cons (pn 3) pa_nil))) (nomark _))))))))))))))))))))),
    run_ok (N := ["_law_script", "_law_n", "_law_net", "_law_choice", "_law_due", "_law_handed", "_law_found", "_law_met", "_law_ends", "_law_many"]) (ds_seq (ds_set (n := 1) [0] (de_op ro_add (dz de_int) (dz (de_op ro_mod (de_call (da_cons (de_v 0) (da_cons de_int da_nil))) (dz de_int)))))
      (ds_seq (ds_set (n := 1) [0, 1] (de_call (da_cons (de_v 0) (da_cons de_int (da_cons (de_v 1) da_nil)))))
      (ds_seq (ds_if (dt_b (dz (de_op ro_eq (dz (de_op ro_mod (dz (de_op ro_div (de_call (da_cons (de_v 0) (da_cons de_int da_nil))) (dz de_int))) (dz de_int))) (dz de_int)))) (ds_set (n := 1) [0, 1] (de_call (da_cons (de_frz (de_call (da_cons (de_v 0) (da_cons de_int (da_cons (de_v 1) da_nil))))) (da_cons (de_frz (de_call (da_cons (de_frz (de_call (da_cons (de_v 0) (da_cons de_int da_nil)))) (da_cons (de_v 1) da_nil)))) da_nil)))) ds_nil)
      (ds_seq (ds_set (n := 1) [0, 1] (de_comp (n := 0) (di_r1 (da_cons (de_v 1) da_nil)) (tg_name 10) dt_yes (de_op ro_mod (de_call (da_cons (de_v 0) (da_cons (de_frz (de_op ro_add (dz de_int) (de_v 10))) da_nil))) (dz de_int))))
      (ds_seq (ds_set (n := 1) [2, 3] (de_call (da_cons (de_v 2) (da_cons (de_v 3) da_nil))))
      (ds_seq (ds_set (n := 2) [2, 3] (de_lst (n := 1) (da_cons (de_bi cb_list (da_cons (de_v 2) da_nil)) (da_cons (de_bi cb_list (da_cons (de_v 3) da_nil)) da_nil))))
      (ds_seq (ds_set (n := 2) [5] (de_call (da_cons (de_op ro_ix (de_v 5) (dz de_int)) (da_cons (de_op ro_ix (de_v 5) (dz de_int)) da_nil))))
      (ds_seq (ds_if (dt_or (dt_not (dt_m (de_call (da_cons (de_v 6) (da_cons (de_v 4) da_nil))))) (dt_b (dz (de_op ro_ne (de_v 5) (de_lst (n := 0) (da_cons (de_v 2) (da_cons (de_v 3) da_nil))))))) (ds_ret (n := 0) [] de_bl) ds_nil)
      (ds_seq (ds_set (n := 9) [] (de_lst (n := 8) da_nil))
      (ds_seq (ds_forAcc 6 8 7 (dt_or (dt_b (dz (de_op ro_ne (de_op ro_ix (de_v 8) (dz de_int)) (dz (de_bi cb_minL (da_cons (de_v 8) da_nil)))))) (dt_b (dz (de_op ro_ne (de_call (da_cons (de_frz (de_bi cb_list (da_cons (de_v 2) da_nil))) (da_cons (de_frz (de_bi cb_list (da_cons (de_v 3) da_nil))) (da_cons (de_op ro_ix (de_v 8) (dz de_int)) da_nil)))) (de_v 8))))) (dz de_bl) (de_op ro_add (de_v 7) (de_v 8)))
      (ds_seq (ds_if (dt_b (dz (de_op ro_ne (de_bi cb_sort (da_cons (de_v 7) da_nil)) (de_listRange (da_cons (de_op ro_mul (dz de_int) (de_v 1)) da_nil))))) (ds_ret (n := 0) [] de_bl) ds_nil)
      (ds_seq (ds_set (n := 0) [5] (de_call (da_cons (de_op ro_ix (de_v 5) (dz de_int)) (da_cons (de_op ro_ix (de_v 5) (dz de_int)) da_nil))))
      (ds_seq (ds_if (dt_or (dt_not (dt_m (de_call (da_cons (de_v 9) da_nil)))) (dt_b (dz (de_op ro_ne (de_v 9) (dz (de_bi cb_len (da_cons (de_v 4) da_nil))))))) (ds_ret (n := 0) [] de_bl) ds_nil)
      (ds_seq (ds_app2 6 (dz de_int) (dz de_int))
      (ds_seq (ds_pop0 6)
      (ds_ret (n := 0) [4, 5, 2, 3] (de_and (de_call (da_cons (de_frz (de_call (da_cons (de_op ro_ix (de_v 5) (dz de_int)) (da_cons (de_op ro_ix (de_v 5) (dz de_int)) da_nil)))) (da_cons (de_v 4) da_nil))) (de_op ro_eq (de_v 5) (de_lst (n := 0) (da_cons (de_v 2) (da_cons (de_v 3) da_nil))))))))))))))))))))) h⟩
end
theorem all_mk {l : PySem.W.OpenLaw} {w : World} {K : PySem.W.Frag} {h : Heap} {mg : Str → Option Value} {fa f0 f1 f2 f3 f4 f5 f6 f7 f8 f9 f10 f11 f12 f13 f14 f15 : Addr} (X : K.In h) (G : h.Ns mainGlobals mg) (hfa : mg "law" = some (.ref fa))
    {od0 an0 od1 an1 od2 an2 od3 an3 od4 an4 od5 an5 od6 an6 od7 an7 od8 an8 od9 an9 od10 an10 od11 an11 od12 an12 od13 an13 od14 an14 od15 an15 : Option Addr} {sl0 sl1 sl2 sl3 sl4 sl5 sl6 sl7 sl8 sl9 sl10 sl11 sl12 sl13 sl14 sl15 : Array (Option Value)} {oc0 kV0 dc0 pm0 cd0 ct0 oc1 kV1 dc1 pm1 cd1 ct1 oc2 kV2 dc2 pm2 cd2 ct2 oc3 kV3 dc3 pm3 cd3 ct3 oc4 kV4 dc4 pm4 cd4 ct4 oc5 kV5 dc5 pm5 cd5 ct5 oc6 kV6 dc6 pm6 cd6 ct6 oc7 kV7 dc7 pm7 cd7 ct7 oc8 kV8 dc8 pm8 cd8 ct8 oc9 kV9 dc9 pm9 cd9 ct9 oc10 kV10 dc10 pm10 cd10 ct10 oc11 kV11 dc11 pm11 cd11 ct11 oc12 kV12 dc12 pm12 cd12 ct12 oc13 kV13 dc13 pm13 cd13 ct13 oc14 kV14 dc14 pm14 cd14 ct14 oc15 kV15 dc15 pm15 cd15 ct15 : Value} {t0 : Tok}
    (a0 : PySem.W.nsIn K mainGlobals "_law_alike" = some (some (.ref f0)))
    (l0 : K.lookup f0 = some ⟨oc0, od0, .func (PySem.W.fnOf "_law_alike" "_law_alike" (defArgs s__law_alike) (defBody s__law_alike) (defScope s__law_alike) .none kV0 dc0 pm0 an0 cd0 ct0), sl0⟩)
    (c0 : PySem.W.codeIn K cd0 "_law_alike" = true)
    (k0 : PySem.W.keepIn K (.ref f0) = true)
    (a1 : PySem.W.nsIn K mainGlobals "_law_cell" = some (some (.ref f1)))
    (l1 : K.lookup f1 = some ⟨oc1, od1, .func (PySem.W.fnOf "_law_cell" "_law_cell" (defArgs s__law_cell) (defBody s__law_cell) (defScope s__law_cell) .none kV1 dc1 pm1 an1 cd1 ct1), sl1⟩)
    (c1 : PySem.W.codeIn K cd1 "_law_cell" = true)
    (k1 : PySem.W.keepIn K (.ref f1) = true)
    (a2 : PySem.W.nsIn K mainGlobals "_law_any_net" = some (some (.ref f2)))
    (l2 : K.lookup f2 = some ⟨oc2, od2, .func (PySem.W.fnOf "_law_any_net" "_law_any_net" (defArgs s__law_any_net) (defBody s__law_any_net) (defScope s__law_any_net) .none kV2 dc2 pm2 an2 cd2 ct2), sl2⟩)
    (c2 : PySem.W.codeIn K cd2 "_law_any_net" = true)
    (k2 : PySem.W.keepIn K (.ref f2) = true)
    (a3 : PySem.W.nsIn K mainGlobals "_law_built" = some (some (.ref f3)))
    (l3 : K.lookup f3 = some ⟨oc3, od3, .func (PySem.W.fnOf "_law_built" "_law_built" (defArgs s__law_built) (defBody s__law_built) (defScope s__law_built) .none kV3 dc3 pm3 an3 cd3 ct3), sl3⟩)
    (c3 : PySem.W.codeIn K cd3 "_law_built" = true)
    (k3 : PySem.W.keepIn K (.ref f3) = true)
    (a4 : PySem.W.nsIn K mainGlobals "_law_joined" = some (some (.ref f4)))
    (l4 : K.lookup f4 = some ⟨oc4, od4, .func (PySem.W.fnOf "_law_joined" "_law_joined" (defArgs s__law_joined) (defBody s__law_joined) (defScope s__law_joined) .none kV4 dc4 pm4 an4 cd4 ct4), sl4⟩)
    (c4 : PySem.W.codeIn K cd4 "_law_joined" = true)
    (k4 : PySem.W.keepIn K (.ref f4) = true)
    (a5 : PySem.W.nsIn K mainGlobals "_law_round" = some (some (.ref f5)))
    (l5 : K.lookup f5 = some ⟨oc5, od5, .func (PySem.W.fnOf "_law_round" "_law_round" (defArgs s__law_round) (defBody s__law_round) (defScope s__law_round) .none kV5 dc5 pm5 an5 cd5 ct5), sl5⟩)
    (c5 : PySem.W.codeIn K cd5 "_law_round" = true)
    (k5 : PySem.W.keepIn K (.ref f5) = true)
    (a6 : PySem.W.nsIn K mainGlobals "_law_rounds" = some (some (.ref f6)))
    (l6 : K.lookup f6 = some ⟨oc6, od6, .func (PySem.W.fnOf "_law_rounds" "_law_rounds" (defArgs s__law_rounds) (defBody s__law_rounds) (defScope s__law_rounds) .none kV6 dc6 pm6 an6 cd6 ct6), sl6⟩)
    (c6 : PySem.W.codeIn K cd6 "_law_rounds" = true)
    (k6 : PySem.W.keepIn K (.ref f6) = true)
    (a7 : PySem.W.nsIn K mainGlobals "_law_row" = some (some (.ref f7)))
    (l7 : K.lookup f7 = some ⟨oc7, od7, .func (PySem.W.fnOf "_law_row" "_law_row" (defArgs s__law_row) (defBody s__law_row) (defScope s__law_row) .none kV7 dc7 pm7 an7 cd7 ct7), sl7⟩)
    (c7 : PySem.W.codeIn K cd7 "_law_row" = true)
    (k7 : PySem.W.keepIn K (.ref f7) = true)
    (a8 : PySem.W.nsIn K mainGlobals "_law_seats" = some (some (.ref f8)))
    (l8 : K.lookup f8 = some ⟨oc8, od8, .func (PySem.W.fnOf "_law_seats" "_law_seats" (defArgs s__law_seats) (defBody s__law_seats) (defScope s__law_seats) .none kV8 dc8 pm8 an8 cd8 ct8), sl8⟩)
    (c8 : PySem.W.codeIn K cd8 "_law_seats" = true)
    (k8 : PySem.W.keepIn K (.ref f8) = true)
    (a9 : PySem.W.nsIn K mainGlobals "_law_whole" = some (some (.ref f9)))
    (l9 : K.lookup f9 = some ⟨oc9, od9, .func (PySem.W.fnOf "_law_whole" "_law_whole" (defArgs s__law_whole) (defBody s__law_whole) (defScope s__law_whole) .none kV9 dc9 pm9 an9 cd9 ct9), sl9⟩)
    (c9 : PySem.W.codeIn K cd9 "_law_whole" = true)
    (k9 : PySem.W.keepIn K (.ref f9) = true)
    (a10 : PySem.W.nsIn K mainGlobals "joined" = some (some (.ref f10)))
    (l10 : K.lookup f10 = some ⟨oc10, od10, .func (PySem.W.fnOf "joined" "joined" (defArgs s_joined) (defBody s_joined) (defScope s_joined) .none kV10 dc10 pm10 an10 cd10 ct10), sl10⟩)
    (c10 : PySem.W.codeIn K cd10 "joined" = true)
    (k10 : PySem.W.keepIn K (.ref f10) = true)
    (a11 : PySem.W.nsIn K mainGlobals "joined_end" = some (some (.ref f11)))
    (l11 : K.lookup f11 = some ⟨oc11, od11, .func (PySem.W.fnOf "joined_end" "joined_end" (defArgs s_joined_end) (defBody s_joined_end) (defScope s_joined_end) .none kV11 dc11 pm11 an11 cd11 ct11), sl11⟩)
    (c11 : PySem.W.codeIn K cd11 "joined_end" = true)
    (k11 : PySem.W.keepIn K (.ref f11) = true)
    (a12 : PySem.W.nsIn K mainGlobals "round_of" = some (some (.ref f12)))
    (l12 : K.lookup f12 = some ⟨oc12, od12, .func (PySem.W.fnOf "round_of" "round_of" (defArgs s_round_of) (defBody s_round_of) (defScope s_round_of) .none kV12 dc12 pm12 an12 cd12 ct12), sl12⟩)
    (c12 : PySem.W.codeIn K cd12 "round_of" = true)
    (k12 : PySem.W.keepIn K (.ref f12) = true)
    (a13 : PySem.W.nsIn K mainGlobals "rounds_of" = some (some (.ref f13)))
    (l13 : K.lookup f13 = some ⟨oc13, od13, .func (PySem.W.fnOf "rounds_of" "rounds_of" (defArgs s_rounds_of) (defBody s_rounds_of) (defScope s_rounds_of) .none kV13 dc13 pm13 an13 cd13 ct13), sl13⟩)
    (c13 : PySem.W.codeIn K cd13 "rounds_of" = true)
    (k13 : PySem.W.keepIn K (.ref f13) = true)
    (a14 : PySem.W.nsIn K mainGlobals "many_rounds" = some (some (.ref f14)))
    (l14 : K.lookup f14 = some ⟨oc14, od14, .func (PySem.W.fnOf "many_rounds" "many_rounds" (defArgs s_many_rounds) (defBody s_many_rounds) (defScope s_many_rounds) .none kV14 dc14 pm14 an14 cd14 ct14), sl14⟩)
    (c14 : PySem.W.codeIn K cd14 "many_rounds" = true)
    (k14 : PySem.W.keepIn K (.ref f14) = true)
    (a15 : PySem.W.nsIn K mainGlobals "law" = some (some (.ref f15)))
    (l15 : K.lookup f15 = some ⟨oc15, od15, .func (PySem.W.fnOf "law" "law" (defArgs s_law) (defBody s_law) (defScope s_law) .none kV15 dc15 pm15 an15 cd15 ct15), sl15⟩)
    (c15 : PySem.W.codeIn K cd15 "law" = true)
    (k15 : PySem.W.keepIn K (.ref f15) = true)
    (z0 : PySem.W.nsIn K mainGlobals "all" = some none)
    (z1 : PySem.W.nsIn K mainGlobals "bool" = some none)
    (z2 : PySem.W.nsIn K mainGlobals "int" = some none)
    (z3 : PySem.W.nsIn K mainGlobals "isinstance" = some none)
    (z4 : PySem.W.nsIn K mainGlobals "len" = some none)
    (z5 : PySem.W.nsIn K mainGlobals "list" = some none)
    (z6 : PySem.W.nsIn K mainGlobals "min" = some none)
    (z7 : PySem.W.nsIn K mainGlobals "range" = some none)
    (z8 : PySem.W.nsIn K mainGlobals "sorted" = some none)
    (y0 : PySem.W.nsIn K mainGlobals "SEATS" = some (some (.int 4 t0)))
    : ∃ fd : FuncData, (∀ (s : Shared) (v : Value), BindsTo s fd ⟨[v], []⟩ [("_law_script", v)]) ∧ ∀ base : Heap, K.In base → base.Ns mainGlobals mg → FnOk l.prog w K mg base CX0 6 fa fd ["_law_script"] (spLawW K) := by
  have e := hfa.symm.trans (PySem.W.mg_of X G a15)
  cases e
  have D0 : Def K mg "_law_alike" s__law_alike := ⟨f0, _, fun_mk (st := s__law_alike) l0 c0 k0, PySem.W.mg_of X G a0⟩
  have D1 : Def K mg "_law_cell" s__law_cell := ⟨f1, _, fun_mk (st := s__law_cell) l1 c1 k1, PySem.W.mg_of X G a1⟩
  have D2 : Def K mg "_law_any_net" s__law_any_net := ⟨f2, _, fun_mk (st := s__law_any_net) l2 c2 k2, PySem.W.mg_of X G a2⟩
  have D3 : Def K mg "_law_built" s__law_built := ⟨f3, _, fun_mk (st := s__law_built) l3 c3 k3, PySem.W.mg_of X G a3⟩
  have D4 : Def K mg "_law_joined" s__law_joined := ⟨f4, _, fun_mk (st := s__law_joined) l4 c4 k4, PySem.W.mg_of X G a4⟩
  have D5 : Def K mg "_law_round" s__law_round := ⟨f5, _, fun_mk (st := s__law_round) l5 c5 k5, PySem.W.mg_of X G a5⟩
  have D6 : Def K mg "_law_rounds" s__law_rounds := ⟨f6, _, fun_mk (st := s__law_rounds) l6 c6 k6, PySem.W.mg_of X G a6⟩
  have D7 : Def K mg "_law_row" s__law_row := ⟨f7, _, fun_mk (st := s__law_row) l7 c7 k7, PySem.W.mg_of X G a7⟩
  have D8 : Def K mg "_law_seats" s__law_seats := ⟨f8, _, fun_mk (st := s__law_seats) l8 c8 k8, PySem.W.mg_of X G a8⟩
  have D9 : Def K mg "_law_whole" s__law_whole := ⟨f9, _, fun_mk (st := s__law_whole) l9 c9 k9, PySem.W.mg_of X G a9⟩
  have D10 : Def K mg "joined" s_joined := ⟨f10, _, fun_mk (st := s_joined) l10 c10 k10, PySem.W.mg_of X G a10⟩
  have D11 : Def K mg "joined_end" s_joined_end := ⟨f11, _, fun_mk (st := s_joined_end) l11 c11 k11, PySem.W.mg_of X G a11⟩
  have D12 : Def K mg "round_of" s_round_of := ⟨f12, _, fun_mk (st := s_round_of) l12 c12 k12, PySem.W.mg_of X G a12⟩
  have D13 : Def K mg "rounds_of" s_rounds_of := ⟨f13, _, fun_mk (st := s_rounds_of) l13 c13 k13, PySem.W.mg_of X G a13⟩
  have D14 : Def K mg "many_rounds" s_many_rounds := ⟨f14, _, fun_mk (st := s_many_rounds) l14 c14 k14, PySem.W.mg_of X G a14⟩
  have b_all := PySem.W.mg_none_of X G z0
  have b_bool := PySem.W.mg_none_of X G z1
  have b_int := PySem.W.mg_none_of X G z2
  have b_isinstance := PySem.W.mg_none_of X G z3
  have b_len := PySem.W.mg_none_of X G z4
  have b_list := PySem.W.mg_none_of X G z5
  have b_min := PySem.W.mg_none_of X G z6
  have b_range := PySem.W.mg_none_of X G z7
  have b_sorted := PySem.W.mg_none_of X G z8
  have c_SEATS : RelV (V.int 4) (.int 4 t0) ∧ mg "SEATS" = some (.int 4 t0) := ⟨⟨_, rfl⟩, PySem.W.mg_of X G y0⟩
  refine ⟨PySem.W.fnOf "law" "law" (defArgs s_law) (defBody s_law) (defScope s_law) .none kV15 dc15 pm15 an15 cd15 ct15, fun s v => .of_eq rfl, fun base _ _ => ?_⟩
  have h__law_alike := ok__law_alike (P := l.prog) (w := w) (base := base) D0 b_all b_bool b_int b_isinstance b_list
  have h__law_cell := ok__law_cell (P := l.prog) (w := w) (base := base) D1 b_int b_len
  have h__law_any_net := ok__law_any_net (P := l.prog) (w := w) (base := base) D2 h__law_cell b_len b_list b_range
  have h__law_built := ok__law_built (P := l.prog) (w := w) (base := base) D3 b_len b_range
  have h__law_joined := ok__law_joined (P := l.prog) (w := w) (base := base) D4
  have h__law_round := ok__law_round (P := l.prog) (w := w) (base := base) D5 h__law_joined
  have h__law_rounds := ok__law_rounds (P := l.prog) (w := w) (base := base) D6 h__law_round b_len b_range
  have h__law_row := ok__law_row (P := l.prog) (w := w) (base := base) D7 h__law_cell b_len b_range
  have h__law_seats := ok__law_seats (P := l.prog) (w := w) (base := base) D8 b_range
  have h__law_whole := ok__law_whole (P := l.prog) (w := w) (base := base) D9 b_bool b_int b_isinstance
  have h_joined := ok_joined (P := l.prog) (w := w) (base := base) D10
  have h_joined_end := ok_joined_end (P := l.prog) (w := w) (base := base) D11 h_joined c_SEATS
  have h_round_of := ok_round_of (P := l.prog) (w := w) (base := base) D12 h_joined_end
  have h_rounds_of := ok_rounds_of (P := l.prog) (w := w) (base := base) D13 h_round_of b_len b_range
  have h_many_rounds := ok_many_rounds (P := l.prog) (w := w) (base := base) D14 h_rounds_of b_len
  exact ok_law (fun_mk (st := s_law) l15 c15 k15) h__law_alike h__law_any_net h__law_built h__law_cell h__law_rounds h__law_row h__law_seats h__law_whole h_many_rounds h_round_of h_rounds_of b_len b_list b_min b_range b_sorted
theorem walk {l : PySem.W.OpenLaw} {q : Program} {loose : List Str} {XP : (Str → Option Value) → Heap → Prop} {YP : World → Heap → Prop} {d : DefRec} {K : Params → PySem.W.Frag} (hn : l.most = some 63) (hdf : d.params.defaults = [])
    (hY : ∀ (w : World) (h : Heap), YP w h → (K w.params).In h)
    (F : ∀ (w : World) (mg : Str → Option Value) (fa : Addr) (h : Heap), (K w.params).In h → h.Ns mainGlobals mg → mg d.name = some (.ref fa) →
      ∃ fd : FuncData, (∀ (s : Shared) (u : Value), BindsTo s fd ⟨[u], []⟩ [("_law_script", u)]) ∧ ∀ base : Heap, (K w.params).In base → base.Ns mainGlobals mg → FnOk l.prog w (K w.params) mg base CX0 6 fa fd ["_law_script"] (spLawW (K w.params))) :
    PySem.W.WalkO q loose XP YP l.row.toRowW d [] (fun f vs => PySem.call f vs) :=
  L2.walk_ofW (n := 63) (k := 6) (x := "_law_script") (CX := fun _ => CX0) (sp := fun w => spLawW (K w.params)) hn (by decide) hdf ⟨rfl, by decide, by decide⟩ hY F (fun _ _ a ns hl hw _ hS => ⟨a, ns, rfl, hS, hl, hw, fun _ => rfl⟩) fun _ _ _ _ _ z => z
end Q14
open PySem PySem.W PyProof.Rows
set_option maxRecDepth 100000 in
set_option maxHeartbeats 0 in
theorem PySem.Challenge.cw_fourway_k14_whole_each_end_once_holds : PySem.Challenge.rw_fourway_k14_whole_each_end_once.Holds := by
  w_on; o_law; k_head; (case hw => w_witness2)
  k_fill
  refine Q14.walk (l := PySem.Challenge.rw_fourway_k14_whole_each_end_once) rfl rfl (fun w h Y => PySem.W.kIn_of Y) ?F
  case F =>
    intro w mg fa h KX G hmg
    refine' Q14.all_mk KX G hmg ?a0 ?l0 ?c0 ?k0 ?a1 ?l1 ?c1 ?k1 ?a2 ?l2 ?c2 ?k2 ?a3 ?l3 ?c3 ?k3 ?a4 ?l4 ?c4 ?k4 ?a5 ?l5 ?c5 ?k5 ?a6 ?l6 ?c6 ?k6 ?a7 ?l7 ?c7 ?k7 ?a8 ?l8 ?c8 ?k8 ?a9 ?l9 ?c9 ?k9 ?a10 ?l10 ?c10 ?k10 ?a11 ?l11 ?c11 ?k11 ?a12 ?l12 ?c12 ?k12 ?a13 ?l13 ?c13 ?k13 ?a14 ?l14 ?c14 ?k14 ?a15 ?l15 ?c15 ?k15 ?z0 ?z1 ?z2 ?z3 ?z4 ?z5 ?z6 ?z7 ?z8 ?y0
    (case a0 => k_is)
    (case l0 => k_is)
    (case c0 => k_is)
    (case k0 => k_is)
    (case a1 => k_is)
    (case l1 => k_is)
    (case c1 => k_is)
    (case k1 => k_is)
    (case a2 => k_is)
    (case l2 => k_is)
    (case c2 => k_is)
    (case k2 => k_is)
    (case a3 => k_is)
    (case l3 => k_is)
    (case c3 => k_is)
    (case k3 => k_is)
    (case a4 => k_is)
    (case l4 => k_is)
    (case c4 => k_is)
    (case k4 => k_is)
    (case a5 => k_is)
    (case l5 => k_is)
    (case c5 => k_is)
    (case k5 => k_is)
    (case a6 => k_is)
    (case l6 => k_is)
    (case c6 => k_is)
    (case k6 => k_is)
    (case a7 => k_is)
    (case l7 => k_is)
    (case c7 => k_is)
    (case k7 => k_is)
    (case a8 => k_is)
    (case l8 => k_is)
    (case c8 => k_is)
    (case k8 => k_is)
    (case a9 => k_is)
    (case l9 => k_is)
    (case c9 => k_is)
    (case k9 => k_is)
    (case a10 => k_is)
    (case l10 => k_is)
    (case c10 => k_is)
    (case k10 => k_is)
    (case a11 => k_is)
    (case l11 => k_is)
    (case c11 => k_is)
    (case k11 => k_is)
    (case a12 => k_is)
    (case l12 => k_is)
    (case c12 => k_is)
    (case k12 => k_is)
    (case a13 => k_is)
    (case l13 => k_is)
    (case c13 => k_is)
    (case k13 => k_is)
    (case a14 => k_is)
    (case l14 => k_is)
    (case c14 => k_is)
    (case k14 => k_is)
    (case a15 => k_is)
    (case l15 => k_is)
    (case c15 => k_is)
    (case k15 => k_is)
    (case z0 => k_is)
    (case z1 => k_is)
    (case z2 => k_is)
    (case z3 => k_is)
    (case z4 => k_is)
    (case z5 => k_is)
    (case z6 => k_is)
    (case z7 => k_is)
    (case z8 => k_is)
    (case y0 => k_is)

